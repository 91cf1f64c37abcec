/- The laws of layer 4 (sums): CrcParts. -/
import Derived.Test.YtpaklbopgkbnlaaCrcE
import Derived.Test.YtpaklbopgkbnlaaApp
namespace Go.Proofs.Ytpaklbopgkbnlaa
open Go Go.RowKit

theorem bytesArg_nil (w : World) : bytesArg w (.slice none 0 0) [] := ⟨none, 0, rfl, Nat.le_refl _, Nat.zero_le _, .inl rfl⟩

set_option maxRecDepth 100000 in
set_option maxHeartbeats 1000000 in
theorem crcParts_any (s : Nat) (va : Value) (a : List UInt8) (vb : Value) (b : List UInt8) (w : World) (hs : s ≤ 4294967295) (hva : bytesArg w va a) (hvb : bytesArg w vb b) :
    Calls Try.prog 4 #[.int .u32 (s : Int), va, vb] w fun e w' => e = .returned (.bool true) ∧ Below w.heap.size w w' := by
  obtain ⟨i0, hi, hz0, hz1, hz2⟩ := info_parts Try.infoB
  obtain ⟨ao, cap, rfl, hc, hm, hsa⟩ := hva
  obtain ⟨bo, bap, rfl, hbc, hbm, hsb⟩ := hvb
  have HA : Hid (bytesArg w (.slice ao a.length cap) a) := ⟨ao, cap, rfl, hc, hm, hsa⟩
  have HBB : Hid (bytesArg w (.slice bo b.length bap) b) := ⟨bo, bap, rfl, hbc, hbm, hsb⟩
  have HSA : Hid (sliceAt w ao a) := hsa
  have HSB : Hid (sliceAt w bo b) := hsb
  clear hsa hsb
  have hl : 500 < a.length ∨ (a.length ≤ 500 ∧ 500 < b.length) ∨ (a.length ≤ 500 ∧ b.length ≤ 500) := by omega
  rcases hl with hl | ⟨hl, hl2⟩ | ⟨hl, hl2⟩
  iterate 2
    · go_enter Try.func4, Try.ntmps4
      go_wp2_with fail
      refine (awake_any _).mono ?_
      rintro e w1 ⟨rfl, hb1⟩
      have HB1 := Lib.hid hb1; clear hb1
      go_wp2
      go_ret
      exact ⟨rfl, HB1.out⟩
  go_enter Try.func4, Try.ntmps4
  go_wp2_with fail
  refine (awake_any _).mono ?_
  rintro e w1 ⟨rfl, hb1⟩
  have HB1 := Lib.hid hb1; clear hb1
  go_wp2_with (at_builtin; refine wpList_append_bytes rfl _ _ 23 rfl w1.heap.size 5 i0 Try.underlying23 hi hz0 hz1 hz2 _ _ _ rfl (World.ownsRow_nil _ _ _ _) ao cap a rfl (HSA.out.below HB1.out) ?c1 ?c2 ?_)
  case c1 => omega
  case c2 => exact Nat.le_refl _
  intro v2 w2 hown2 hgrow2
  have HO2 := Lib.hid hown2
  have HB12 : Hid (Below w1.heap.size w1 w2) := (Below.refl _ _).grown hgrow2 (Nat.le_refl _) (fun k hk => by cases hk)
  have HB2 : Hid (Below w.heap.size w w2) := HB1.out.trans (HB12.out.mono HB1.out.size)
  clear hown2 hgrow2
  go_wp2_with (at_builtin; refine wpList_append_bytes rfl _ _ 23 rfl w1.heap.size 5 i0 Try.underlying23 hi hz0 hz1 hz2 _ _ _ rfl HO2.out bo bap b rfl (HSB.out.below HB2.out) ?c1 ?c2 ?_)
  case c1 => omega
  case c2 => exact HB12.out.size
  intro v3 w3 hown3 hgrow3
  have HA3 : Hid (bytesArg w3 v3 (a ++ b)) := bytesArg_owned (own_cast (n' := (a ++ b).length) (ys := (a ++ b).map byteV) hown3 (by simp) (by simp))
  have HB13 : Hid (Below w1.heap.size w1 w3) := HB12.out.grown hgrow3 HB12.out.size (fun q hq => (HO2.out.lt q hq).1)
  have HB3 : Hid (Below w.heap.size w w3) := HB1.out.trans (HB13.out.mono HB1.out.size)
  clear hown3 hgrow3
  obtain ⟨m, hm1⟩ : ∃ m, m = moreS s a := ⟨_, rfl⟩
  obtain ⟨n, hn1⟩ : ∃ n, n = moreS s (a ++ b) := ⟨_, rfl⟩
  have HM := Lib.hid hm1
  have HN := Lib.hid hn1
  have HMN : Hid (moreS m b = n) := by unfold Hid; rw [hm1, hn1, moreS_append (by omega)]
  have HZ : Hid (moreS s [] = s) := moreS_nil (by omega)
  have hml : m < 4294967296 := by rw [hm1]; exact moreS_lt _ _
  have hnl : n < 4294967296 := by rw [hn1]; exact moreS_lt _ _
  clear hm1 hn1
  go_wp2_with fail
  refine (more_any s _ a _ (by omega) (HA.out.below HB3.out)).mono ?_
  rintro e w4 ⟨rfl, hb4⟩
  rw [← HM.out]
  have HB34 := Lib.hid hb4
  have HB4 : Hid (Below w.heap.size w w4) := HB3.out.trans (hb4.mono HB3.out.size)
  clear hb4
  go_wp2_with fail
  refine (more_any m _ b _ hml (HBB.out.below HB4.out)).mono ?_
  rintro e w5 ⟨rfl, hb5⟩
  rw [HMN.out]
  have HB35 : Hid (Below w3.heap.size w3 w5) := HB34.out.trans (hb5.mono HB34.out.size)
  have HB5 : Hid (Below w.heap.size w w5) := HB4.out.trans (hb5.mono HB4.out.size)
  clear hb5
  go_wp2_with fail
  refine (more_any s _ (a ++ b) _ (by omega) (HA3.out.below HB35.out)).mono ?_
  rintro e w6 ⟨rfl, hb6⟩
  rw [← HN.out]
  have HB6 : Hid (Below w.heap.size w w6) := HB5.out.trans (hb6.mono HB5.out.size)
  clear hb6
  go_wp2_with fail
  refine (more_any s _ [] _ (by omega) (bytesArg_nil _)).mono ?_
  rintro e w7 ⟨rfl, hb7⟩
  rw [HZ.out]
  have HB7 : Hid (Below w.heap.size w w7) := HB6.out.trans (hb7.mono HB6.out.size)
  clear hb7
  go_wp2
  go_ret
  exact ⟨rfl, HB7.out⟩
end Go.Proofs.Ytpaklbopgkbnlaa
