/- The laws of layer 4 (sums): what is awake; CrcOf. -/
import Derived.Test.YtpaklbopgkbnlaaCrcD
import Derived.Lib.SlBytesConst
import Derived.Deep.RegionHeld
namespace Go.Proofs.Ytpaklbopgkbnlaa
open Go Go.RowKit

theorem nine_sum : moreS 0 [49, 50, 51, 52, 53, 54, 55, 56, 57] = 3421780262 := by kernel_rfl
theorem five_sum : moreS (moreS 0 [49, 50, 51, 52]) [53, 54, 55, 56, 57] = 3421780262 := by kernel_rfl

theorem awake_any (w : World) : Calls Try.prog 8 #[] w fun e w' => e = .returned (.bool true) ∧ Below w.heap.size w w' := by
  have HA := Lib.hid (sliceAt_new w 5 (9, 10) #[.int .u8 49, .int .u8 50, .int .u8 51, .int .u8 52, .int .u8 53, .int .u8 54, .int .u8 55, .int .u8 56, .int .u8 57] [49, 50, 51, 52, 53, 54, 55, 56, 57] rfl)
  have kc := fun (w : World) (C : Array Value) (n c : Nat) => Lib.run_convert_bytes_const (P := Try.prog) w 23 5 C n c Try.underlying23 Try.underlying5
  go_enter Try.func8, Try.ntmps8
  go_wp2_with fail
  refine (of_any _ [49, 50, 51, 52, 53, 54, 55, 56, 57] _ (HA.out.arg (cap := 9) (by decide) (by decide))).mono ?_
  rintro e w1 ⟨rfl, hb⟩
  rw [nine_sum]
  have HB : Hid (Below w.heap.size w w1) := ((Below.refl _ _).alloc (Nat.le_refl _) _).trans (hb.mono (by simp))
  clear hb HA
  have HA2 := Lib.hid (sliceAt_new w1 5 (4, 5) #[.int .u8 49, .int .u8 50, .int .u8 51, .int .u8 52] [49, 50, 51, 52] rfl)
  go_wp2_with fail
  refine (of_any _ [49, 50, 51, 52] _ (HA2.out.arg (cap := 4) (by decide) (by decide))).mono ?_
  rintro e w2 ⟨rfl, hb⟩
  have hl := moreS_lt 0 [49, 50, 51, 52]
  have H5 := Lib.hid five_sum
  obtain ⟨n, hn⟩ : ∃ n, n = moreS 0 [49, 50, 51, 52] := ⟨_, rfl⟩
  rw [← hn] at hl H5 ⊢
  have HB2 : Hid (Below w.heap.size w w2) := HB.out.trans ((((Below.refl _ _).alloc (Nat.le_refl _) _).trans (hb.mono (by simp))).mono HB.out.size)
  clear hb HA2 hn
  have HA3 := Lib.hid (sliceAt_new w2 5 (5, 6) #[.int .u8 53, .int .u8 54, .int .u8 55, .int .u8 56, .int .u8 57] [53, 54, 55, 56, 57] rfl)
  go_wp2_with fail
  refine (more_any n _ [53, 54, 55, 56, 57] _ hl (HA3.out.arg (cap := 5) (by decide) (by decide))).mono ?_
  rintro e w3 ⟨rfl, hb⟩
  rw [H5.out]
  have HB3 : Hid (Below w.heap.size w w3) := HB2.out.trans ((((Below.refl _ _).alloc (Nat.le_refl _) _).trans (hb.mono (by simp))).mono HB2.out.size)
  clear hb HA3
  go_wp2
  go_ret
  exact ⟨rfl, HB3.out⟩

set_option maxRecDepth 100000 in
set_option maxHeartbeats 1000000 in
theorem crcOf_any (s : Nat) (v : Value) (l : List UInt8) (w : World) (hs : s ≤ 4294967295) (hv : bytesArg w v l) :
    Calls Try.prog 3 #[.int .u32 (s : Int), v] w fun e w' => e = .returned (.bool true) ∧ Below w.heap.size w w' := by
  obtain ⟨ao, cap, rfl, hc, hm, hs1⟩ := hv
  have HS : Hid (bytesArg w (.slice ao l.length cap) l) := ⟨ao, cap, rfl, hc, hm, hs1⟩
  clear hs1
  by_cases hl : 500 < l.length
  · go_enter Try.func3, Try.ntmps3
    go_wp2_with fail
    refine (awake_any _).mono ?_
    rintro e w1 ⟨rfl, hb1⟩
    have HB1 := Lib.hid hb1; clear hb1
    go_wp2
    go_ret
    exact ⟨rfl, HB1.out⟩
  · have hl' : l.length ≤ 500 := by omega
    clear hl
    go_enter Try.func3, Try.ntmps3
    go_wp2_with fail
    refine (awake_any _).mono ?_
    rintro e w1 ⟨rfl, hb1⟩
    have HB1 := Lib.hid hb1
    obtain ⟨B, hB⟩ : ∃ B : ByteArray, B = ⟨l.toArray⟩ := ⟨_, rfl⟩
    have hBl : B.size ≤ 65536 := by rw [hB]; show (List.toArray l).size ≤ 65536; simp; omega
    have HBL : Hid (B.data.toList = l) := by unfold Hid; rw [hB]
    have HV : Hid (∀ W', Below w1.heap.size w1 W' → bytesArg W' (.slice ao l.length cap) l) := fun W' hb => (HS.out.below hb1).below hb
    have HU : Hid (∀ W', Below w1.heap.size w1 W' → (convert 23 9 (.slice ao l.length cap)).run Try.prog W' = .ok (.string B) W') := by
      intro W' hb
      rw [hB]
      exact bytesArg_string ((HS.out.below hb1).below hb)
    clear hb1 hB
    obtain ⟨m, hm1⟩ : ∃ m, m = moreS s l := ⟨_, rfl⟩
    obtain ⟨n, hn⟩ : ∃ n, n = moreS 0 l := ⟨_, rfl⟩
    have HM := Lib.hid hm1
    have HN := Lib.hid hn
    have hml : m < 4294967296 := by rw [hm1]; exact moreS_lt _ _
    have hnl : n < 4294967296 := by rw [hn]; exact moreS_lt _ _
    clear hm1 hn
    have hB3 : Below w1.heap.size w1 w1.drew := (Below.refl _ _).drew
    go_wp2_with fail
    go_region_held (fun W' => (convert 23 9 (.slice ao l.length cap)).run Try.prog W' = .ok (.string B) W') (exact HU.out _ (by assumption))
      ((first | (go_at_call 9; refine (more_any s _ l _ (by omega) (HV.out _ (by assumption))).mono ?_; rintro e w4 ⟨rfl, hb4⟩; rw [← HM.out]; have hB4 : Below w1.heap.size w1 w4 := hB3.trans (hb4.mono hB3.size)) | (go_at_call 10; refine (refMore_any s B _ (by omega) hBl).mono ?_; rintro e w4' ⟨rfl, rfl⟩; rw [HBL.out, ← HM.out]) | (go_at_call 11; refine (of_any _ l _ (HV.out _ (by assumption))).mono ?_; rintro e w5 ⟨rfl, hb5⟩; rw [← HN.out]; have hB5 : Below w1.heap.size w1 w5 := hB4.trans (hb5.mono hB4.size)) | (go_at_call 12; refine (refOf_any B _ hBl).mono ?_; rintro e w5' ⟨rfl, rfl⟩; rw [HBL.out, ← HN.out])))
    all_goals
      have HB5 := Lib.hid (HB1.out.trans (hB5.mono HB1.out.size))
      clear hB5 hB4 hB3 hb4 hb5
      go_wp2
      go_ret
      exact ⟨rfl, HB5.out⟩
end Go.Proofs.Ytpaklbopgkbnlaa
