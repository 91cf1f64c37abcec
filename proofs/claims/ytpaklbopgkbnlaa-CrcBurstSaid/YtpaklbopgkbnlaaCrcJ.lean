/- The laws of layer 4 (sums): CrcBurst. -/
import Derived.Test.YtpaklbopgkbnlaaCrcI
namespace Go.Proofs.Ytpaklbopgkbnlaa
open Go Go.RowKit

set_option maxRecDepth 100000 in
set_option maxHeartbeats 1000000 in
theorem crcBurst_any (v : Value) (l : List UInt8) (at0 bu : Nat) (w : World) (hv : bytesArg w v l) (hat : at0 ≤ 65535) (hbu : bu ≤ 4294967295) :
    Calls Try.prog 5 #[v, .int .u16 (at0 : Int), .int .u32 (bu : Int)] w fun e w' => e = .returned (.bool true) ∧ Below w.heap.size w w' := by
  obtain ⟨i0, hi, hz0, hz1, hz2⟩ := info_parts Try.infoB
  obtain ⟨ao, cap, rfl, hc, hm, hsa⟩ := hv
  have HA : Hid (bytesArg w (.slice ao l.length cap) l) := ⟨ao, cap, rfl, hc, hm, hsa⟩
  have HSA : Hid (sliceAt w ao l) := hsa
  clear hsa
  have hl : l.length < 5 ∨ (5 ≤ l.length ∧ 300 < l.length) ∨ (5 ≤ l.length ∧ l.length ≤ 300 ∧ bu = 0) ∨ (5 ≤ l.length ∧ l.length ≤ 300 ∧ bu ≠ 0) := by omega
  rcases hl with hl | ⟨hl, hl2⟩ | ⟨hl, hl2, hl3⟩ | ⟨hl, hl2, hl3⟩
  iterate 2
    · go_enter Try.func5, Try.ntmps5
      go_wp2_with fail
      refine (awake_any _).mono ?_
      rintro e w1 ⟨rfl, hb1⟩
      have HB1 := Lib.hid hb1; clear hb1
      go_wp2
      go_ret
      exact ⟨rfl, HB1.out⟩
  · have t0 : ((bu : Int) == 0) = true := beq_yes (by omega)
    go_enter Try.func5, Try.ntmps5
    go_wp2_with fail
    refine (awake_any _).mono ?_
    rintro e w1 ⟨rfl, hb1⟩
    have HB1 := Lib.hid hb1; clear hb1
    go_wp2
    go_ret
    exact ⟨rfl, HB1.out⟩
  have t0 : ((bu : Int) == 0) = false := beq_no (by omega)
  obtain ⟨D, hD⟩ : ∃ D, D = 8 * l.length - 31 := ⟨_, rfl⟩
  have eD : 8 * (l.length : Int) - 31 = (D : Int) := by omega
  obtain ⟨K, hK⟩ : ∃ K, K = at0 % D := ⟨_, rfl⟩
  have hKl : K < D := by rw [hK]; exact Nat.mod_lt _ (by omega)
  have hK32 : K + 32 ≤ 8 * l.length := by omega
  have eK : (at0 : Int) % (D : Int) = (K : Int) := by rw [hK]; simp
  have hD0 : 0 < D := by omega
  clear hK hD
  go_enter Try.func5, Try.ntmps5
  go_wp2_with fail
  refine (awake_any _).mono ?_
  rintro e w1 ⟨rfl, hb1⟩
  have HB1 := Lib.hid hb1; clear hb1
  go_wp2_with (at_builtin; refine wpList_append_bytes rfl _ _ 23 rfl w1.heap.size 5 i0 Try.underlying23 hi hz0 hz1 hz2 _ _ _ rfl (World.ownsRow_nil _ _ _ _) ao cap l rfl (HSA.out.below HB1.out) ?c1 ?c2 ?_)
  case c1 => omega
  case c2 => exact Nat.le_refl _
  intro v2 w2 hown2 hgrow2
  have HB12 : Hid (Below w1.heap.size w1 w2) := (Below.refl _ _).grown hgrow2 (Nat.le_refl _) (fun k hk => by cases hk)
  have hown2 := own_cast (n' := l.length) (ys := l.map byteV) hown2 (by simp) (by simp)
  obtain ⟨g, cp, rfl, hc2, hm2, hg1, hg2⟩ := ownsRow_slice hown2 (by omega)
  have HO2 := Lib.hid hown2
  have HB2 : Hid (Below w.heap.size w w2) := HB1.out.trans (HB12.out.mono HB1.out.size)
  clear hown2 hgrow2
  unfold maxLen at hm2
  have hgw : w.heap.size ≤ g := Nat.le_trans HB1.out.size hg1
  go_wp2
  go_loopg [10] 32 (fun q x10 wr => ∃ i : Nat, i ≤ 32 ∧ q = 32 - i ∧ x10 = .int .i64 i ∧ g < wr.heap.size ∧ Hid (wr.ownsRow w1.heap.size 5 1 (.slice (some ⟨g, 0, none⟩) l.length cp) l.length ((turnL l K bu i).map byteV)) ∧ Hid (Below w.heap.size w wr))
  case atStart => exact ⟨0, by omega, by omega, rfl, hg2, HO2.out, HB2.out⟩
  case round =>
    obtain ⟨i, hi32, rfl, rfl, hgr, HO, HB⟩ := hrel
    by_cases hlt : i < 32
    · have e0 : bits .and .u32 ((bu : Int) / 2 ^ i) 1 = ((bu / 2 ^ i % 2 : Nat) : Int) := by
        have := and_u32 (bu / 2 ^ i) 1 (Nat.lt_of_le_of_lt (Nat.div_le_self _ _) (by omega)) (by omega)
        rw [show (1 : Nat) = 2 ^ 1 - 1 from rfl, Nat.and_two_pow_sub_one_eq_mod, Int.natCast_ediv, Int.natCast_pow] at this
        exact this
      have hbit := testBit_mod bu i
      by_cases hB : bu.testBit i = true
      · have t1 : (bits .and .u32 ((bu : Int) / 2 ^ i) 1 == 1) = true := by
          rw [hB, eq_comm, decide_eq_true_eq] at hbit
          exact beq_yes (by rw [e0, hbit]; rfl)
        have hP : (K + i) / 8 < l.length := by omega
        obtain ⟨b0, hb0⟩ : ∃ b, b = (turnL l K bu i).getD ((K + i) / 8) 0 := ⟨_, rfl⟩
        have hcell : wr.cell? ⟨g, (K + i) / 8, none⟩ = some (.int .u8 (b0.toNat : Int)) := by
          have hPl : (K + i) / 8 < (turnL l K bu i).length := by rw [turnL_len]; exact hP
          rw [HO.out.cellAt _ (by omega), List.getElem?_map, List.getElem?_eq_getElem hPl, hb0, List.getD_eq_getElem?_getD, List.getElem?_eq_getElem hPl]
          rfl
        have hfr := HO.out.frozenAt ((K + i) / 8)
        have hbt := b0.toNat_lt
        have ex : bits .xor .u8 (b0.toNat : Int) (2 ^ ((K + i) % 8) % 256) = ((xorB b0 (2 ^ ((K + i) % 8))).toNat : Int) := by
          rw [← xorB_bits b0 (pow8_lt _)]
          congr 1
          have := pow8_lt (K + i)
          rw [show ((2 : Int) ^ ((K + i) % 8)) = ((2 ^ ((K + i) % 8) : Nat) : Int) by rw [Int.natCast_pow]; rfl]
          generalize (2 ^ ((K + i) % 8) : Nat) = Z at this ⊢
          omega
        have HE : Hid (turnL l K bu (i + 1) = (turnL l K bu i).set ((K + i) / 8) (xorB b0 (2 ^ ((K + i) % 8)))) := by
          unfold Hid
          rw [turnL, if_pos hB, ← hb0]
        clear e0 hbit hb0 hB
        go_wp2
        go_roundg (32 - (i + 1))
        case measure => omega
        case rel =>
          refine ⟨i + 1, by omega, rfl, by go_num, ?_, ?_, HB.out.setCell hgw _⟩
          · simpa [World.setCell] using hgr
          · have := (HO.out.stored ((K + i) / 8) (byteV (xorB b0 (2 ^ ((K + i) % 8))))).1
            rw [← List.map_set, ← HE.out] at this
            exact this
      · have t1 : (bits .and .u32 ((bu : Int) / 2 ^ i) 1 == 1) = false := by
          have hB' : bu.testBit i = false := by simpa using hB
          rw [hB', eq_comm, decide_eq_false_iff_not] at hbit
          exact beq_no (by rw [e0]; omega)
        have HE : Hid (turnL l K bu (i + 1) = turnL l K bu i) := by
          unfold Hid
          rw [turnL, if_neg hB]
        clear e0 hbit hB
        go_wp2
        go_roundg (32 - (i + 1))
        case measure => omega
        case rel => exact ⟨i + 1, by omega, rfl, by go_num, hgr, by rw [HE.out]; exact HO.out, HB.out⟩
    · obtain rfl : i = 32 := by omega
      obtain ⟨m, hm1⟩ : ∃ m, m = moreS 0 l := ⟨_, rfl⟩
      obtain ⟨n, hn1⟩ : ∃ n, n = moreS 0 (turnL l K bu 32) := ⟨_, rfl⟩
      have HM := Lib.hid hm1
      have HN := Lib.hid hn1
      have hne : m ≠ n := by rw [hm1, hn1]; exact turn_sums 0 l K bu (by omega) hl3 hK32
      have tne : ((m : Int) != (n : Int)) = true := bne_yes (by omega)
      have hml : m < 4294967296 := by rw [hm1]; exact moreS_lt _ _
      have hnl : n < 4294967296 := by rw [hn1]; exact moreS_lt _ _
      clear hm1 hn1 hne
      go_wp2_with fail
      refine (of_any _ l _ (HA.out.below HB.out)).mono ?_
      rintro e w4 ⟨rfl, hb4⟩
      rw [← HM.out]
      have HA4 : Hid (bytesArg w4 (.slice (some ⟨g, 0, none⟩) l.length cp) (turnL l K bu 32)) := (bytesArg_owned HO.out).below hb4
      have HB4 : Hid (Below w.heap.size w w4) := HB.out.trans (hb4.mono HB.out.size)
      clear hb4
      go_wp2_with fail
      refine (of_any _ (turnL l K bu 32) _ HA4.out).mono ?_
      rintro e w5 ⟨rfl, hb5⟩
      rw [← HN.out]
      have HB5 : Hid (Below w.heap.size w w5) := HB4.out.trans (hb5.mono HB4.out.size)
      clear hb5
      go_wp2
      go_ret
      exact ⟨rfl, HB5.out⟩
end Go.Proofs.Ytpaklbopgkbnlaa
