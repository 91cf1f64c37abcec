/- The laws of layer 4 (sums): CrcOne. -/
import Derived.Test.YtpaklbopgkbnlaaCrcG
namespace Go.Proofs.Ytpaklbopgkbnlaa
open Go Go.RowKit

/-- A byte with bits turned. -/
def xorB (b : UInt8) (n : Nat) : UInt8 := byteN (b.toNat ^^^ n)
theorem xorB_lt (b : UInt8) {n : Nat} (hn : n < 256) : b.toNat ^^^ n < 256 := Nat.xor_lt_two_pow (n := 8) b.toNat_lt hn
theorem xorB_toNat (b : UInt8) {n : Nat} (hn : n < 256) : (xorB b n).toNat = b.toNat ^^^ n := by
  unfold xorB
  exact byteN_toNat _ (xorB_lt b hn)
theorem xorB_bits (b : UInt8) {n : Nat} (hn : n < 256) : bits .xor .u8 (b.toNat : Int) (n : Int) = ((xorB b n).toNat : Int) := by
  rw [xorB_toNat b hn]
  exact u8_xor_nat _ _ b.toNat_lt hn
theorem xorB_same (b : UInt8) {n : Nat} (hn : n < 256) : xorB b n = b ↔ n = 0 := by
  constructor
  · intro h
    have h1 := xorB_toNat b hn
    rw [h] at h1
    have h2 : b.toNat ^^^ n = b.toNat ^^^ 0 := by rw [Nat.xor_zero]; exact h1.symm
    exact xor_inj h2
  · rintro rfl
    apply toNat_eq
    rw [xorB_toNat b hn, Nat.xor_zero]
theorem set_split (l : List UInt8) (k : Nat) (h : k < l.length) (c : UInt8) : l.set k c = l.take k ++ c :: l.drop (k + 1) := by
  rw [List.set_eq_take_append_cons_drop, if_pos h]
theorem get_split (l : List UInt8) (k : Nat) (h : k < l.length) : l = l.take k ++ l[k] :: l.drop (k + 1) := by
  rw [← List.drop_eq_getElem_cons h, List.take_append_drop]
theorem one_sums (s : Nat) (l : List UInt8) (k : Nat) (h : k < l.length) (c : UInt8) : moreS s l = moreS s (l.set k c) ↔ l[k] = c := by
  rw [moreS_eq, set_split l k h c]
  conv => lhs; lhs; rw [get_split l k h]
  exact one_byte _ (by unfold allN; omega) _ _ _ _

set_option maxRecDepth 100000 in
set_option maxHeartbeats 1000000 in
theorem crcOne_any (v : Value) (l : List UInt8) (at0 : Nat) (x : UInt8) (w : World) (hv : bytesArg w v l) (hat : at0 ≤ 65535) :
    Calls Try.prog 7 #[v, .int .u16 (at0 : Int), .int .u8 (x.toNat : Int)] w fun e w' => e = .returned (.bool true) ∧ Below w.heap.size w w' := by
  obtain ⟨i0, hi, hz0, hz1, hz2⟩ := info_parts Try.infoB
  obtain ⟨ao, cap, rfl, hc, hm, hsa⟩ := hv
  have HA : Hid (bytesArg w (.slice ao l.length cap) l) := ⟨ao, cap, rfl, hc, hm, hsa⟩
  have HSA : Hid (sliceAt w ao l) := hsa
  clear hsa
  have hxt := x.toNat_lt
  have hl : l.length = 0 ∨ (l.length ≠ 0 ∧ 500 < l.length) ∨ (0 < l.length ∧ l.length ≤ 500) := by omega
  rcases hl with hl | ⟨hl, hl2⟩ | ⟨hl, hl2⟩
  iterate 2
    · go_enter Try.func7, Try.ntmps7
      go_wp2_with fail
      refine (awake_any _).mono ?_
      rintro e w1 ⟨rfl, hb1⟩
      have HB1 := Lib.hid hb1; clear hb1
      go_wp2
      go_ret
      exact ⟨rfl, HB1.out⟩
  have t0 : ((l.length : Int) == 0) = false := beq_no (by omega)
  obtain ⟨K, hK⟩ : ∃ K, K = at0 % l.length := ⟨_, rfl⟩
  have hKl : K < l.length := by rw [hK]; exact Nat.mod_lt _ hl
  have eK : (at0 : Int) % (l.length : Int) = (K : Int) := by rw [hK]; simp
  clear hK
  obtain ⟨c0, hc0⟩ : ∃ c, c = l[K] := ⟨_, rfl⟩
  have HC := Lib.hid hc0
  have hbits := xorB_bits c0 hxt
  obtain ⟨y, hy⟩ : ∃ y, y = xorB c0 x.toNat := ⟨_, rfl⟩
  rw [← hy] at hbits
  have HY := Lib.hid hy
  have hyt := y.toNat_lt
  clear hc0 hy
  go_enter Try.func7, Try.ntmps7
  go_wp2_with fail
  refine (awake_any _).mono ?_
  rintro e w1 ⟨rfl, hb1⟩
  have HB1 := Lib.hid hb1; clear hb1
  go_wp2_with (at_builtin; refine wpList_append_bytes rfl _ _ 23 rfl w1.heap.size 5 i0 Try.underlying23 hi hz0 hz1 hz2 _ _ _ rfl (World.ownsRow_nil _ _ _ _) ao cap l rfl (HSA.out.below HB1.out) ?c1 ?c2 ?_)
  case c1 => omega
  case c2 => exact Nat.le_refl _
  intro v2 w2 hown2 hgrow2
  have HB12 : Hid (Below w1.heap.size w1 w2) := (Below.refl _ _).grown hgrow2 (Nat.le_refl _) (fun k hk => by cases hk)
  have hown2 := own_cast (n' := l.length) (ys := l.map byteV) hown2 (by simp) (by simp)
  obtain ⟨g, cp, rfl, hc2, hm2, hg1, hg2⟩ := ownsRow_slice hown2 hl
  have HO2 := Lib.hid hown2
  have HB2 : Hid (Below w.heap.size w w2) := HB1.out.trans (HB12.out.mono HB1.out.size)
  have hcell : w2.cell? ⟨g, K, none⟩ = some (.int .u8 (c0.toNat : Int)) := by
    rw [HO2.out.cellAt K (by omega), List.getElem?_map, List.getElem?_eq_getElem hKl, HC.out]
    rfl
  have hfr := HO2.out.frozenAt K
  clear hown2 hgrow2
  unfold maxLen at hm2
  obtain ⟨m, hm1⟩ : ∃ m, m = moreS 0 l := ⟨_, rfl⟩
  obtain ⟨n, hn1⟩ : ∃ n, n = moreS 0 (l.set K y) := ⟨_, rfl⟩
  have HM := Lib.hid hm1
  have HN := Lib.hid hn1
  have HMN : Hid (m = n ↔ x.toNat = 0) := by
    unfold Hid
    rw [hm1, hn1, one_sums 0 l K hKl y, ← HC.out, HY.out, eq_comm]
    exact xorB_same c0 hxt
  have hml : m < 4294967296 := by rw [hm1]; exact moreS_lt _ _
  have hnl : n < 4294967296 := by rw [hn1]; exact moreS_lt _ _
  clear hm1 hn1
  have hb : ∃ u v : Bool, ((x.toNat : Int) == 0) = u ∧ ((m : Int) == (n : Int)) = v ∧ Hid (u = v) := by
    refine ⟨_, _, rfl, rfl, ?_⟩
    unfold Hid
    by_cases h : x.toNat = 0
    · rw [beq_yes (by omega), beq_yes (by have := HMN.out.2 h; omega)]
    · rw [beq_no (by omega), beq_no (by intro h'; exact h (HMN.out.1 (by omega)))]
  obtain ⟨u, u2, hu, hu2, HU⟩ := hb
  have HO3 : Hid ((w2.setCell ⟨g, K, none⟩ (.int .u8 (y.toNat : Int))).ownsRow w1.heap.size 5 1 (.slice (some ⟨g, 0, none⟩) l.length cp) l.length ((l.set K y).map byteV)) := by
    have := (HO2.out.stored K (byteV y)).1
    rw [← List.map_set] at this
    exact this
  have HB3 : Hid (Below w.heap.size w (w2.setCell ⟨g, K, none⟩ (.int .u8 (y.toNat : Int)))) := HB2.out.setCell (Nat.le_trans HB1.out.size hg1) _
  go_wp2_with fail
  obtain ⟨w3, hw3⟩ : ∃ w3, w3 = w2.setCell ⟨g, K, none⟩ (.int .u8 (y.toNat : Int)) := ⟨_, rfl⟩
  rw [← hw3] at HO3 HB3 ⊢
  clear hw3
  refine (of_any _ l _ (HA.out.below HB3.out)).mono ?_
  rintro e w4 ⟨rfl, hb4⟩
  rw [← HM.out]
  have HA4 : Hid (bytesArg w4 (.slice (some ⟨g, 0, none⟩) l.length cp) (l.set K y)) := (bytesArg_owned HO3.out).below hb4
  have HB4 : Hid (Below w.heap.size w w4) := HB3.out.trans (hb4.mono HB3.out.size)
  clear hb4
  go_wp2_with fail
  refine (of_any _ (l.set K y) _ HA4.out).mono ?_
  rintro e w5 ⟨rfl, hb5⟩
  rw [← HN.out]
  have HB5 : Hid (Below w.heap.size w w5) := HB4.out.trans (hb5.mono HB4.out.size)
  clear hb5
  go_wp2
  go_ret
  exact ⟨ret_bool (by rw [HU.out]; simp), HB5.out⟩
end Go.Proofs.Ytpaklbopgkbnlaa
