/- The law CharsFold: contract. -/
import Derived.Test.YtefgggfakdbhdaaDoorChars8
namespace Go.Proofs.YtefgggfakdbhdaaDoor
open Go Go.RowKit

theorem fold_twice (l : List UInt8) : foldS (foldS l) = foldS l := by
  unfold foldS
  rw [List.map_map]
  apply List.map_congr_left
  intro b _
  show lowB (lowB b) = lowB b
  apply UInt8.toNat_inj.1
  rw [lowB_toNat (lowB b), lowB_toNat b]
  have := b.toNat_lt
  by_cases h : 65 ≤ b.toNat ∧ b.toNat ≤ 90
  · rw [if_pos h, if_neg (by omega)]
  · rw [if_neg h, if_neg h]
theorem low_up {b : UInt8} (h : 97 ≤ b.toNat ∧ b.toNat ≤ 122) : lowB (UInt8.ofNat (b.toNat - 32)) = b := by
  apply UInt8.toNat_inj.1
  have e : (UInt8.ofNat (b.toNat - 32)).toNat = b.toNat - 32 := by rw [UInt8.toNat_ofNat']; have := b.toNat_lt; omega
  rw [lowB_toNat, e, if_pos (by omega)]
  omega
theorem low_same {b : UInt8} (h : 97 ≤ b.toNat ∧ b.toNat ≤ 122) : lowB b = b := by
  apply UInt8.toNat_inj.1
  rw [lowB_toNat, if_neg (by omega)]
theorem fold_set_same {l : List UInt8} {k : Nat} {c : UInt8} (hk : k < l.length) (h : lowB c = lowB l[k]) : foldS (l.set k c) = foldS l := by
  unfold foldS
  rw [List.map_set, h]
  apply List.ext_getElem?
  intro i
  rw [List.getElem?_set]
  split
  · rename_i e
    subst e
    simp [hk]
  · rfl
theorem same_yes (a b : ByteArray) (w : World) (hl : a.size ≤ 9223372036854775807) (h : foldS a.data.toList = foldS b.data.toList) :
    Calls Tryd.prog 23 #[.string a, .string b] w fun e w' => e = .returned (.bool true) ∧ ∃ n, w' = w.drewN n :=
  (same_any a b w hl).mono fun _ _ ⟨he, hw⟩ => ⟨by rw [he, decide_eq_true h], hw⟩
theorem same_no (a b : ByteArray) (w : World) (hl : a.size ≤ 9223372036854775807) (h : ¬ foldS a.data.toList = foldS b.data.toList) :
    Calls Tryd.prog 23 #[.string a, .string b] w fun e w' => e = .returned (.bool false) ∧ ∃ n, w' = w.drewN n :=
  (same_any a b w hl).mono fun _ _ ⟨he, hw⟩ => ⟨by rw [he, decide_eq_false h], hw⟩
theorem fold_some (s : ByteArray) (w : World) (hl : s.size ≤ 9223372036854775807) :
    Calls Tryd.prog 21 #[.string s] w fun e w' => ∃ T : ByteArray, e = .returned (.string T) ∧ T.data.toList = foldS s.data.toList ∧ Below w.heap.size w w' :=
  (fold_any s w hl).mono fun _ _ ⟨he, hw⟩ => ⟨_, he, by simp, hw⟩

theorem conv_back {W1 : World} {s : ByteArray} {B cap k : Nat} {c : UInt8} {x : Int} (h : rowAt W1 B 5 (s.data.toList.map byteV)) (hx : x = (c.toNat : Int)) :
    ∃ L : ByteArray, L.data.toList = s.data.toList.set k c ∧ L.size = s.size ∧ ∀ w : World, w.heap = (W1.setCell ⟨B, k, none⟩ (.int .u8 x)).heap → (convert 34 9 (.slice (some ⟨B, 0, none⟩) s.size cap)).run Tryd.prog w = .ok (.string L) w := by
  have := h.set k (byteV c)
  rw [← List.map_set] at this
  subst hx
  refine ⟨⟨(s.data.toList.set k c).toArray⟩, by simp, by show (List.toArray _).size = _; simp, fun w hw => ?_⟩
  have := this.below (w' := w) (by rw [hw]; rfl)
  exact run_string_of_row Tryd.underlying34 Tryd.underlying5 Tryd.underlying9 this (by simp)

theorem wrap_add1 (b : UInt8) : ((b.toNat : Int) + 1) % 256 = ((b + 1).toNat : Int) := by
  rw [UInt8.toNat_add]
  have h1 : (1 : UInt8).toNat = 1 := rfl
  have := b.toNat_lt
  rw [h1]
  omega

set_option maxRecDepth 100000 in
theorem charsFold_any (s : ByteArray) (at_ : Nat) (flip : Bool) (w : World) (hs : s.size ≤ 9223372036854775807) (hat : at_ ≤ 65535) (ht : tab w) :
    Calls Tryd.prog 7 #[.string s, .int .u16 (at_ : Int), .bool flip] w fun e w' => e = .returned (.bool true) ∧ Below w.heap.size w w' := by
  have HT := Lib.hid ht; clear ht
  by_cases h1 : 300 < s.size
  · go_enter Tryd.func7, Tryd.ntmps7
    go_wp2_with fail
    refine (awake_any _ HT.out).mono ?_
    rintro e w1 ⟨rfl, hb1⟩
    have HB1 := Lib.hid hb1; clear hb1
    go_wp2
    go_ret
    exact ⟨rfl, HB1.out⟩
  · go_enter Tryd.func7, Tryd.ntmps7
    go_wp2_with fail
    refine (awake_any _ HT.out).mono ?_
    rintro e w1 ⟨rfl, hb1⟩
    have HB1 := Lib.hid hb1; clear hb1
    go_wp2_with fail
    refine (fold_some s _ (by omega)).mono ?_
    rintro e w2 ⟨T, rfl, hT, hb2⟩
    have HTT := Lib.hid hT; clear hT
    have HB2 := Lib.hid (HB1.out.trans (hb2.mono HB1.out.size)); clear hb2 HB1
    have HTS : Hid (T.size = s.size) := by show T.size = s.size; rw [bytes_len, HTT.out, bytes_len s]; simp [foldS]
    have hTS1 : T.size ≤ s.size := by rw [HTS.out]; omega
    have hTS2 : s.size ≤ T.size := by rw [HTS.out]; omega
    go_wp2_with fail
    refine (fold_some T _ (by omega)).mono ?_
    rintro e w3 ⟨T2, rfl, hT2, hb3⟩
    have hTT2 : T2 = T := bytes_eq (by rw [hT2, HTT.out, fold_twice])
    subst hTT2; clear hT2
    have HB3 := Lib.hid (HB2.out.trans (hb3.mono HB2.out.size)); clear hb3 HB2
    go_wp2_with fail
    refine (same_yes s T2 _ (by omega) (by rw [HTT.out, fold_twice])).mono ?_
    rintro e w4 ⟨rfl, n4, rfl⟩
    by_cases h0 : s.size = 0
    · have H0 := Lib.hid h0
      have hz : ((s.size : Int) == 0) = true := by simp [h0]
      clear h0
      go_wp2
      go_ret
      exact ⟨rfl, below_drewN HB3.out n4⟩
    · have hz : ((s.size : Int) == 0) = false := beq_no (by omega)
      have h0' : 0 < s.size := by omega
      clear h0
      obtain ⟨W1, cap, hrun, hrow, hbel, _⟩ := conv_bytes (P := Tryd.prog) (w3.drewN n4) 9 34 5 s Tryd.underlying9 Tryd.underlying34 Tryd.underlying5
      have HB4 : Hid (Below w.heap.size w W1) := (below_drewN HB3.out n4).trans (hbel.mono HB3.out.size)
      have hB : w.heap.size ≤ (w3.drewN n4).heap.size := HB3.out.size
      generalize (w3.drewN n4).heap.size = B at hrun hrow hB
      have HR := Lib.hid hrow
      have hK : at_ % s.size < s.size := Nat.mod_lt _ h0'
      have hlen : at_ % s.size < (s.data.toList.map byteV).length := by simpa using hK
      have hcell : W1.cell? ⟨B, at_ % s.size, none⟩ = some (.int .u8 ((s[at_ % s.size]'hK).toNat : Int)) := by
        rw [hrow.cell _ hlen]
        simp [byteV]
        rfl
      have hfr : W1.frozen? ⟨B, at_ % s.size, none⟩ = false := hrow.frozen _ hlen
      clear hlen hbel hrow HB3
      have HK := Lib.hid hK
      cases flip
      · obtain ⟨L, hL, hLz, hst0⟩ := conv_back (cap := cap) (k := at_ % s.size) HR.out (wrap_add1 (s[at_ % s.size]'hK))
        have HBS : Hid (Below w.heap.size w (W1.setCell ⟨B, at_ % s.size, none⟩ (.int .u8 ((((s[at_ % s.size]'hK).toNat : Int) + 1) % 256)))) := HB4.out.setCell hB _
        have HS0 := Lib.hid hst0
        have hst := hst0 _ rfl
        have HL := Lib.hid (And.intro hL hLz)
        clear hL hLz hst0
        obtain ⟨q, hq⟩ : ∃ q, q = decide (foldS L.data.toList = foldS s.data.toList) := ⟨_, rfl⟩
        have HE := Lib.hid (fun w => same_any L s w (by rw [HL.out.2]; omega))
        rw [← hq] at HE
        have HQ := Lib.hid hq; clear hq
        go_wp2_with fail
        refine (HE.out _).mono ?_
        rintro e w5 ⟨rfl, n5, rfl⟩
        clear hst
        have hst := HS0.out _ (World.heap_drewN _ n5)
        go_wp2_with fail
        refine (fold_some L _ (by rw [HL.out.2]; omega)).mono ?_
        rintro e w6 ⟨T3, rfl, hT3, hb6⟩
        have HB6 := Lib.hid ((below_drewN HBS.out n5).trans (hb6.mono (below_drewN HBS.out n5).size))
        have hq : (T3.toList == T2.toList) = q := by
          rw [ByteArray.toList_eq, ByteArray.toList_eq, hT3, HTT.out, HQ.out, Bool.eq_iff_iff]
          simp
        clear hb6 hT3
        go_wp2
        go_ret
        exact ⟨ret_bool (by simp), HB6.out⟩
      · have hX := byte_lt (s[at_ % s.size]'hK)
        by_cases hlow : 97 ≤ (s[at_ % s.size]'hK).toNat ∧ (s[at_ % s.size]'hK).toNat ≤ 122
        · obtain ⟨hl1, hl2⟩ := hlow
          obtain ⟨L, hL, hLz, hst0⟩ := conv_back (cap := cap) (k := at_ % s.size) (x := ((s[at_ % s.size]'hK).toNat : Int) - 32) (c := UInt8.ofNat ((s[at_ % s.size]'hK).toNat - 32)) HR.out (by rw [UInt8.toNat_ofNat']; omega)
          have HBS : Hid (Below w.heap.size w (W1.setCell ⟨B, at_ % s.size, none⟩ (.int .u8 (((s[at_ % s.size]'hK).toNat : Int) - 32)))) := HB4.out.setCell hB _
          have hst := hst0 _ rfl
          have he : foldS L.data.toList = foldS s.data.toList := by
            rw [hL]
            refine fold_set_same (by simpa using hK) ?_
            rw [low_up ⟨hl1, hl2⟩]
            exact (low_same ⟨hl1, hl2⟩).symm
          have HE := Lib.hid (fun w => same_yes L s w (by rw [hLz]; omega) he)
          clear hL hLz hst0 he
          go_wp2_with fail
          refine (HE.out _).mono ?_
          rintro e w5 ⟨rfl, n5, rfl⟩
          go_wp2
          go_ret
          exact ⟨rfl, below_drewN HBS.out n5⟩
        · have hst := fun cap => run_string_of_row (P := Tryd.prog) (cap := cap) (n := s.size) Tryd.underlying34 Tryd.underlying5 Tryd.underlying9 HR.out (by simp)
          have hlow' : ((s[at_ % s.size]'hK).toNat : Int) < 97 ∨ 122 < ((s[at_ % s.size]'hK).toNat : Int) := by omega
          have HE := Lib.hid (fun w => same_yes ⟨s.data.toList.toArray⟩ s w (by show (List.toArray _).size ≤ _; simp; omega) (by simp))
          clear hlow
          rcases hlow' with hl1 | hl1
          all_goals
            go_wp2_with fail
            refine (HE.out _).mono ?_
            rintro e w5 ⟨rfl, n5, rfl⟩
            go_wp2
            go_ret
            exact ⟨rfl, below_drewN HB4.out n5⟩
end Go.Proofs.YtefgggfakdbhdaaDoor
