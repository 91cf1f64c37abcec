/- Contract of the document's zone. -/
import Derived.Test.YtpmjlhpbknppiaaDoorDsA
import Derived.Test.YtpmjlhpbknppiaaDoorDrQ
import Derived.Test.YtpmjlhpbknppiaaDoorDrE
namespace Go.Proofs.YtpmjlhpbknppiaaDoor
open Go Go.RowKit

def zNames : List Value := [.string ⟨#[101, 100, 116]⟩, .string ⟨#[101, 115, 116]⟩, .string ⟨#[99, 100, 116]⟩, .string ⟨#[99, 115, 116]⟩, .string ⟨#[109, 100, 116]⟩, .string ⟨#[109, 115, 116]⟩, .string ⟨#[112, 100, 116]⟩, .string ⟨#[112, 115, 116]⟩]
def zHours : List Value := [.int .i64 (-4), .int .i64 (-5), .int .i64 (-5), .int .i64 (-6), .int .i64 (-6), .int .i64 (-7), .int .i64 (-7), .int .i64 (-8)]
def zNm (j : Nat) : List UInt8 := [[101, 100, 116], [101, 115, 116], [99, 100, 116], [99, 115, 116], [109, 100, 116], [109, 115, 116], [112, 100, 116], [112, 115, 116]].getD j []
theorem cells_two_first (w : World) (t u : TypeId) (l : List Value) (m : Array Value) (j : Nat) (x : Value) (h : l[j]? = some x) : ((w.alloc (.cells l.toArray t)).alloc (.cells m u)).cell? ⟨w.heap.size, j, none⟩ = some x := by
  have h1 := cells_list_new w t l j x h
  have hb := ((Below.refl (w.alloc (.cells l.toArray t)).heap.size (w.alloc (.cells l.toArray t))).alloc (Nat.le_refl _) (.cells m u)).block w.heap.size (by simp)
  simp only [World.cell?] at h1 ⊢
  rw [hb]
  exact h1
theorem cells_two_second (w : World) (t u : TypeId) (m : Array Value) (l : List Value) (j : Nat) (x : Value) (h : l[j]? = some x) : ((w.alloc (.cells m t)).alloc (.cells l.toArray u)).cell? ⟨w.heap.size + 1, j, none⟩ = some x := by
  have e : w.heap.size + 1 = (w.alloc (.cells m t)).heap.size := by simp
  rw [e]
  exact cells_list_new _ u l j x h
theorem zN_edt {l : List UInt8} (h : foldS l = [101, 100, 116]) : some (((zonN l 8).map (· * 60)).getD 0) = some (-240) := by
  unfold zonN zonN zonN zonN zonN zonN zonN zonN zonN
  rw [h]
  rfl
theorem zN_est {l : List UInt8} (h : foldS l = [101, 115, 116]) : some (((zonN l 8).map (· * 60)).getD 0) = some (-300) := by
  unfold zonN zonN zonN zonN zonN zonN zonN zonN zonN
  rw [h]
  rfl
theorem zN_cdt {l : List UInt8} (h : foldS l = [99, 100, 116]) : some (((zonN l 8).map (· * 60)).getD 0) = some (-300) := by
  unfold zonN zonN zonN zonN zonN zonN zonN zonN zonN
  rw [h]
  rfl
theorem zN_cst {l : List UInt8} (h : foldS l = [99, 115, 116]) : some (((zonN l 8).map (· * 60)).getD 0) = some (-360) := by
  unfold zonN zonN zonN zonN zonN zonN zonN zonN zonN
  rw [h]
  rfl
theorem zN_mdt {l : List UInt8} (h : foldS l = [109, 100, 116]) : some (((zonN l 8).map (· * 60)).getD 0) = some (-360) := by
  unfold zonN zonN zonN zonN zonN zonN zonN zonN zonN
  rw [h]
  rfl
theorem zN_mst {l : List UInt8} (h : foldS l = [109, 115, 116]) : some (((zonN l 8).map (· * 60)).getD 0) = some (-420) := by
  unfold zonN zonN zonN zonN zonN zonN zonN zonN zonN
  rw [h]
  rfl
theorem zN_pdt {l : List UInt8} (h : foldS l = [112, 100, 116]) : some (((zonN l 8).map (· * 60)).getD 0) = some (-420) := by
  unfold zonN zonN zonN zonN zonN zonN zonN zonN zonN
  rw [h]
  rfl
theorem zN_pst {l : List UInt8} (h : foldS l = [112, 115, 116]) : some (((zonN l 8).map (· * 60)).getD 0) = some (-480) := by
  unfold zonN zonN zonN zonN zonN zonN zonN zonN zonN
  rw [h]
  rfl
theorem zN_none {l : List UInt8} (h : ∀ j, j < 8 → ¬ foldS l = zNm j) : some (((zonN l 8).map (· * 60)).getD 0) = some 0 := by
  have h0 := h 0 (by omega)
  have h1 := h 1 (by omega)
  have h2 := h 2 (by omega)
  have h3 := h 3 (by omega)
  have h4 := h 4 (by omega)
  have h5 := h 5 (by omega)
  have h6 := h 6 (by omega)
  have h7 := h 7 (by omega)
  generalize hf : foldS l = f at *
  have e : zonN l 8 = none := by
    unfold zonN zonN zonN zonN zonN zonN zonN zonN zonN
    rw [hf]
    show (if f = zNm 6 then _ else if f = zNm 7 then _ else if f = zNm 4 then _ else if f = zNm 5 then _ else if f = zNm 2 then _ else if f = zNm 3 then _ else if f = zNm 0 then _ else if f = zNm 1 then _ else none) = none
    rw [if_neg h6, if_neg h7, if_neg h4, if_neg h5, if_neg h2, if_neg h3, if_neg h0, if_neg h1]
  rw [e]
  rfl
theorem zoneR_no {l : List UInt8} (h0 : ¬ (l.head? = some 43 ∨ l.head? = some 45)) (k : Nat) (hk : k < l.length) (h : ¬ (97 ≤ (lowB l[k]).toNat ∧ (lowB l[k]).toNat ≤ 122)) : zoneR l = none := by
  unfold zoneR
  rw [if_neg h0, if_neg]
  intro ha
  have := (List.all_eq_true.1 ha) l[k] (List.getElem_mem hk)
  unfold letB' at this
  exact h (of_decide_eq_true this)
theorem zoneR_yes {l : List UInt8} (h0 : ¬ (l.head? = some 43 ∨ l.head? = some 45)) (h : ∀ k, (hk : k < l.length) → (97 ≤ (lowB l[k]).toNat ∧ (lowB l[k]).toNat ≤ 122)) : zoneR l = some (((zonN l 8).map (· * 60)).getD 0) := by
  unfold zoneR
  rw [if_neg h0, if_pos]
  rw [List.all_eq_true]
  intro x hx
  obtain ⟨k, hk, rfl⟩ := List.getElem_of_mem hx
  unfold letB'
  exact decide_eq_true (h k hk)
set_option maxRecDepth 100000 in
set_option maxHeartbeats 4000000 in
theorem refZone_any (s : ByteArray) (hp : 0 < s.size) (hs : s.size ≤ 1000000000) (w : World) :
    Calls Tryd.prog 29 #[.string s] w fun e w' => e = .returned (numV' (zoneR s.data.toList)) ∧ Below w.heap.size w w' := by
  have HOf := Lib.hid (fun w => refOffset_any s w)
  have HF := Lib.hid (fun w => refFold_any s w (by omega))
  obtain ⟨F, hF⟩ : ∃ F : ByteArray, F = ⟨(foldS s.data.toList).toArray⟩ := ⟨_, rfl⟩
  have HFl : Hid (F.data.toList = foldS s.data.toList) := by unfold Hid; rw [hF]
  have hFs : F.size = s.size := by
    rw [← len_toList, HFl.out]
    simp [foldS]
  have HFk : Hid (∀ k, (h1 : k < F.size) → (h2 : k < s.data.toList.length) → F[k] = lowB s.data.toList[k]) := by
    intro k h1 h2
    have e : F.data.toList[k]? = some F[k] := list_at F k h1
    rw [HFl.out] at e
    unfold foldS at e
    rw [List.getElem?_map, List.getElem?_eq_getElem h2] at e
    exact (Option.some.inj e).symm
  rw [← hF] at HF
  clear hF
  have h00 : s.data.toList.head? = some (s[0]'hp) := by
    rw [List.head?_eq_getElem?]
    exact list_at s 0 hp
  obtain ⟨c, hc⟩ : ∃ c, c = (s[0]'hp) := ⟨_, rfl⟩
  by_cases h43 : (s[0]'hp).toNat = 43
  · have hz : zoneR s.data.toList = offR s.data.toList := by
      unfold zoneR
      rw [if_pos (.inl (by rw [h00, (u8_eq 43 (by omega)).1 h43]; rfl))]
    have HR := Lib.hid hz
    have t43 : (((s[0]'hp).toNat : Int) == 43) = true := byte_yes 43 h43
    clear h00 hz hc
    go_enter Tryd.func29, Tryd.ntmps29
    go_wp2_with fail
    with_reducible refine (HOf.out _).mono ?_
    rintro e w1 ⟨rfl, rfl⟩
    rw [← HR.out]
    cases hr : zoneR s.data.toList with
    | none =>
      unfold numV'
      go_wp2_with fail
      go_ret2
      exact ⟨by rw [hr]; rfl, Below.refl _ _⟩
    | some z =>
      unfold numV'
      go_wp2_with fail
      go_ret2
      exact ⟨by rw [hr]; rfl, Below.refl _ _⟩
  · by_cases h45 : (s[0]'hp).toNat = 45
    · have hz : zoneR s.data.toList = offR s.data.toList := by
        unfold zoneR
        rw [if_pos (.inr (by rw [h00, (u8_eq 45 (by omega)).1 h45]; rfl))]
      have HR := Lib.hid hz
      have t45 : (((s[0]'hp).toNat : Int) == 45) = true := byte_yes 45 h45
      have t43 : (((s[0]'hp).toNat : Int) == 43) = false := byte_no 43 h43
      clear h00 hz hc
      go_enter Tryd.func29, Tryd.ntmps29
      go_wp2_with fail
      with_reducible refine (HOf.out _).mono ?_
      rintro e w1 ⟨rfl, rfl⟩
      rw [← HR.out]
      cases hr : zoneR s.data.toList with
      | none =>
        unfold numV'
        go_wp2_with fail
        go_ret2
        exact ⟨by rw [hr]; rfl, Below.refl _ _⟩
      | some z =>
        unfold numV'
        go_wp2_with fail
        go_ret2
        exact ⟨by rw [hr]; rfl, Below.refl _ _⟩
    · have hn : ¬ (s.data.toList.head? = some 43 ∨ s.data.toList.head? = some 45) := by
        rw [h00]
        rintro (h | h)
        · exact h43 ((u8_eq 43 (by omega)).2 (Option.some.inj h))
        · exact h45 ((u8_eq 45 (by omega)).2 (Option.some.inj h))
      have HN := Lib.hid hn
      have t45 : (((s[0]'hp).toNat : Int) == 45) = false := byte_no 45 h45
      have t43 : (((s[0]'hp).toNat : Int) == 43) = false := byte_no 43 h43
      clear h00 hn hc
      go_enter Tryd.func29, Tryd.ntmps29
      go_wp2_with fail
      with_reducible refine (HF.out _).mono ?_
      rintro e w1 ⟨rfl, hb1⟩
      have HB := Lib.hid hb1
      clear hb1
      go_wp2_with fail
      go_loopg [5] F.size (fun g v wr => ∃ k : Nat, k ≤ F.size ∧ g = F.size - k ∧ v = .int .i64 k ∧ w1 = wr ∧ Hid (∀ j, j < k → (hj : j < s.data.toList.length) → (97 ≤ (lowB s.data.toList[j]).toNat ∧ (lowB s.data.toList[j]).toNat ≤ 122)))
      case atStart => exact ⟨0, by omega, by omega, rfl, rfl, fun j hj => absurd hj (Nat.not_lt_zero _)⟩
      case round =>
        obtain ⟨k, hk, rfl, rfl, rfl, HL⟩ := hrel
        by_cases hlt : k < F.size
        · have HK : Hid (F[k] = lowB (s.data.toList[k]'(by rw [len_toList]; omega))) := HFk.out k hlt _
          by_cases ha : F[k].toNat < 97
          · have HR : Hid (zoneR s.data.toList = none) := zoneR_no HN.out k (by rw [len_toList]; omega) (by rw [← HK.out]; omega)
            have i1 : decide ((F[k].toNat : Int) < 97) = true := decide_eq_true (by omega)
            clear HK
            go_wp2_with fail
            go_ret2
            exact ⟨by rw [HR.out]; rfl, HB.out⟩
          · have i1 : decide ((F[k].toNat : Int) < 97) = false := decide_eq_false (by omega)
            by_cases hb : 122 < F[k].toNat
            · have HR : Hid (zoneR s.data.toList = none) := zoneR_no HN.out k (by rw [len_toList]; omega) (by rw [← HK.out]; omega)
              have i2 : decide (122 < (F[k].toNat : Int)) = true := decide_eq_true (by omega)
              have i3 : decide ((F[k].toNat : Int) > 122) = true := decide_eq_true (by omega)
              clear HK
              go_wp2_with fail
              go_ret2
              exact ⟨by rw [HR.out]; rfl, HB.out⟩
            · have i2 : decide (122 < (F[k].toNat : Int)) = false := decide_eq_false (by omega)
              have i3 : decide ((F[k].toNat : Int) > 122) = false := decide_eq_false (by omega)
              have HL2 : Hid (∀ j, j < k + 1 → (hj : j < s.data.toList.length) → (97 ≤ (lowB s.data.toList[j]).toNat ∧ (lowB s.data.toList[j]).toNat ≤ 122)) := by
                intro j hj hjl
                rcases Nat.lt_or_ge j k with g | g
                · exact HL.out j g hjl
                · obtain rfl : j = k := by omega
                  have := HK.out
                  rw [← this]
                  omega
              clear HK
              go_wp2_with fail
              go_roundg (F.size - (k + 1))
              case measure => omega
              case rel => exact ⟨k + 1, by omega, rfl, by go_num, rfl, HL2⟩
        · have HR : Hid (zoneR s.data.toList = some (((zonN s.data.toList 8).map (· * 60)).getD 0)) := zoneR_yes HN.out fun j hj => HL.out j (by rw [len_toList] at hj; omega) hj
          clear HL
          go_wp2_with fail
          generalize hX : ((w1.alloc (.cells _ _)).alloc (.cells _ _)) = X
          have HBX : Hid (Below w.heap.size w X) := by
            rw [← hX]
            exact (HB.out.alloc HB.out.size _).alloc (by have := HB.out.size; simp; omega) _
          have HC1 : Hid (∀ j u, zNames[j]? = some u → X.cell? ⟨w1.heap.size, j, none⟩ = some u) := by
            rw [← hX]
            intro j u hj
            exact cells_two_first w1 _ _ zNames _ j u hj
          have HC2 : Hid (∀ j u, zHours[j]? = some u → X.cell? ⟨w1.heap.size + 1, j, none⟩ = some u) := by
            rw [← hX]
            intro j u hj
            exact cells_two_second w1 _ _ _ zHours j u hj
          generalize w1.heap.size = N at HC1 HC2 ⊢
          clear hX HB HFk
          go_loopg [8] 8 (fun g v wr => ∃ k : Nat, k ≤ 8 ∧ g = 8 - k ∧ v = .int .i64 k ∧ X = wr ∧ Hid (∀ j, j < k → F.data.toList ≠ zNm j))
          case atStart => exact ⟨0, by omega, by omega, rfl, rfl, fun j hj => absurd hj (Nat.not_lt_zero _)⟩
          case round =>
            obtain ⟨k, hk, rfl, rfl, rfl, HL⟩ := hrel
            rcases (by omega : k = 0 ∨ k = 1 ∨ k = 2 ∨ k = 3 ∨ k = 4 ∨ k = 5 ∨ k = 6 ∨ k = 7 ∨ k = 8) with rfl | rfl | rfl | rfl | rfl | rfl | rfl | rfl | rfl
            · have c1 := HC1.out 0 (.string ⟨#[101, 100, 116]⟩) rfl
              have c2 := HC2.out 0 (.int .i64 (-4)) rfl
              by_cases he : F.data.toList = [101, 100, 116]
              · have b1 : (([101, 100, 116] : List UInt8) == F.toList) = true := by
                  rw [ByteArray.toList_eq, he]
                  exact beq_self_eq_true _
                have HR2 : Hid (zoneR s.data.toList = some (-240)) := by
                  have e := HFl.out
                  rw [he] at e
                  unfold Hid
                  rw [HR.out]
                  exact zN_edt e.symm
                have HE := Lib.hid he
                clear he
                go_wp2_with fail
                go_ret2
                exact ⟨by rw [HR2.out]; rfl, HBX.out⟩
              · have b1 : (([101, 100, 116] : List UInt8) == F.toList) = false := by
                  rw [ByteArray.toList_eq, beq_eq_false_iff_ne]
                  exact fun h => he h.symm
                have HL2 : Hid (∀ j, j < 0 + 1 → F.data.toList ≠ zNm j) := by
                  intro j hj
                  rcases Nat.lt_or_ge j 0 with g | g
                  · exact HL.out j g
                  · obtain rfl : j = 0 := by omega
                    exact he
                clear he
                go_wp2_with fail
                go_roundg (8 - (0 + 1))
                case measure => omega
                case rel => exact ⟨0 + 1, by omega, rfl, by go_num, rfl, HL2⟩
            · have c1 := HC1.out 1 (.string ⟨#[101, 115, 116]⟩) rfl
              have c2 := HC2.out 1 (.int .i64 (-5)) rfl
              by_cases he : F.data.toList = [101, 115, 116]
              · have b1 : (([101, 115, 116] : List UInt8) == F.toList) = true := by
                  rw [ByteArray.toList_eq, he]
                  exact beq_self_eq_true _
                have HR2 : Hid (zoneR s.data.toList = some (-300)) := by
                  have e := HFl.out
                  rw [he] at e
                  unfold Hid
                  rw [HR.out]
                  exact zN_est e.symm
                have HE := Lib.hid he
                clear he
                go_wp2_with fail
                go_ret2
                exact ⟨by rw [HR2.out]; rfl, HBX.out⟩
              · have b1 : (([101, 115, 116] : List UInt8) == F.toList) = false := by
                  rw [ByteArray.toList_eq, beq_eq_false_iff_ne]
                  exact fun h => he h.symm
                have HL2 : Hid (∀ j, j < 1 + 1 → F.data.toList ≠ zNm j) := by
                  intro j hj
                  rcases Nat.lt_or_ge j 1 with g | g
                  · exact HL.out j g
                  · obtain rfl : j = 1 := by omega
                    exact he
                clear he
                go_wp2_with fail
                go_roundg (8 - (1 + 1))
                case measure => omega
                case rel => exact ⟨1 + 1, by omega, rfl, by go_num, rfl, HL2⟩
            · have c1 := HC1.out 2 (.string ⟨#[99, 100, 116]⟩) rfl
              have c2 := HC2.out 2 (.int .i64 (-5)) rfl
              by_cases he : F.data.toList = [99, 100, 116]
              · have b1 : (([99, 100, 116] : List UInt8) == F.toList) = true := by
                  rw [ByteArray.toList_eq, he]
                  exact beq_self_eq_true _
                have HR2 : Hid (zoneR s.data.toList = some (-300)) := by
                  have e := HFl.out
                  rw [he] at e
                  unfold Hid
                  rw [HR.out]
                  exact zN_cdt e.symm
                have HE := Lib.hid he
                clear he
                go_wp2_with fail
                go_ret2
                exact ⟨by rw [HR2.out]; rfl, HBX.out⟩
              · have b1 : (([99, 100, 116] : List UInt8) == F.toList) = false := by
                  rw [ByteArray.toList_eq, beq_eq_false_iff_ne]
                  exact fun h => he h.symm
                have HL2 : Hid (∀ j, j < 2 + 1 → F.data.toList ≠ zNm j) := by
                  intro j hj
                  rcases Nat.lt_or_ge j 2 with g | g
                  · exact HL.out j g
                  · obtain rfl : j = 2 := by omega
                    exact he
                clear he
                go_wp2_with fail
                go_roundg (8 - (2 + 1))
                case measure => omega
                case rel => exact ⟨2 + 1, by omega, rfl, by go_num, rfl, HL2⟩
            · have c1 := HC1.out 3 (.string ⟨#[99, 115, 116]⟩) rfl
              have c2 := HC2.out 3 (.int .i64 (-6)) rfl
              by_cases he : F.data.toList = [99, 115, 116]
              · have b1 : (([99, 115, 116] : List UInt8) == F.toList) = true := by
                  rw [ByteArray.toList_eq, he]
                  exact beq_self_eq_true _
                have HR2 : Hid (zoneR s.data.toList = some (-360)) := by
                  have e := HFl.out
                  rw [he] at e
                  unfold Hid
                  rw [HR.out]
                  exact zN_cst e.symm
                have HE := Lib.hid he
                clear he
                go_wp2_with fail
                go_ret2
                exact ⟨by rw [HR2.out]; rfl, HBX.out⟩
              · have b1 : (([99, 115, 116] : List UInt8) == F.toList) = false := by
                  rw [ByteArray.toList_eq, beq_eq_false_iff_ne]
                  exact fun h => he h.symm
                have HL2 : Hid (∀ j, j < 3 + 1 → F.data.toList ≠ zNm j) := by
                  intro j hj
                  rcases Nat.lt_or_ge j 3 with g | g
                  · exact HL.out j g
                  · obtain rfl : j = 3 := by omega
                    exact he
                clear he
                go_wp2_with fail
                go_roundg (8 - (3 + 1))
                case measure => omega
                case rel => exact ⟨3 + 1, by omega, rfl, by go_num, rfl, HL2⟩
            · have c1 := HC1.out 4 (.string ⟨#[109, 100, 116]⟩) rfl
              have c2 := HC2.out 4 (.int .i64 (-6)) rfl
              by_cases he : F.data.toList = [109, 100, 116]
              · have b1 : (([109, 100, 116] : List UInt8) == F.toList) = true := by
                  rw [ByteArray.toList_eq, he]
                  exact beq_self_eq_true _
                have HR2 : Hid (zoneR s.data.toList = some (-360)) := by
                  have e := HFl.out
                  rw [he] at e
                  unfold Hid
                  rw [HR.out]
                  exact zN_mdt e.symm
                have HE := Lib.hid he
                clear he
                go_wp2_with fail
                go_ret2
                exact ⟨by rw [HR2.out]; rfl, HBX.out⟩
              · have b1 : (([109, 100, 116] : List UInt8) == F.toList) = false := by
                  rw [ByteArray.toList_eq, beq_eq_false_iff_ne]
                  exact fun h => he h.symm
                have HL2 : Hid (∀ j, j < 4 + 1 → F.data.toList ≠ zNm j) := by
                  intro j hj
                  rcases Nat.lt_or_ge j 4 with g | g
                  · exact HL.out j g
                  · obtain rfl : j = 4 := by omega
                    exact he
                clear he
                go_wp2_with fail
                go_roundg (8 - (4 + 1))
                case measure => omega
                case rel => exact ⟨4 + 1, by omega, rfl, by go_num, rfl, HL2⟩
            · have c1 := HC1.out 5 (.string ⟨#[109, 115, 116]⟩) rfl
              have c2 := HC2.out 5 (.int .i64 (-7)) rfl
              by_cases he : F.data.toList = [109, 115, 116]
              · have b1 : (([109, 115, 116] : List UInt8) == F.toList) = true := by
                  rw [ByteArray.toList_eq, he]
                  exact beq_self_eq_true _
                have HR2 : Hid (zoneR s.data.toList = some (-420)) := by
                  have e := HFl.out
                  rw [he] at e
                  unfold Hid
                  rw [HR.out]
                  exact zN_mst e.symm
                have HE := Lib.hid he
                clear he
                go_wp2_with fail
                go_ret2
                exact ⟨by rw [HR2.out]; rfl, HBX.out⟩
              · have b1 : (([109, 115, 116] : List UInt8) == F.toList) = false := by
                  rw [ByteArray.toList_eq, beq_eq_false_iff_ne]
                  exact fun h => he h.symm
                have HL2 : Hid (∀ j, j < 5 + 1 → F.data.toList ≠ zNm j) := by
                  intro j hj
                  rcases Nat.lt_or_ge j 5 with g | g
                  · exact HL.out j g
                  · obtain rfl : j = 5 := by omega
                    exact he
                clear he
                go_wp2_with fail
                go_roundg (8 - (5 + 1))
                case measure => omega
                case rel => exact ⟨5 + 1, by omega, rfl, by go_num, rfl, HL2⟩
            · have c1 := HC1.out 6 (.string ⟨#[112, 100, 116]⟩) rfl
              have c2 := HC2.out 6 (.int .i64 (-7)) rfl
              by_cases he : F.data.toList = [112, 100, 116]
              · have b1 : (([112, 100, 116] : List UInt8) == F.toList) = true := by
                  rw [ByteArray.toList_eq, he]
                  exact beq_self_eq_true _
                have HR2 : Hid (zoneR s.data.toList = some (-420)) := by
                  have e := HFl.out
                  rw [he] at e
                  unfold Hid
                  rw [HR.out]
                  exact zN_pdt e.symm
                have HE := Lib.hid he
                clear he
                go_wp2_with fail
                go_ret2
                exact ⟨by rw [HR2.out]; rfl, HBX.out⟩
              · have b1 : (([112, 100, 116] : List UInt8) == F.toList) = false := by
                  rw [ByteArray.toList_eq, beq_eq_false_iff_ne]
                  exact fun h => he h.symm
                have HL2 : Hid (∀ j, j < 6 + 1 → F.data.toList ≠ zNm j) := by
                  intro j hj
                  rcases Nat.lt_or_ge j 6 with g | g
                  · exact HL.out j g
                  · obtain rfl : j = 6 := by omega
                    exact he
                clear he
                go_wp2_with fail
                go_roundg (8 - (6 + 1))
                case measure => omega
                case rel => exact ⟨6 + 1, by omega, rfl, by go_num, rfl, HL2⟩
            · have c1 := HC1.out 7 (.string ⟨#[112, 115, 116]⟩) rfl
              have c2 := HC2.out 7 (.int .i64 (-8)) rfl
              by_cases he : F.data.toList = [112, 115, 116]
              · have b1 : (([112, 115, 116] : List UInt8) == F.toList) = true := by
                  rw [ByteArray.toList_eq, he]
                  exact beq_self_eq_true _
                have HR2 : Hid (zoneR s.data.toList = some (-480)) := by
                  have e := HFl.out
                  rw [he] at e
                  unfold Hid
                  rw [HR.out]
                  exact zN_pst e.symm
                have HE := Lib.hid he
                clear he
                go_wp2_with fail
                go_ret2
                exact ⟨by rw [HR2.out]; rfl, HBX.out⟩
              · have b1 : (([112, 115, 116] : List UInt8) == F.toList) = false := by
                  rw [ByteArray.toList_eq, beq_eq_false_iff_ne]
                  exact fun h => he h.symm
                have HL2 : Hid (∀ j, j < 7 + 1 → F.data.toList ≠ zNm j) := by
                  intro j hj
                  rcases Nat.lt_or_ge j 7 with g | g
                  · exact HL.out j g
                  · obtain rfl : j = 7 := by omega
                    exact he
                clear he
                go_wp2_with fail
                go_roundg (8 - (7 + 1))
                case measure => omega
                case rel => exact ⟨7 + 1, by omega, rfl, by go_num, rfl, HL2⟩
            · have HR2 : Hid (zoneR s.data.toList = some 0) := by
                have e := HFl.out
                unfold Hid
                rw [HR.out]
                exact zN_none (fun j hj h => HL.out j hj (e.trans h))
              go_wp2_with fail
              go_ret2
              exact ⟨by rw [HR2.out]; rfl, HBX.out⟩
end Go.Proofs.YtpmjlhpbknppiaaDoor
