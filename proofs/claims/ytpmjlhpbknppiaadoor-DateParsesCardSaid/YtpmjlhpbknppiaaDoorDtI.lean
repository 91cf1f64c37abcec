/- Contracts of package date: years, months and days. -/
import Derived.Test.YtpmjlhpbknppiaaDoorDtD
namespace Go.Proofs.YtpmjlhpbknppiaaDoor
open Go Go.RowKit

def leapY (y : Nat) : Bool := (y % 4 == 0 && y % 100 != 0) || y % 400 == 0
def daysM (y m : Nat) : Nat := if m = 1 ∧ leapY y = true then 29 else monD m
def ahead (y : Nat) : Nat := (y - 1) * 365 + (y - 1) / 4 - (y - 1) / 100 + (y - 1) / 400
def monSum (y : Nat) : Nat → Nat
  | 0 => 0
  | m + 1 => monSum y m + daysM y m
def numberK (y m d : Nat) : Option Int := if y < 1 ∨ 9999 < y ∨ d < 1 ∨ daysM y m < d then none else some ((ahead y : Int) - 719162 + (d : Int) - 1 + (monSum y m : Int))
def numV' : Option Int → Value
  | none => .tuple #[.int .i64 0, .bool false]
  | some n => .tuple #[.int .i64 n, .bool true]

set_option maxRecDepth 100000 in
theorem leap_any (y : Nat) (hy : y ≤ 100000) (w : World) :
    Calls Tryd.prog 70 #[.int .i64 (y : Int)] w fun e w' => e = .returned (.bool (leapY y)) ∧ w = w' := by
  have m4 : (y : Int).tmod 4 = (y : Int) % 4 := Int.tmod_eq_emod_of_nonneg (by omega)
  have m100 : (y : Int).tmod 100 = (y : Int) % 100 := Int.tmod_eq_emod_of_nonneg (by omega)
  have m400 : (y : Int).tmod 400 = (y : Int) % 400 := Int.tmod_eq_emod_of_nonneg (by omega)
  by_cases h4 : y % 4 = 0
  · have e4 : ((y : Int) % 4 == 0) = true := beq_yes (by omega)
    by_cases h100 : y % 100 = 0
    · have e100 : ((y : Int) % 100 != 0) = false := bne_no (by omega)
      by_cases h400 : y % 400 = 0
      · have e400 : ((y : Int) % 400 == 0) = true := beq_yes (by omega)
        have HR : Hid (leapY y = true) := by unfold Hid leapY; simp [h4, h100, h400]
        clear h4 h100 h400
        go_enter Tryd.func70, Tryd.ntmps70
        go_wp2_with fail
        go_ret
        exact ⟨ret_bool HR.out.symm, rfl⟩
      · have e400 : ((y : Int) % 400 == 0) = false := beq_no (by omega)
        have HR : Hid (leapY y = false) := by unfold Hid leapY; simp [h4, h100, h400]
        clear h4 h100 h400
        go_enter Tryd.func70, Tryd.ntmps70
        go_wp2_with fail
        go_ret
        exact ⟨ret_bool HR.out.symm, rfl⟩
    · have e100 : ((y : Int) % 100 != 0) = true := bne_yes (by omega)
      have HR : Hid (leapY y = true) := by unfold Hid leapY; simp [h4, h100]
      clear h4 h100
      go_enter Tryd.func70, Tryd.ntmps70
      go_wp2_with fail
      go_ret
      exact ⟨ret_bool HR.out.symm, rfl⟩
  · have e4 : ((y : Int) % 4 == 0) = false := beq_no (by omega)
    have e400 : ((y : Int) % 400 == 0) = false := beq_no (by omega)
    have h400 : ¬ y % 400 = 0 := by omega
    have HR : Hid (leapY y = false) := by unfold Hid leapY; simp [h4, h400]
    clear h4 h400
    go_enter Tryd.func70, Tryd.ntmps70
    go_wp2_with fail
    go_ret
    exact ⟨ret_bool HR.out.symm, rfl⟩

theorem monA_at (i : Nat) (h : i < 12) : monA[i * 2 + 1]? = some (.int .i64 (monD i : Int)) := by
  rcases (by omega : i = 0 ∨ i = 1 ∨ i = 2 ∨ i = 3 ∨ i = 4 ∨ i = 5 ∨ i = 6 ∨ i = 7 ∨ i = 8 ∨ i = 9 ∨ i = 10 ∨ i = 11) with rfl | rfl | rfl | rfl | rfl | rfl | rfl | rfl | rfl | rfl | rfl | rfl <;> rfl
theorem monA_nm (i : Nat) (h : i < 12) : monA[i * 2]? = some (.string (monN i)) := by
  rcases (by omega : i = 0 ∨ i = 1 ∨ i = 2 ∨ i = 3 ∨ i = 4 ∨ i = 5 ∨ i = 6 ∨ i = 7 ∨ i = 8 ∨ i = 9 ∨ i = 10 ∨ i = 11) with rfl | rfl | rfl | rfl | rfl | rfl | rfl | rfl | rfl | rfl | rfl | rfl <;> rfl
theorem mons.day {w : World} (h : mons w) (i : Nat) (hi : i < 12) : w.cell? ⟨0, i * 2 + 1, none⟩ = some (.int .i64 (monD i : Int)) := by
  obtain ⟨t, fr, h⟩ := h
  rw [cell_of_row w _ _ _ _ _ h]
  exact monA_at i hi
theorem mons.name {w : World} (h : mons w) (i : Nat) (hi : i < 12) : w.cell? ⟨0, i * 2, none⟩ = some (.string (monN i)) := by
  obtain ⟨t, fr, h⟩ := h
  rw [cell_of_row w _ _ _ _ _ h]
  exact monA_nm i hi
theorem monD_le (i : Nat) : monD i ≤ 31 := by
  by_cases h : i < 12
  · rcases (by omega : i = 0 ∨ i = 1 ∨ i = 2 ∨ i = 3 ∨ i = 4 ∨ i = 5 ∨ i = 6 ∨ i = 7 ∨ i = 8 ∨ i = 9 ∨ i = 10 ∨ i = 11) with rfl | rfl | rfl | rfl | rfl | rfl | rfl | rfl | rfl | rfl | rfl | rfl <;> decide
  · unfold monD
    rw [List.getD_eq_getElem?_getD, List.getElem?_eq_none (show monthsL.length ≤ i from by show 12 ≤ i; omega)]
    exact Nat.zero_le _
theorem daysM_le (y m : Nat) : daysM y m ≤ 31 := by
  unfold daysM
  have := monD_le m
  split <;> omega
theorem monSum_le (y m : Nat) : monSum y m ≤ 31 * m := by
  induction m with
  | zero => simp [monSum]
  | succ m ih =>
    have := daysM_le y m
    rw [monSum]
    omega

set_option maxRecDepth 100000 in
theorem daysOf_any (y m : Nat) (hy : y ≤ 100000) (hm : m < 12) (w : World) (h : mons w) :
    Calls Tryd.prog 58 #[.int .i64 (y : Int), .int .i64 (m : Int)] w fun e w' => e = .returned (.int .i64 (daysM y m : Int)) ∧ w = w' := by
  have hc := h.day m hm
  have hg := h.lt
  have HLp := Lib.hid (fun w => leap_any y hy w)
  have hd := monD_le m
  obtain ⟨d, hdd⟩ : ∃ d, d = monD m := ⟨_, rfl⟩
  rw [← hdd] at hc hd
  have HD := Lib.hid hdd
  clear hdd h
  by_cases h1 : m = 1
  · subst h1
    obtain ⟨b, hb⟩ : ∃ b, b = leapY y := ⟨_, rfl⟩
    rw [← hb] at HLp
    have HB := Lib.hid hb
    clear hb
    cases b with
    | true =>
      have HR : Hid ((daysM y 1 : Int) = (d : Int) + 1) := by
        unfold Hid daysM
        rw [if_pos ⟨rfl, HB.out.symm⟩, HD.out]
        rfl
      go_enter Tryd.func58, Tryd.ntmps58
      go_wp2_with fail
      with_reducible refine (HLp.out _).mono ?_
      rintro e w1 ⟨rfl, rfl⟩
      go_wp2_with fail
      go_ret
      exact ⟨ret_int HR.out.symm, rfl⟩
    | false =>
      have HR : Hid ((daysM y 1 : Int) = (d : Int)) := by
        unfold Hid daysM
        rw [if_neg (by rw [← HB.out]; simp), HD.out]
      go_enter Tryd.func58, Tryd.ntmps58
      go_wp2_with fail
      with_reducible refine (HLp.out _).mono ?_
      rintro e w1 ⟨rfl, rfl⟩
      go_wp2_with fail
      go_ret
      exact ⟨ret_int HR.out.symm, rfl⟩
  · have e1 : ((m : Int) == 1) = false := beq_no (by omega)
    have HR : Hid ((daysM y m : Int) = (d : Int)) := by
      unfold Hid daysM
      rw [if_neg (fun h => h1 h.1), HD.out]
    clear h1
    go_enter Tryd.func58, Tryd.ntmps58
    go_wp2_with fail
    go_ret
    exact ⟨ret_int HR.out.symm, rfl⟩

theorem ahead_int (y : Nat) (hy : 1 ≤ y) : (ahead y : Int) = ((y : Int) - 1) * 365 + ((y : Int) - 1) / 4 - ((y : Int) - 1) / 100 + ((y : Int) - 1) / 400 := by
  unfold ahead
  omega
set_option maxRecDepth 100000 in
theorem daysAhead_any (y : Nat) (h1 : 1 ≤ y) (hy : y ≤ 100000) (w : World) :
    Calls Tryd.prog 59 #[.int .i64 (y : Int)] w fun e w' => e = .returned (.int .i64 (ahead y : Int)) ∧ w = w' := by
  obtain ⟨x, hx⟩ : ∃ x : Nat, y = x + 1 := ⟨y - 1, by omega⟩
  have HR : Hid ((ahead y : Int) = (x : Int) * 365 + (x : Int) / 4 - (x : Int) / 100 + (x : Int) / 400) := by
    unfold Hid
    rw [ahead_int y h1]
    have : (y : Int) - 1 = (x : Int) := by omega
    rw [this]
  have hyx : (y : Int) - 1 = (x : Int) := by omega
  have d4 : (x : Int).tdiv 4 = (x : Int) / 4 := Int.tdiv_eq_ediv_of_nonneg (by omega)
  have d100 : (x : Int).tdiv 100 = (x : Int) / 100 := Int.tdiv_eq_ediv_of_nonneg (by omega)
  have d400 : (x : Int).tdiv 400 = (x : Int) / 400 := Int.tdiv_eq_ediv_of_nonneg (by omega)
  have hx0 : x ≤ 100000 := by omega
  clear hx
  go_enter Tryd.func59, Tryd.ntmps59
  go_wp2_with fail
  go_ret
  exact ⟨ret_int HR.out.symm, rfl⟩
end Go.Proofs.YtpmjlhpbknppiaaDoor
