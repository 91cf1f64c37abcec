/- The document's functions of layer 11: leap, year, days, name, two. -/
import Derived.Test.YtpmjlhpbknppiaaDoorDvM
import Derived.Test.YtpmjlhpbknppiaaDoorDtU
namespace Go.Proofs.YtpmjlhpbknppiaaDoor
open Go Go.RowKit

set_option maxRecDepth 100000 in
theorem refLeap_any (y : Nat) (hy : y ≤ 100000) (w : World) :
    Calls Tryd.prog 69 #[.int .i64 (y : Int)] w fun e w' => e = .returned (.bool (leapY y)) ∧ w = w' := by
  have m4 : (y : Int).tmod 4 = (y : Int) % 4 := Int.tmod_eq_emod_of_nonneg (by omega)
  have m100 : (y : Int).tmod 100 = (y : Int) % 100 := Int.tmod_eq_emod_of_nonneg (by omega)
  have m400 : (y : Int).tmod 400 = (y : Int) % 400 := Int.tmod_eq_emod_of_nonneg (by omega)
  by_cases h400 : y % 400 = 0
  · have e400 : ((y : Int) % 400 == 0) = true := beq_yes (by omega)
    have HR : Hid (leapY y = true) := (leapY_iff y).2 (.inr h400)
    clear h400
    go_enter Tryd.func69, Tryd.ntmps69
    go_wp2_with fail
    go_ret
    exact ⟨ret_bool HR.out.symm, rfl⟩
  · have e400 : ((y : Int) % 400 == 0) = false := beq_no (by omega)
    by_cases h4 : y % 4 = 0
    · have e4 : ((y : Int) % 4 == 0) = true := beq_yes (by omega)
      by_cases h100 : y % 100 = 0
      · have e100 : ((y : Int) % 100 != 0) = false := bne_no (by omega)
        have HR : Hid (leapY y = false) := by
          unfold Hid
          cases h : leapY y with
          | false => rfl
          | true => have := (leapY_iff y).1 h; omega
        clear h4 h100 h400
        go_enter Tryd.func69, Tryd.ntmps69
        go_wp2_with fail
        go_ret
        exact ⟨ret_bool HR.out.symm, rfl⟩
      · have e100 : ((y : Int) % 100 != 0) = true := bne_yes (by omega)
        have HR : Hid (leapY y = true) := (leapY_iff y).2 (.inl ⟨h4, h100⟩)
        clear h4 h100 h400
        go_enter Tryd.func69, Tryd.ntmps69
        go_wp2_with fail
        go_ret
        exact ⟨ret_bool HR.out.symm, rfl⟩
    · have e4 : ((y : Int) % 4 == 0) = false := beq_no (by omega)
      have HR : Hid (leapY y = false) := by
        unfold Hid
        cases h : leapY y with
        | false => rfl
        | true => have := (leapY_iff y).1 h; omega
      clear h4 h400
      go_enter Tryd.func69, Tryd.ntmps69
      go_wp2_with fail
      go_ret
      exact ⟨ret_bool HR.out.symm, rfl⟩
set_option maxRecDepth 100000 in
theorem refYear_any (y : Nat) (hy : y ≤ 100000) (w : World) :
    Calls Tryd.prog 56 #[.int .i64 (y : Int)] w fun e w' => e = .returned (.int .i64 (yearLen y : Int)) ∧ w = w' := by
  have HLp := Lib.hid (fun w => refLeap_any y hy w)
  obtain ⟨b, hb⟩ : ∃ b, b = leapY y := ⟨_, rfl⟩
  rw [← hb] at HLp
  have HY : Hid (yearLen y = if b = true then 366 else 365) := by unfold Hid; rw [hb]; rfl
  clear hb
  cases b with
  | true =>
    go_enter Tryd.func56, Tryd.ntmps56
    go_wp2_with fail
    with_reducible refine (HLp.out _).mono ?_
    rintro e w1 ⟨rfl, rfl⟩
    go_wp2_with fail
    go_ret
    exact ⟨ret_int (by rw [HY.out]; rfl), rfl⟩
  | false =>
    go_enter Tryd.func56, Tryd.ntmps56
    go_wp2_with fail
    with_reducible refine (HLp.out _).mono ?_
    rintro e w1 ⟨rfl, rfl⟩
    go_wp2_with fail
    go_ret
    exact ⟨ret_int (by rw [HY.out]; rfl), rfl⟩
set_option maxRecDepth 100000 in
theorem refDays_any (y m M : Nat) (hy : y ≤ 100000) (hm : m < 12) (hM : M = m + 1) (w : World) :
    Calls Tryd.prog 55 #[.int .i64 (y : Int), .int .i64 (M : Int)] w fun e w' => e = .returned (.int .i64 (daysM y m : Int)) ∧ w = w' := by
  have HLp := Lib.hid (fun w => refLeap_any y hy w)
  by_cases h2 : M = 2
  · have e2 : ((M : Int) == 2) = true := beq_yes (by omega)
    obtain rfl : m = 1 := by omega
    obtain ⟨b, hb⟩ : ∃ b, b = leapY y := ⟨_, rfl⟩
    rw [← hb] at HLp
    have HY : Hid (daysM y 1 = if b = true then 29 else 28) := by
      unfold Hid daysM
      rw [← hb]
      cases b <;> rfl
    clear hb hM h2
    cases b with
    | true =>
      go_enter Tryd.func55, Tryd.ntmps55
      go_wp2_with fail
      with_reducible refine (HLp.out _).mono ?_
      rintro e w1 ⟨rfl, rfl⟩
      go_wp2_with fail
      go_ret
      exact ⟨ret_int (by rw [HY.out]; rfl), rfl⟩
    | false =>
      go_enter Tryd.func55, Tryd.ntmps55
      go_wp2_with fail
      with_reducible refine (HLp.out _).mono ?_
      rintro e w1 ⟨rfl, rfl⟩
      go_wp2_with fail
      go_ret
      exact ⟨ret_int (by rw [HY.out]; rfl), rfl⟩
  · have e2 : ((M : Int) == 2) = false := beq_no (by omega)
    by_cases h4 : M = 4 ∨ M = 6 ∨ M = 9 ∨ M = 11
    · have HY : Hid (daysM y m = 30) := by
        unfold Hid daysM
        rw [if_neg (by omega)]
        rcases (by omega : m = 3 ∨ m = 5 ∨ m = 8 ∨ m = 10) with rfl | rfl | rfl | rfl <;> rfl
      obtain ⟨b4, e4⟩ : ∃ b, ((M : Int) == 4) = b := ⟨_, rfl⟩
      obtain ⟨b6, e6⟩ : ∃ b, ((M : Int) == 6) = b := ⟨_, rfl⟩
      obtain ⟨b9, e9⟩ : ∃ b, ((M : Int) == 9) = b := ⟨_, rfl⟩
      obtain ⟨b11, e11⟩ : ∃ b, ((M : Int) == 11) = b := ⟨_, rfl⟩
      cases b4 <;> cases b6 <;> cases b9 <;> cases b11 <;> first
        | (exfalso; simp only [beq_iff_eq, beq_eq_false_iff_ne] at e4 e6 e9 e11; omega)
        | (clear h2 h4 hM
           go_enter Tryd.func55, Tryd.ntmps55
           go_wp2_with fail
           go_ret
           exact ⟨ret_int (by rw [HY.out]; rfl), rfl⟩)
    · have e4 : ((M : Int) == 4) = false := beq_no (by omega)
      have e6 : ((M : Int) == 6) = false := beq_no (by omega)
      have e9 : ((M : Int) == 9) = false := beq_no (by omega)
      have e11 : ((M : Int) == 11) = false := beq_no (by omega)
      have HY : Hid (daysM y m = 31) := by
        unfold Hid daysM
        rw [if_neg (by omega)]
        rcases (by omega : m = 0 ∨ m = 2 ∨ m = 4 ∨ m = 6 ∨ m = 7 ∨ m = 9 ∨ m = 11) with rfl | rfl | rfl | rfl | rfl | rfl | rfl <;> rfl
      clear h2 h4 hM
      go_enter Tryd.func55, Tryd.ntmps55
      go_wp2_with fail
      go_ret
      exact ⟨ret_int (by rw [HY.out]; rfl), rfl⟩
set_option maxRecDepth 100000 in
theorem refName_any (m M : Nat) (hm : m < 12) (hM : M = m + 1) (w : World) :
    Calls Tryd.prog 57 #[.int .i64 (M : Int)] w fun e w' => e = .returned (.string (monN m)) ∧ w = w' := by
  rcases (by omega : m = 0 ∨ m = 1 ∨ m = 2 ∨ m = 3 ∨ m = 4 ∨ m = 5 ∨ m = 6 ∨ m = 7 ∨ m = 8 ∨ m = 9 ∨ m = 10 ∨ m = 11) with rfl | rfl | rfl | rfl | rfl | rfl | rfl | rfl | rfl | rfl | rfl | rfl <;> subst hM
  all_goals
    go_enter Tryd.func57, Tryd.ntmps57
    go_wp2_with fail
    go_ret
    exact ⟨ret_str (bytes_eq (by rfl)), rfl⟩
end Go.Proofs.YtpmjlhpbknppiaaDoor
