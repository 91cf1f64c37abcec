/- The document's functions of layer 11: leap, year, days, name, two. -/
import Derived.Test.YtfndidcoahammaaDoorDvM
import Derived.Test.YtfndidcoahammaaDoorDtU
namespace Go.Proofs.YtfndidcoahammaaDoor
open Go Go.RowKit

set_option maxRecDepth 100000 in
theorem refLeap_any (y : Nat) (hy : y ≤ 100000) (w : World) :
    Calls Tryd.prog 71 #[.int .i64 (y : Int)] w fun e w' => e = .returned (.bool (leapY y)) ∧ w = w' := by
  have m4 : (y : Int).tmod 4 = (y : Int) % 4 := Int.tmod_eq_emod_of_nonneg (by omega)
  have m100 : (y : Int).tmod 100 = (y : Int) % 100 := Int.tmod_eq_emod_of_nonneg (by omega)
  have m400 : (y : Int).tmod 400 = (y : Int) % 400 := Int.tmod_eq_emod_of_nonneg (by omega)
  by_cases h400 : y % 400 = 0
  · have e400 : ((y : Int) % 400 == 0) = true := beq_yes (by omega)
    have HR : Hid (leapY y = true) := (leapY_iff y).2 (.inr h400)
    clear h400
    go_enter Tryd.func71, Tryd.ntmps71
    go_wp2_with fail
    go_ret
    exact ⟨ret_bool HR.out.symm, rfl⟩
  · have e400 : ((y : Int) % 400 == 0) = false := beq_no (by omega)
    by_cases h4 : y % 4 = 0
    · have e4 : ((y : Int) % 4 == 0) = true := beq_yes (by omega)
      by_cases h100 : y % 100 = 0
      · have e100 : ((y : Int) % 100 != 0) = false := bne_no (by omega)
        have HR : Hid (leapY y = false) := by
          unfold Hid
          cases h : leapY y with
          | false => rfl
          | true => have := (leapY_iff y).1 h; omega
        clear h4 h100 h400
        go_enter Tryd.func71, Tryd.ntmps71
        go_wp2_with fail
        go_ret
        exact ⟨ret_bool HR.out.symm, rfl⟩
      · have e100 : ((y : Int) % 100 != 0) = true := bne_yes (by omega)
        have HR : Hid (leapY y = true) := (leapY_iff y).2 (.inl ⟨h4, h100⟩)
        clear h4 h100 h400
        go_enter Tryd.func71, Tryd.ntmps71
        go_wp2_with fail
        go_ret
        exact ⟨ret_bool HR.out.symm, rfl⟩
    · have e4 : ((y : Int) % 4 == 0) = false := beq_no (by omega)
      have HR : Hid (leapY y = false) := by
        unfold Hid
        cases h : leapY y with
        | false => rfl
        | true => have := (leapY_iff y).1 h; omega
      clear h4 h400
      go_enter Tryd.func71, Tryd.ntmps71
      go_wp2_with fail
      go_ret
      exact ⟨ret_bool HR.out.symm, rfl⟩
set_option maxRecDepth 100000 in
theorem refYear_any (y : Nat) (hy : y ≤ 100000) (w : World) :
    Calls Tryd.prog 45 #[.int .i64 (y : Int)] w fun e w' => e = .returned (.int .i64 (yearLen y : Int)) ∧ w = w' := by
  have HLp := Lib.hid (fun w => refLeap_any y hy w)
  obtain ⟨b, hb⟩ : ∃ b, b = leapY y := ⟨_, rfl⟩
  rw [← hb] at HLp
  have HY : Hid (yearLen y = if b = true then 366 else 365) := by unfold Hid; rw [hb]; rfl
  clear hb
  cases b with
  | true =>
    go_enter Tryd.func45, Tryd.ntmps45
    go_wp2_with fail
    with_reducible refine (HLp.out _).mono ?_
    rintro e w1 ⟨rfl, rfl⟩
    go_wp2_with fail
    go_ret
    exact ⟨ret_int (by rw [HY.out]; rfl), rfl⟩
  | false =>
    go_enter Tryd.func45, Tryd.ntmps45
    go_wp2_with fail
    with_reducible refine (HLp.out _).mono ?_
    rintro e w1 ⟨rfl, rfl⟩
    go_wp2_with fail
    go_ret
    exact ⟨ret_int (by rw [HY.out]; rfl), rfl⟩
set_option maxRecDepth 100000 in
theorem refDays_any (y m M : Nat) (hy : y ≤ 100000) (hm : m < 12) (hM : M = m + 1) (w : World) :
    Calls Tryd.prog 46 #[.int .i64 (y : Int), .int .i64 (M : Int)] w fun e w' => e = .returned (.int .i64 (daysM y m : Int)) ∧ w = w' := by
  have HLp := Lib.hid (fun w => refLeap_any y hy w)
  by_cases h2 : M = 2
  · have e2 : ((M : Int) == 2) = true := beq_yes (by omega)
    obtain rfl : m = 1 := by omega
    obtain ⟨b, hb⟩ : ∃ b, b = leapY y := ⟨_, rfl⟩
    rw [← hb] at HLp
    have HY : Hid (daysM y 1 = if b = true then 29 else 28) := by
      unfold Hid daysM
      rw [← hb]
      cases b <;> rfl
    clear hb hM h2
    cases b with
    | true =>
      go_enter Tryd.func46, Tryd.ntmps46
      go_wp2_with fail
      with_reducible refine (HLp.out _).mono ?_
      rintro e w1 ⟨rfl, rfl⟩
      go_wp2_with fail
      go_ret
      exact ⟨ret_int (by rw [HY.out]; rfl), rfl⟩
    | false =>
      go_enter Tryd.func46, Tryd.ntmps46
      go_wp2_with fail
      with_reducible refine (HLp.out _).mono ?_
      rintro e w1 ⟨rfl, rfl⟩
      go_wp2_with fail
      go_ret
      exact ⟨ret_int (by rw [HY.out]; rfl), rfl⟩
  · have e2 : ((M : Int) == 2) = false := beq_no (by omega)
    by_cases h4 : M = 4 ∨ M = 6 ∨ M = 9 ∨ M = 11
    · have HY : Hid (daysM y m = 30) := by
        unfold Hid daysM
        rw [if_neg (by omega)]
        rcases (by omega : m = 3 ∨ m = 5 ∨ m = 8 ∨ m = 10) with rfl | rfl | rfl | rfl <;> rfl
      obtain ⟨b4, e4⟩ : ∃ b, ((M : Int) == 4) = b := ⟨_, rfl⟩
      obtain ⟨b6, e6⟩ : ∃ b, ((M : Int) == 6) = b := ⟨_, rfl⟩
      obtain ⟨b9, e9⟩ : ∃ b, ((M : Int) == 9) = b := ⟨_, rfl⟩
      obtain ⟨b11, e11⟩ : ∃ b, ((M : Int) == 11) = b := ⟨_, rfl⟩
      cases b4 <;> cases b6 <;> cases b9 <;> cases b11 <;> first
        | (exfalso; simp only [beq_iff_eq, beq_eq_false_iff_ne] at e4 e6 e9 e11; omega)
        | (clear h2 h4 hM
           go_enter Tryd.func46, Tryd.ntmps46
           go_wp2_with fail
           go_ret
           exact ⟨ret_int (by rw [HY.out]; rfl), rfl⟩)
    · have e4 : ((M : Int) == 4) = false := beq_no (by omega)
      have e6 : ((M : Int) == 6) = false := beq_no (by omega)
      have e9 : ((M : Int) == 9) = false := beq_no (by omega)
      have e11 : ((M : Int) == 11) = false := beq_no (by omega)
      have HY : Hid (daysM y m = 31) := by
        unfold Hid daysM
        rw [if_neg (by omega)]
        rcases (by omega : m = 0 ∨ m = 2 ∨ m = 4 ∨ m = 6 ∨ m = 7 ∨ m = 9 ∨ m = 11) with rfl | rfl | rfl | rfl | rfl | rfl | rfl <;> rfl
      clear h2 h4 hM
      go_enter Tryd.func46, Tryd.ntmps46
      go_wp2_with fail
      go_ret
      exact ⟨ret_int (by rw [HY.out]; rfl), rfl⟩
set_option maxRecDepth 100000 in
theorem refName_any (m M : Nat) (hm : m < 12) (hM : M = m + 1) (w : World) :
    Calls Tryd.prog 48 #[.int .i64 (M : Int)] w fun e w' => e = .returned (.string (monN m)) ∧ w = w' := by
  rcases (by omega : m = 0 ∨ m = 1 ∨ m = 2 ∨ m = 3 ∨ m = 4 ∨ m = 5 ∨ m = 6 ∨ m = 7 ∨ m = 8 ∨ m = 9 ∨ m = 10 ∨ m = 11) with rfl | rfl | rfl | rfl | rfl | rfl | rfl | rfl | rfl | rfl | rfl | rfl <;> subst hM
  all_goals
    go_enter Tryd.func48, Tryd.ntmps48
    go_wp2_with fail
    go_ret
    exact ⟨ret_str (bytes_eq (by rfl)), rfl⟩
set_option maxRecDepth 100000 in
theorem refTwo_any (n : Nat) (hn : n < 100) (w : World) :
    Calls Tryd.prog 47 #[.int .i64 (n : Int)] w fun e w' => e = .returned (.string ⟨#[dgt (n / 10), dgt n]⟩) ∧ Below w.heap.size w w' := by
  obtain ⟨a, ha⟩ : ∃ a : Nat, a = n / 10 := ⟨_, rfl⟩
  obtain ⟨b, hb⟩ : ∃ b : Nat, b = n % 10 := ⟨_, rfl⟩
  have q1 : (n : Int).tdiv 10 = (a : Int) := by rw [Int.tdiv_eq_ediv_of_nonneg (by omega)]; omega
  have q3 : (n : Int).tmod 10 = (b : Int) := by rw [Int.tmod_eq_emod_of_nonneg (by omega)]; omega
  have q2 : (n : Int) / 10 = (a : Int) := by omega
  have q4 : (n : Int) % 10 = (b : Int) := by omega
  have la : a < 10 := by omega
  have lb : b < 10 := by omega
  have HA : Hid (dgt (n / 10) = dgt a) := by unfold Hid; rw [ha]
  have HB : Hid (dgt n = dgt b) := by unfold Hid dgt; rw [hb, Nat.mod_mod]
  clear ha hb
  have hcv : (convert 41 9 (.slice (some ⟨w.heap.size, 0, none⟩) 2 2)).run Tryd.prog (w.alloc (.cells #[.int .u8 (48 + (a : Int)), .int .u8 (48 + (b : Int))] 5)) = .ok (.string ⟨#[dgt a, dgt b]⟩) (w.alloc (.cells #[.int .u8 (48 + (a : Int)), .int .u8 (48 + (b : Int))] 5)) := by
    have hs : sliceAt (w.alloc (.cells #[.int .u8 (48 + (a : Int)), .int .u8 (48 + (b : Int))] 5)) (some ⟨w.heap.size, 0, none⟩) [dgt a, dgt b] := sliceAt_new w _ _ _ [dgt a, dgt b] (by
      have ea : ((dgt a).toNat : Int) = 48 + (a : Int) := by rw [dgt_nat]; omega
      have eb : ((dgt b).toNat : Int) = 48 + (b : Int) := by rw [dgt_nat]; omega
      show [Value.int .u8 (48 + (a : Int)), Value.int .u8 (48 + (b : Int))] = [Value.int .u8 ((dgt a).toNat : Int), Value.int .u8 ((dgt b).toNat : Int)]
      rw [ea, eb])
    exact bytesArg_string (hs.arg (cap := 2) (Nat.le_refl 2) (by unfold maxLen; omega))
  have HBx : Hid (Below w.heap.size w (w.alloc (.cells #[.int .u8 (48 + (a : Int)), .int .u8 (48 + (b : Int))] 5))) := (Below.refl _ _).alloc (Nat.le_refl _) _
  go_enter Tryd.func47, Tryd.ntmps47
  go_wp2_with fail
  go_ret
  exact ⟨ret_str (by rw [HA.out, HB.out]), HBx.out⟩
set_option maxRecDepth 100000 in
theorem refDay_any (sec zone : Int) (h0 : -1125899906842624 ≤ sec) (h1 : sec ≤ 1125899906842624) (h2 : -1073741824 ≤ zone) (h3 : zone ≤ 1073741824) (w : World) :
    Calls Tryd.prog 17 #[.agg #[.int .i64 sec, .int .i64 zone]] w fun e w' => e = .returned (.int .i64 (dayN sec zone)) ∧ Below w.heap.size w w' := by
  obtain ⟨X1, hX1⟩ : ∃ X, X = w.alloc (.cells #[.int .i64 sec, .int .i64 zone] 27) := ⟨_, rfl⟩
  obtain ⟨c0, c1⟩ : X1.cell? ⟨w.heap.size, 0, none⟩ = some (.int .i64 sec) ∧ X1.cell? ⟨w.heap.size, 1, none⟩ = some (.int .i64 zone) := by rw [hX1]; exact cells2 w _ _ _
  have HB1 : Hid (Below w.heap.size w X1) := by rw [hX1]; exact (Below.refl _ _).alloc (Nat.le_refl _) _
  obtain ⟨h, hh⟩ : ∃ h, sec + 60 * zone = h := ⟨_, rfl⟩
  have lh : -2000000000000000 ≤ h ∧ h ≤ 2000000000000000 := by omega
  have HR : Hid (dayN sec zone = h / 86400) := by unfold Hid dayN; rw [hh]
  obtain ⟨lh0, lh1⟩ := lh
  obtain ⟨q, hq⟩ : ∃ q, h.tdiv 86400 = q := ⟨_, rfl⟩
  obtain ⟨r, hr⟩ : ∃ r, h.tmod 86400 = r := ⟨_, rfl⟩
  have hqr := Int.mul_tdiv_add_tmod h 86400
  rw [hq, hr] at hqr
  have hr1 : r < 86400 := by rw [← hr]; exact Int.tmod_lt_of_pos h (by omega)
  have hr2 : -86400 < r := by rw [← hr]; exact Int.lt_tmod_of_pos h (by omega)
  have hrs : 0 ≤ h → 0 ≤ r := fun g => by rw [← hr]; exact Int.tmod_nonneg 86400 g
  have hrn : h ≤ 0 → r ≤ 0 := fun g => by
    have e : h.tmod 86400 = -((-h).tmod 86400) := by rw [Int.neg_tmod, Int.neg_neg]
    have := Int.tmod_nonneg 86400 (show 0 ≤ -h by omega)
    omega
  have lq : -30000000000 ≤ q ∧ q ≤ 30000000000 := by omega
  obtain ⟨lq0, lq1⟩ := lq
  by_cases hr0 : r < 0
  · have i1 : decide (r < 0) = true := decide_eq_true hr0
    have HQ : Hid (h / 86400 = q - 1) := by unfold Hid; omega
    clear hqr hr1 hr2 hrs hrn hr0
    go_enter Tryd.func17, Tryd.ntmps17
    go_wp2_with fail
    try rw [← hX1]
    try go_wp2_with fail
    go_ret
    exact ⟨ret_int (by rw [HR.out, HQ.out]), by first | exact HB1.out | (rw [← hX1]; exact HB1.out)⟩
  · have i1 : decide (r < 0) = false := decide_eq_false hr0
    have HQ : Hid (h / 86400 = q) := by unfold Hid; omega
    clear hqr hr1 hr2 hrs hrn hr0
    go_enter Tryd.func17, Tryd.ntmps17
    go_wp2_with fail
    try rw [← hX1]
    try go_wp2_with fail
    go_ret
    exact ⟨ret_int (by rw [HR.out, HQ.out]), by first | exact HB1.out | (rw [← hX1]; exact HB1.out)⟩
end Go.Proofs.YtfndidcoahammaaDoor
