/- Plain words of layer 11: a moment's text, byte by byte. -/
import Derived.Test.YtpmjlhpbknppiaaDoorDtS
import Derived.Test.YtpmjlhpbknppiaaDoorDtT
import Derived.Test.YtpmjlhpbknppiaaDoorDtW
namespace Go.Proofs.YtpmjlhpbknppiaaDoor

/-- A moment's text. -/
def intT0 (y m d x zh zm : Nat) (sg : UInt8) : List UInt8 := [34] ++ filL 32 2 d ++ [45] ++ (monN m).data.toList ++ [45] ++ filL 48 4 y ++ [32] ++ Lib.join [filL 48 2 (x / 3600), filL 48 2 (x % 3600 / 60), filL 48 2 (x % 60)] [58] ++ [32] ++ [sg] ++ Lib.join [filL 48 2 zh, filL 48 2 zm] [] ++ [34]
/-- A digit's letter. -/
def dgt (n : Nat) : UInt8 := UInt8.ofNat (48 + n % 10)
theorem dgt_nat (n : Nat) : (dgt n).toNat = 48 + n % 10 := by
  unfold dgt
  rw [UInt8.toNat_ofNat']
  omega
theorem dgt_dig (n : Nat) : isDig (dgt n) = true := by
  rw [isDig_iff, dgt_nat]
  omega
theorem dec_one {n : Nat} (h : n < 10) : Lib.decDigits n = [dgt n] := by
  rw [Lib.decDigits, dif_pos h]
  unfold dgt
  rw [Nat.mod_eq_of_lt h]
theorem dec_more {n : Nat} (h : ¬ n < 10) : Lib.decDigits n = Lib.decDigits (n / 10) ++ [dgt n] := by
  conv => lhs; rw [Lib.decDigits, dif_neg h]
  rfl
theorem dgt_mod (n : Nat) : dgt (n % 10) = dgt n := by unfold dgt; rw [Nat.mod_mod]
theorem dgt_zero : dgt 0 = 48 := rfl
theorem fil2 {n : Nat} (h : n < 100) : filL 48 2 n = [dgt (n / 10), dgt n] := by
  unfold filL
  by_cases h1 : n < 10
  · rw [dec_one h1]
    have : n / 10 = 0 := by omega
    rw [this]
    rfl
  · rw [dec_more h1, dec_one (by omega)]
    rfl
/-- A day's two bytes. -/
def day2 (d : Nat) : List UInt8 := if d < 10 then [32, dgt d] else [dgt (d / 10), dgt d]
theorem fil2s {n : Nat} (h : n < 100) : filL 32 2 n = day2 n := by
  unfold filL day2
  by_cases h1 : n < 10
  · rw [dec_one h1, if_pos h1]
    rfl
  · rw [dec_more h1, dec_one (by omega), if_neg h1]
    rfl
theorem fil4 {n : Nat} (h : n < 10000) : filL 48 4 n = [dgt (n / 1000), dgt (n / 100), dgt (n / 10), dgt n] := by
  unfold filL
  by_cases h1 : n < 10
  · rw [dec_one h1, show n / 1000 = 0 by omega, show n / 100 = 0 by omega, show n / 10 = 0 by omega]
    rfl
  · rw [dec_more h1]
    by_cases h2 : n / 10 < 10
    · rw [dec_one h2, show n / 1000 = 0 by omega, show n / 100 = 0 by omega]
      rfl
    · rw [dec_more h2]
      by_cases h3 : n / 10 / 10 < 10
      · rw [dec_one h3, show n / 1000 = 0 by omega, Nat.div_div_eq_div_mul]
        rfl
      · rw [dec_more h3, dec_one (by omega), show n / 10 / 10 / 10 = n / 1000 by omega, show n / 10 / 10 = n / 100 by omega]
        rfl
theorem num2 (n : Nat) (h : n < 100) : numOf [dgt (n / 10), dgt n] = n := by
  unfold numOf
  simp only [List.foldl_cons, List.foldl_nil, dgt_nat]
  omega
theorem num4 (n : Nat) (h : n < 10000) : numOf [dgt (n / 1000), dgt (n / 100), dgt (n / 10), dgt n] = n := by
  unfold numOf
  simp only [List.foldl_cons, List.foldl_nil, dgt_nat]
  omega
theorem num1 (n : Nat) (h : n < 10) : numOf [dgt n] = n := by
  unfold numOf
  simp only [List.foldl_cons, List.foldl_nil, dgt_nat]
  omega
theorem dig2_cons {a b : UInt8} {r : List UInt8} : digOk 2 (a :: b :: r) ↔ isDig a = true ∧ isDig b = true := by
  unfold digOk
  simp
theorem dig1_cons {a : UInt8} {r : List UInt8} : digOk 1 (a :: r) ↔ isDig a = true := by
  unfold digOk
  simp
theorem dig4_cons {a b c d : UInt8} {r : List UInt8} : digOk 4 (a :: b :: c :: d :: r) ↔ isDig a = true ∧ isDig b = true ∧ isDig c = true ∧ isDig d = true := by
  unfold digOk
  simp
/-- A month's three letters, and what follows. -/
theorem mon_cons (m : Nat) (hm : m < 12) : ∃ a b c, (monN m).data.toList = [a, b, c] ∧ (∀ r, monI (a :: b :: c :: r) = m) ∧ (∀ x ∈ [a, b, c], x ≠ 45 ∧ x ≠ 40 ∧ blk x = false) := by
  rcases (by omega : m = 0 ∨ m = 1 ∨ m = 2 ∨ m = 3 ∨ m = 4 ∨ m = 5 ∨ m = 6 ∨ m = 7 ∨ m = 8 ∨ m = 9 ∨ m = 10 ∨ m = 11) with rfl | rfl | rfl | rfl | rfl | rfl | rfl | rfl | rfl | rfl | rfl | rfl
  all_goals
    refine ⟨_, _, _, rfl, fun r => ?_, by decide⟩
    unfold monI
    have e : ∀ a b c : UInt8, decide (3 ≤ (a :: b :: c :: r).length) = true := fun a b c => decide_eq_true (by simp)
    simp only [e, List.take_succ_cons, List.take_zero, Bool.true_and]
    rfl
/-- The text, byte by byte. -/
theorem intT_is {y m d x zh zm : Nat} {sg a b c : UInt8} (hy : y < 10000) (hd : d < 100) (hx : x < 86400) (hzh : zh < 100) (hzm : zm < 100) (hm : (monN m).data.toList = [a, b, c]) :
    ∃ d1 d2, day2 d = [d1, d2] ∧ intT0 y m d x zh zm sg = [34, d1, d2, 45, a, b, c, 45, dgt (y / 1000), dgt (y / 100), dgt (y / 10), dgt y, 32, dgt (x / 3600 / 10), dgt (x / 3600), 58, dgt (x % 3600 / 60 / 10), dgt (x % 3600 / 60), 58, dgt (x % 60 / 10), dgt (x % 60), 32, sg, dgt (zh / 10), dgt zh, dgt (zm / 10), dgt zm, 34] := by
  obtain ⟨d1, d2, hd2⟩ : ∃ d1 d2, day2 d = [d1, d2] := by
    unfold day2
    split
    · exact ⟨_, _, rfl⟩
    · exact ⟨_, _, rfl⟩
  refine ⟨d1, d2, hd2, ?_⟩
  unfold intT0
  rw [fil2s hd, fil4 hy, fil2 (by omega), fil2 (by omega), fil2 (by omega), fil2 hzh, fil2 hzm, hm, hd2]
  simp [Lib.join, List.intercalate, List.intersperse]
end Go.Proofs.YtpmjlhpbknppiaaDoor
