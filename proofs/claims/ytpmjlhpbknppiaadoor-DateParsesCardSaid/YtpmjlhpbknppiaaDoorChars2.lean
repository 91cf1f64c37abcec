/- Contracts of Number, of the document's Number, and what a number's text is. -/
import Derived.Test.YtpmjlhpbknppiaaDoorChars
namespace Go.Proofs.YtpmjlhpbknppiaaDoor
open Go Go.RowKit

def isDig (b : UInt8) : Bool := decide (48 ≤ (b.toNat : Int) ∧ (b.toNat : Int) ≤ 57)
def numOf (l : List UInt8) : Nat := l.foldl (fun n b => n * 10 + (b.toNat - 48)) 0
def numSpec (l : List UInt8) : Option Nat :=
  if l.length < 1 ∨ 10 < l.length ∨ (l.head? = some 48 ∧ 1 < l.length) ∨ l.all isDig = false ∨ 4294967295 < numOf l then none else some (numOf l)

theorem numOf_snoc (l : List UInt8) (b : UInt8) : numOf (l ++ [b]) = numOf l * 10 + (b.toNat - 48) := by simp [numOf]
theorem isDig_iff (b : UInt8) : isDig b = true ↔ 48 ≤ b.toNat ∧ b.toNat ≤ 57 := by unfold isDig; simp; omega

theorem isDig_false {b : UInt8} (h : ¬ (48 ≤ b.toNat ∧ b.toNat ≤ 57)) : isDig b = false := by have := mt (isDig_iff b).1 h; simpa using this
theorem numOf_lt' (l : List UInt8) (h : l.all isDig = true) (a : Nat) : l.foldl (fun n b => n * 10 + (b.toNat - 48)) a < (a + 1) * 10 ^ l.length := by
  induction l generalizing a with
  | nil => simp
  | cons b l ih =>
    rw [List.all_cons, Bool.and_eq_true] at h
    have h2 := (isDig_iff b).1 h.1
    have h1 := ih h.2 (a * 10 + (b.toNat - 48))
    rw [List.foldl_cons, List.length_cons, Nat.pow_succ, Nat.mul_comm (10 ^ _) 10, ← Nat.mul_assoc]
    exact Nat.lt_of_lt_of_le h1 (Nat.mul_le_mul_right _ (by omega))
theorem numOf_lt (l : List UInt8) (h : l.all isDig = true) : numOf l < 10 ^ l.length := by
  have := numOf_lt' l h 0
  simpa [numOf] using this
theorem numOf_le (l : List UInt8) (h : l.all isDig = true) (hl : l.length ≤ 10) : numOf l ≤ 9999999999 := by
  have h1 := numOf_lt l h
  have h2 : 10 ^ l.length ≤ 10 ^ 10 := Nat.pow_le_pow_right (by decide) hl
  omega
theorem numSpec_short {l : List UInt8} (h : l.length < 1) : numSpec l = none := by unfold numSpec; rw [if_pos (.inl h)]
theorem numSpec_long {l : List UInt8} (h : 10 < l.length) : numSpec l = none := by unfold numSpec; rw [if_pos (.inr (.inl h))]
theorem numSpec_nought {l : List UInt8} (h : l.head? = some 48) (h1 : 1 < l.length) : numSpec l = none := by unfold numSpec; rw [if_pos (.inr (.inr (.inl ⟨h, h1⟩)))]
theorem numSpec_other {l : List UInt8} (h : l.all isDig = false) : numSpec l = none := by unfold numSpec; rw [if_pos (.inr (.inr (.inr (.inl h))))]
theorem numSpec_great {l : List UInt8} (h : 4294967295 < numOf l) : numSpec l = none := by unfold numSpec; rw [if_pos (.inr (.inr (.inr (.inr h))))]
theorem numSpec_good {l : List UInt8} (h1 : 1 ≤ l.length) (h2 : l.length ≤ 10) (h3 : ¬ (l.head? = some 48 ∧ 1 < l.length)) (h4 : l.all isDig = true) (h5 : numOf l ≤ 4294967295) : numSpec l = some (numOf l) := by
  unfold numSpec
  rw [if_neg]
  simp only [h4]
  simp only [not_or]
  exact ⟨by omega, by omega, h3, by simp, by omega⟩

theorem all_not {s : ByteArray} {k : Nat} (h : k < s.size) (hd : isDig s[k] = false) : s.data.toList.all isDig = false := by
  rw [List.all_eq_false]
  exact ⟨s[k], by simp [ByteArray.getElem_eq_getElem_data], by simp [hd]⟩

def numV (o : Option Nat) : Value := .tuple #[.int .i64 (o.getD 0 : Nat), .bool o.isSome]
theorem numV_none {o : Option Nat} (h : o = none) : Ending.returned (.tuple #[.int .i64 0, .bool false]) = .returned (numV o) := by subst h; rfl
theorem numV_some {o : Option Nat} {n : Nat} (h : o = some n) : Ending.returned (.tuple #[.int .i64 n, .bool true]) = .returned (numV o) := by subst h; rfl

end Go.Proofs.YtpmjlhpbknppiaaDoor
