/- Lines in plain words: where they begin, end, and where the next one begins. No program. -/
import Derived.Test.YtedminjnnhlknaaGreatDoorKit2
import Derived.Test.YtedminjnnhlknaaGreatDoorShelf
namespace Go.Proofs.YtedminjnnhlknaaGreatDoor
open Go Go.RowKit
structure Ln where
 f : Nat
 t : Nat
 n : Nat
def lnV (x : Ln) : Value := .agg #[.int .i64 (x.f : Int), .int .i64 (x.t : Int), .int .i64 (x.n : Int)]
def lnC (x : Ln) : List Value := [.int .i64 (x.f : Int), .int .i64 (x.t : Int), .int .i64 (x.n : Int)]
def endA (l : List UInt8) (a i : Nat) : Nat := if a < i ∧ l.getD (i - 1) 0 = 13 then i - 1 else i
def scanL (l : List UInt8) : Nat → Nat → Nat → List Ln
 | 0, a, i => if a < i then [⟨a, i, i⟩] else []
 | k + 1, a, i => if l.getD i 0 = 10 then ⟨a, endA l a i, i + 1⟩ :: scanL l k (i + 1) (i + 1) else scanL l k a (i + 1)
def linesS (l : List UInt8) (a b : Nat) : List Ln := scanL l (b - a) a a
def feedI (l : List UInt8) : Nat := l.findIdx (· == 10)
def partS (l : List UInt8) (a b : Nat) : List UInt8 := (l.drop a).take (b - a)
def firstS (l : List UInt8) (a b : Nat) : Ln :=
 if feedI (partS l a b) < b - a then ⟨a, endA l a (a + feedI (partS l a b)), a + feedI (partS l a b) + 1⟩ else ⟨a, b, b⟩
theorem feedI_le (l : List UInt8) : feedI l ≤ l.length := List.findIdx_le_length
theorem partS_len (l : List UInt8) {a b : Nat} (h : b ≤ l.length) : (partS l a b).length = b - a := by unfold partS; rw [List.length_take, List.length_drop]; omega
theorem partS_at (l : List UInt8) {a b j : Nat} (h : j < b - a) : (partS l a b).getD j 0 = l.getD (a + j) 0 := by
 unfold partS
 rw [List.getD_eq_getElem?_getD, List.getD_eq_getElem?_getD, List.getElem?_take, if_pos h, List.getElem?_drop]
theorem feedI_at {l : List UInt8} (h : feedI l < l.length) : l.getD (feedI l) 0 = 10 := by
 have h1 := List.findIdx_getElem (p := (· == (10 : UInt8))) (w := h)
 rw [List.getD_eq_getElem?_getD, List.getElem?_eq_getElem h]
 exact eq_of_beq h1
theorem feedI_ahead {l : List UInt8} {j : Nat} (h : j < feedI l) : l.getD j 0 ≠ 10 := by
 have h1 := List.not_of_lt_findIdx (p := (· == (10 : UInt8))) h
 have hl : j < l.length := Nat.lt_of_lt_of_le h (feedI_le l)
 rw [List.getD_eq_getElem?_getD, List.getElem?_eq_getElem hl]
 intro e
 simp at e
 simp [e] at h1
theorem scanL_skip (l : List UInt8) : ∀ (k n a i : Nat), (∀ j, i ≤ j → j < i + k → l.getD j 0 ≠ 10) → scanL l (k + n) a i = scanL l n a (i + k)
 | 0, n, a, i, _ => by rw [Nat.zero_add, Nat.add_zero]
 | k + 1, n, a, i, h => by
  rw [show k + 1 + n = (k + n) + 1 by omega, scanL, if_neg (h i (Nat.le_refl _) (by omega)), scanL_skip l k n a (i + 1) (fun j h1 h2 => h j (by omega) (by omega))]
  congr 1
  omega
theorem linesS_nil (l : List UInt8) {a b : Nat} (h : ¬ a < b) : linesS l a b = [] := by
 unfold linesS
 rw [show b - a = 0 by omega, scanL, if_neg (by omega)]
theorem linesS_step (l : List UInt8) {a b : Nat} (h : a < b) (hb : b ≤ l.length) : linesS l a b = firstS l a b :: linesS l (firstS l a b).n b := by
 have hl := partS_len l (a := a) hb
 have hfl := feedI_le (partS l a b)
 by_cases hf : feedI (partS l a b) < b - a
 ·have e1 := feedI_at (l := partS l a b) (by omega)
  rw [partS_at l hf] at e1
  have hsk := scanL_skip l (feedI (partS l a b)) (b - a - feedI (partS l a b)) a a (fun j h1 h2 => by
   have := feedI_ahead (l := partS l a b) (j := j - a) (by omega)
   rw [partS_at l (by omega), show a + (j - a) = j by omega] at this
   exact this)
  have hF : firstS l a b = ⟨a, endA l a (a + feedI (partS l a b)), a + feedI (partS l a b) + 1⟩ := by unfold firstS; rw [if_pos hf]
  rw [hF]
  unfold linesS
  rw [show b - a = feedI (partS l a b) + (b - a - feedI (partS l a b)) by omega, hsk]
  rw [show b - a - feedI (partS l a b) = (b - (a + feedI (partS l a b) + 1)) + 1 by omega, scanL, if_pos e1]
 ·have hF : firstS l a b = ⟨a, b, b⟩ := by unfold firstS; rw [if_neg hf]
  have hsk := scanL_skip l (b - a) 0 a a (fun j h1 h2 => by
   have := feedI_ahead (l := partS l a b) (j := j - a) (by omega)
   rw [partS_at l (by omega), show a + (j - a) = j by omega] at this
   exact this)
  rw [hF]
  show linesS l a b = ⟨a, b, b⟩ :: linesS l b b
  rw [linesS_nil l (show ¬ b < b by omega)]
  unfold linesS
  rw [show b - a = (b - a) + 0 by omega, hsk, scanL, if_pos (by omega), show a + (b - a) = b by omega]
theorem endA_le (l : List UInt8) (a i : Nat) : endA l a i ≤ i := by unfold endA; split <;> omega
theorem endA_ge (l : List UInt8) {a i : Nat} (h : a ≤ i) : a ≤ endA l a i := by unfold endA; split <;> omega
theorem endA_far (l : List UInt8) (a i : Nat) : i ≤ endA l a i + 1 := by unfold endA; split <;> omega
theorem firstS_bounds (l : List UInt8) {a b : Nat} (h : a < b) : (firstS l a b).f = a ∧ a ≤ (firstS l a b).t ∧ (firstS l a b).t ≤ (firstS l a b).n ∧ a < (firstS l a b).n ∧ (firstS l a b).n ≤ b ∧ (firstS l a b).n ≤ (firstS l a b).t + 2 := by
 unfold firstS
 split
 ·have h1 := endA_le l a (a + feedI (partS l a b))
  have h2 := endA_ge l (Nat.le_add_right a (feedI (partS l a b)))
  have h3 := endA_far l a (a + feedI (partS l a b))
  refine ⟨rfl, h2, ?_, ?_, ?_, ?_⟩ <;> simp only <;> omega
 ·exact ⟨rfl, Nat.le_of_lt h, Nat.le_refl _, h, Nat.le_refl _, Nat.le_add_right _ _⟩
theorem scanL_len (l : List UInt8) : ∀ (k a i : Nat), a ≤ i → (scanL l k a i).length ≤ k + (i - a)
 | 0, a, i, h => by
  rw [scanL]
  split
  ·simp only [List.length_cons, List.length_nil]; omega
  ·simp
 | k + 1, a, i, h => by
  rw [scanL]
  split
  ·have := scanL_len l k (i + 1) (i + 1) (Nat.le_refl _)
   rw [List.length_cons]
   omega
  ·have := scanL_len l k a (i + 1) (by omega)
   omega
theorem linesS_len (l : List UInt8) (a b : Nat) : (linesS l a b).length ≤ b - a := by
 have := scanL_len l (b - a) a a (Nat.le_refl _)
 unfold linesS
 omega
theorem indexByte_feed : ∀ l : List UInt8, Lib.indexByte l 10 = if feedI l < l.length then (feedI l : Int) else -1
 | [] => rfl
 | c :: l => by
  have ih := indexByte_feed l
  unfold Lib.indexByte
  have e : feedI (c :: l) = if c == 10 then 0 else feedI l + 1 := by
   unfold feedI
   rw [List.findIdx_cons]
   cases c == 10 <;> rfl
  cases h : c == 10
  ·have e' : feedI (c :: l) = feedI l + 1 := by rw [e, h]; rfl
   rw [e', List.length_cons, ih]
   simp only [Bool.false_eq_true, if_false]
   by_cases h1 : feedI l < l.length
   ·rw [if_pos h1, if_neg (show ¬ ((feedI l : Int) == -1) = true by simp), if_pos (show feedI l + 1 < l.length + 1 by omega)]
    omega
   ·rw [if_neg h1, if_neg (show ¬ feedI l + 1 < l.length + 1 by omega)]
    rfl
  ·have e' : feedI (c :: l) = 0 := by rw [e, h]; rfl
   rw [e', List.length_cons, if_pos (show 0 < l.length + 1 by omega)]
   simp
def textOf (b : List UInt8) (x : Ln) : List UInt8 := partS b x.f x.t
end Go.Proofs.YtedminjnnhlknaaGreatDoor
