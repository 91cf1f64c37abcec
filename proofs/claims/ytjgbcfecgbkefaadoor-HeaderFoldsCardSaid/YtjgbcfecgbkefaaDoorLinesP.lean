/- Lines in plain words, more of it: where feeds stand. (These laws lie in XLinesK, too: take one of the two.) -/
import Derived.Test.YtjgbcfecgbkefaaDoorLinesM
namespace Go.Proofs.YtjgbcfecgbkefaaDoor
open Go Go.RowKit

theorem firstS_plain (l : List UInt8) {a b k : Nat} (h1 : a ≤ k) (h2 : k < (firstS l a b).t) : ¬ l.getD k 0 = 10 := by
  have hp : k - a < feedI (partS l a b) ∧ k < b → ¬ l.getD k 0 = 10 := fun ⟨h, hb⟩ => by
    have := feedI_ahead h
    rw [partS_at l (by omega), show a + (k - a) = k by omega] at this
    exact this
  unfold firstS at h2
  by_cases hf : feedI (partS l a b) < b - a
  · rw [if_pos hf] at h2
    have := endA_le l a (a + feedI (partS l a b))
    simp only at h2
    exact hp ⟨by omega, by omega⟩
  · rw [if_neg hf] at h2
    simp only at h2
    exact hp ⟨by omega, h2⟩
theorem firstS_feedEnd (l : List UInt8) {a b : Nat} (hb : b ≤ l.length) (h : (firstS l a b).n < b) : l.getD ((firstS l a b).n - 1) 0 = 10 := by
  have hl := partS_len l (a := a) hb
  unfold firstS at h ⊢
  by_cases hf : feedI (partS l a b) < b - a
  · rw [if_pos hf] at h ⊢
    have := feedI_at (l := partS l a b) (by omega)
    rw [partS_at l hf] at this
    exact this
  · rw [if_neg hf] at h
    simp only at h
    omega
theorem linesS_pos (l : List UInt8) {a b : Nat} (h : 0 < (linesS l a b).length) : a < b := by
  rcases Nat.lt_or_ge a b with h1 | h1
  · exact h1
  · rw [linesS_nil l (by omega)] at h
    simp at h
theorem at_pre {pre r : List Ln} {x : Ln} {i : Nat} {ls : List Ln} (h : ls = pre ++ x :: r) (hi : i = pre.length) (hlt : i < ls.length) : ls[i] = x := by
  subst h hi
  simp

end Go.Proofs.YtjgbcfecgbkefaaDoor
