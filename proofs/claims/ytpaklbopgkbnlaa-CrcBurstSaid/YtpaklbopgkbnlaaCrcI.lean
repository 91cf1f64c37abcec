/- Bits that are turned one by one, in plain words. No program. -/
import Derived.Test.YtpaklbopgkbnlaaCrcH
namespace Go.Proofs.Ytpaklbopgkbnlaa
open Go Go.RowKit

/-- A row with the bits turned that a number tells, from the k-th bit on, the first n of them. -/
def turnL (l : List UInt8) (k v : Nat) : Nat → List UInt8
  | 0 => l
  | n + 1 => if v.testBit n then (turnL l k v n).set ((k + n) / 8) (xorB ((turnL l k v n).getD ((k + n) / 8) 0) (2 ^ ((k + n) % 8))) else turnL l k v n
theorem turnL_len (l : List UInt8) (k v : Nat) : ∀ n, (turnL l k v n).length = l.length
  | 0 => rfl
  | n + 1 => by
    simp only [turnL]
    split
    · rw [List.length_set, turnL_len l k v n]
    · exact turnL_len l k v n
theorem pow8_lt (q : Nat) : 2 ^ (q % 8) < 256 := by
  have h : q % 8 < 8 := Nat.mod_lt _ (by decide)
  exact Nat.pow_lt_pow_right (by decide) h
theorem bitAt_set (L : List UInt8) (p j : Nat) (hp : p / 8 < L.length) :
    bitAt (L.set (p / 8) (xorB (L.getD (p / 8) 0) (2 ^ (p % 8)))) j = (bitAt L j ^^ decide (j = p)) := by
  unfold bitAt
  by_cases h : p / 8 = j / 8
  · rw [List.getD_eq_getElem?_getD, List.getElem?_set, if_pos h, if_pos hp, Option.getD_some, xorB_toNat _ (pow8_lt p), Nat.testBit_xor, Nat.testBit_two_pow, h]
    congr 1
    by_cases h2 : j = p
    · subst h2; simp
    · rw [decide_eq_false (by omega), decide_eq_false h2]
  · rw [List.getD_eq_getElem?_getD, List.getElem?_set, if_neg h, ← List.getD_eq_getElem?_getD, decide_eq_false (by rintro rfl; exact h rfl), Bool.xor_false]
theorem bitAt_turn (l : List UInt8) (k v : Nat) (j : Nat) : ∀ n, k + n ≤ 8 * l.length →
    bitAt (turnL l k v n) j = (bitAt l j ^^ (decide (k ≤ j) && decide (j < k + n) && v.testBit (j - k)))
  | 0, _ => by
    have : (decide (k ≤ j) && decide (j < k + 0)) = false := by
      by_cases h : k ≤ j
      · rw [decide_eq_false (show ¬ j < k + 0 by omega), Bool.and_false]
      · rw [decide_eq_false h, Bool.false_and]
    rw [this]
    simp [turnL]
  | n + 1, h => by
    have ih := bitAt_turn l k v j n (by omega)
    simp only [turnL]
    by_cases hb : v.testBit n = true
    · rw [if_pos hb, bitAt_set _ _ _ (by rw [turnL_len]; omega), ih, Bool.xor_assoc]
      congr 1
      by_cases h1 : j = k + n
      · subst h1
        simp [hb, show n < n + 1 by omega]
      · rw [decide_eq_false h1, Bool.xor_false]
        by_cases h2 : j < k + n
        · rw [decide_eq_true h2, decide_eq_true (show j < k + (n + 1) by omega)]
        · rw [decide_eq_false h2, decide_eq_false (show ¬ j < k + (n + 1) by omega)]
    · rw [if_neg hb, ih]
      congr 1
      by_cases h1 : j = k + n
      · subst h1
        have : v.testBit n = false := by simpa using hb
        simp [this]
      · by_cases h2 : j < k + n
        · rw [decide_eq_true h2, decide_eq_true (show j < k + (n + 1) by omega)]
        · rw [decide_eq_false h2, decide_eq_false (show ¬ j < k + (n + 1) by omega)]
theorem turn_sums (s : Nat) (l : List UInt8) (k v : Nat) (hv : v < 4294967296) (h0 : v ≠ 0) (hk : k + 32 ≤ 8 * l.length) : moreS s l ≠ moreS s (turnL l k v 32) := by
  intro h
  refine burst_sums (allN - s) l (turnL l k v 32) k v (turnL_len l k v 32).symm hv h0 hk ?_ (moreS_eq.1 h)
  intro i _
  rw [bitAt_turn l k v i 32 hk, ← Bool.xor_assoc, Bool.xor_self, Bool.false_xor]
/-- A number's n-th bit, as it is asked for. -/
theorem testBit_mod (v n : Nat) : v.testBit n = decide (v / 2 ^ n % 2 = 1) := Nat.testBit_eq_decide_div_mod_eq
end Go.Proofs.Ytpaklbopgkbnlaa
