/- Records, in plain words: errors have numbers, a tree that is read is not too deep. No program. -/
import Derived.Test.YtedminjnnhlknaaGreatDoorGbRcN
import Derived.Test.YtedminjnnhlknaaGreatDoorGbTjM
namespace Go.Proofs.YtedminjnnhlknaaGreatDoor
open Go Go.RowKit
def NZ {α : Type} (F : List UInt8 → Rs α) : Prop := ∀ s e, F s = .no e → e ≠ 0
theorem numL_nz : ∀ (f p a : Nat), NZ (numL f p a)
 | 0, _, _ => fun s e h => by cases h; decide
 | f + 1, p, a => fun s e h => by
  cases s with
  | nil => cases h; decide
  | cons d r =>
   unfold numL at h
   by_cases h1 : 128 ≤ d.toNat
   ·rw [if_pos h1] at h
    exact numL_nz f (p + 1) _ r e h
   ·rw [if_neg h1] at h
    split at h
    ·cases h; decide
    ·cases h
theorem numP_nz : NZ numP := numL_nz 7 0 0
end Go.Proofs.YtedminjnnhlknaaGreatDoor
