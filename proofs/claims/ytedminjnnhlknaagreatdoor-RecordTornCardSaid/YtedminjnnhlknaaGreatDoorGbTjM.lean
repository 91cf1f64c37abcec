/- Trees of any make, in plain words: too many parts, parts that aren't formed, tiles that aren't one behind the other. No program. -/
import Derived.Test.YtedminjnnhlknaaGreatDoorGbRcM
namespace Go.Proofs.YtedminjnnhlknaaGreatDoor
open Go Go.RowKit
theorem numP_less {s r : List UInt8} {n : Nat} (h : numP s = .ok n r) : r.length < s.length := by
 have h1 := (numP_inv h).1
 have h2 : 1 ≤ (numB n).length := by
  unfold numB numF
  split
  ·exact Nat.le_refl _
  ·simp
 rw [h1, List.length_append]
 omega
end Go.Proofs.YtedminjnnhlknaaGreatDoor
