/- Contracts of package params: what is skipped. -/
import Derived.Test.YtkkdplccneeaiaaGreatDoorGbParM
import Derived.Test.YtkkdplccneeaiaaGreatDoorKit2
import Derived.Test.YtkkdplccneeaiaaGreatDoorQB
import Derived.Deep.RegionLaw
import Derived.RegionCalls
namespace Go.Proofs.YtkkdplccneeaiaaGreatDoor
open Go Go.RowKit

theorem skL_esc (d : Nat) (l : List UInt8) : skL true d l = skL false d (l.drop 1) := by
  cases l with
  | nil => rw [skL_nil]; exact (skL_nil _ _).symm
  | cons c l => rfl
theorem skL_stroke (d : Nat) (l : List UInt8) : skL false (d + 1) (92 :: l) = skL false (d + 1) (l.drop 1) := by
  rw [← skL_esc]
  rfl
theorem skL_open (d : Nat) (l : List UInt8) : skL false d (40 :: l) = skL false (d + 1) l := by cases d <;> rfl
theorem skL_shut (d : Nat) (l : List UInt8) : skL false (d + 1) (41 :: l) = skL false d l := rfl
theorem skL_other (d : Nat) (c : UInt8) (l : List UInt8) (h1 : c ≠ 92) (h2 : c ≠ 40) (h3 : c ≠ 41) : skL false (d + 1) (c :: l) = skL false (d + 1) l := by
  show (if c = 92 then _ else if c = 40 then _ else if c = 41 then _ else _) = _
  rw [if_neg h1, if_neg h2, if_neg h3]

end Go.Proofs.YtkkdplccneeaiaaGreatDoor
