/- Layer 18: the document's example, in plain words. No program. -/
import Derived.Test.YtkkdplccneeaiaaGreatDoorGbWfM
import Derived.KernelRfl
namespace Go.Proofs.YtkkdplccneeaiaaGreatDoor
open Go Go.RowKit

def exA : List UInt8 := [97, 32, 123, 49, 125, 13, 10]
def exB : List UInt8 := [98, 32, 99, 13, 10]
def exT : List UInt8 := [97, 32, 123, 49, 125, 13, 10, 98, 32, 40, 66, 79, 68, 89, 91, 72, 69, 65, 68, 69, 82, 32, 40, 120, 41, 93, 60, 48, 62, 32, 34, 113, 34, 41]
theorem ex_a : feedF (fr0.ext exA) = ([.go], ⟨exA, 8, 8, 7⟩) := by kernel_rfl
theorem ex_b : feedF ((⟨exA, 8, 8, 7⟩ : Fr).ext exB) = ([.cmd [97, 32, 123, 49, 125, 13, 10, 98, 32, 99]], fr0) := by kernel_rfl
theorem ex_t : toksW (exT.length + 1) exT = some [(1, [97]), (5, []), (2, [98]), (5, []), (3, []), (1, [66, 79, 68, 89, 91, 72, 69, 65, 68, 69, 82, 32, 40, 120, 41, 93, 60, 48, 62]), (5, []), (2, [113]), (4, [])] := by kernel_rfl
theorem ex_q : strW [97, 34] = [34, 97, 92, 34, 34] := by kernel_rfl
end Go.Proofs.YtkkdplccneeaiaaGreatDoor
