/- The laws of layer 1: contracts. -/
import Derived.Test.YthcleaflhljdlaaGreatDoorRow
import Derived.Test.YthcleaflhljdlaaGreatDoorChars7
namespace Go.Proofs.YthcleaflhljdlaaGreatDoor
open Go Go.RowKit

theorem gPow10 : Tryz.prog.globalNamed "internal/strconv.uint64pow10" = some 2 := by kernel_rfl
theorem gPow10Type : (Tryz.prog.globals[2]?).map (·.type) = some 125 := by kernel_rfl
theorem cellsPow10 : Tryz.prog.cellsOf 125 = 20 := by kernel_rfl
theorem cellsU64 : Tryz.prog.cellsOf 45 = 1 := by kernel_rfl
theorem tab_of_laid_off : True := trivial

theorem blank_same {c : Int} (h : ¬ c = 32) : (decide (c = 9) == ((c == 32) || (c == 9))) = true := by
  by_cases h9 : c = 9
  · subst h9; rfl
  · have e1 : (c == 32) = false := by simpa using h
    have e2 : (c == 9) = false := by simpa using h9
    rw [e1, e2, decide_eq_false h9]
    rfl

end Go.Proofs.YthcleaflhljdlaaGreatDoor
