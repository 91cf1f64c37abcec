/- What the row's variables give: the powers of ten, and that an error lies. -/
import Derived.Test.YtahmhakdpmcdoaaGreatDoorRow
import Derived.Test.YtahmhakdpmcdoaaGreatDoorGbParU
import Derived.LaidLaws
import Derived.Lib.LaidU8
namespace Go.Proofs.YtahmhakdpmcdoaaGreatDoor
open Go Go.RowKit

theorem gPow10 : Tryz.prog.globalNamed "internal/strconv.uint64pow10" = some 5 := by kernel_rfl
theorem gPow10Type : (Tryz.prog.globals[5]?).map (·.type) = some 209 := by kernel_rfl
theorem cellsPow10 : Tryz.prog.cellsOf 209 = 20 := by kernel_rfl
theorem cellsU64 : Tryz.prog.cellsOf 181 = 1 := by kernel_rfl
theorem gErrSyn : Tryz.prog.globalNamed "strconv.ErrSyntax" = some 3 := by kernel_rfl
theorem gErrSynType : (Tryz.prog.globals[3]?).map (·.type) = some 143 := by kernel_rfl
theorem laid_plain {W : World} (h : laidMetH Tryz.prog Rows.fetchPiecesRow.laid W) : laidMet Tryz.prog Rows.fetchPiecesRow.laid W := h
theorem errAt_of_laid {W : World} (h : laidMet Tryz.prog Rows.fetchPiecesRow.laid W) : errAt W := by
  obtain ⟨g, t, cs, fuel, p, hg, ht, hv, hd⟩ := Lib.laidMet.reads h (n := "strconv.ErrSyntax") (d := Rows.laid_strconv_ErrSyntax) (by exact .tail _ (.tail _ (.tail _ (.tail _ (.tail _ (.head _))))))
  obtain rfl := Option.some.inj (gErrSyn.symm.trans hg)
  obtain rfl := Option.some.inj (gErrSynType.symm.trans ht)
  obtain ⟨l⟩ := cs
  obtain ⟨f1, u, v, hl, _, _⟩ := iface_of_trod Tryz.underlying143 hd
  have hl' : l = [.iface u v] := hl
  subst hl'
  exact ⟨u, v, World.var?_cell gErrSyn hv 0⟩
theorem env_of_laid {W : World} (h : laidMetH Tryz.prog Rows.fetchPiecesRow.laid W) : env W :=
  ⟨Lib.tabIs_of_head (rest := _) gPow10 gPow10Type Tryz.underlying209 Tryz.underlying181 cellsU64 cellsPow10 (laidMet.tail (laidMet.tail (laid_plain h))), errAt_of_laid (laid_plain h)⟩
end Go.Proofs.YtahmhakdpmcdoaaGreatDoor
