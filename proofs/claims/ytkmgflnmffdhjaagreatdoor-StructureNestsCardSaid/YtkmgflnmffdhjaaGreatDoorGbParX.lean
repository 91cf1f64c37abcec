/- What the row's variables give: the powers of ten, and that an error lies. -/
import Derived.Test.YtkmgflnmffdhjaaGreatDoorGbChars7
import Derived.Test.YtkmgflnmffdhjaaGreatDoorGbParU
import Derived.LaidLaws
import Derived.Lib.LaidU8
namespace Go.Proofs.YtkmgflnmffdhjaaGreatDoor
open Go Go.RowKit

theorem gPow10 : Tryz.prog.globalNamed "internal/strconv.uint64pow10" = some 1 := by kernel_rfl
theorem gPow10Type : (Tryz.prog.globals[1]?).map (·.type) = some 274 := by kernel_rfl
theorem cellsPow10 : Tryz.prog.cellsOf 274 = 20 := by kernel_rfl
theorem cellsU64 : Tryz.prog.cellsOf 230 = 1 := by kernel_rfl
theorem gErrSyn : Tryz.prog.globalNamed "strconv.ErrSyntax" = some 4 := by kernel_rfl
theorem gErrSynType : (Tryz.prog.globals[4]?).map (·.type) = some 119 := by kernel_rfl
theorem laid_plain {W : World} (h : laidMetH Tryz.prog Rows.structureTokensRow.laid W) : laidMet Tryz.prog Rows.structureTokensRow.laid W := h
theorem errAt_of_laid {W : World} (h : laidMet Tryz.prog Rows.structureTokensRow.laid W) : errAt W := by
  obtain ⟨g, t, cs, fuel, p, hg, ht, hv, hd⟩ := Lib.laidMet.reads h (n := "strconv.ErrSyntax") (d := Rows.laid_strconv_ErrSyntax) (by exact .tail _ (.tail _ (.tail _ (.tail _ (.tail _ (.head _))))))
  obtain rfl := Option.some.inj (gErrSyn.symm.trans hg)
  obtain rfl := Option.some.inj (gErrSynType.symm.trans ht)
  obtain ⟨l⟩ := cs
  obtain ⟨f1, u, v, hl, _, _⟩ := iface_of_trod Tryz.underlying119 hd
  have hl' : l = [.iface u v] := hl
  subst hl'
  exact ⟨u, v, World.var?_cell gErrSyn hv 0⟩
theorem env_of_laid {W : World} (h : laidMetH Tryz.prog Rows.structureTokensRow.laid W) : env W :=
  ⟨Lib.tabIs_of_head (rest := _) gPow10 gPow10Type Tryz.underlying274 Tryz.underlying230 cellsU64 cellsPow10 (laidMet.tail (laidMet.tail (laid_plain h))), errAt_of_laid (laid_plain h)⟩
end Go.Proofs.YtkmgflnmffdhjaaGreatDoor
