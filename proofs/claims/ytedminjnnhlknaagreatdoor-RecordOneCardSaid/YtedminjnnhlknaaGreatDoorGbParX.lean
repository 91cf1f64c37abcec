/- What the row's variables give: the powers of ten, that an error lies, and the library's own type of errors (its handle). -/
import Derived.Test.YtedminjnnhlknaaGreatDoorRow
import Derived.Test.YtedminjnnhlknaaGreatDoorGbParU
import Derived.Test.YtedminjnnhlknaaGreatDoorGbRcY
import Derived.LaidLaws
import Derived.LaidHandle
import Derived.Lib.LaidU8
namespace Go.Proofs.YtedminjnnhlknaaGreatDoor
open Go Go.RowKit

theorem gPow10 : Tryz.prog.globalNamed "internal/strconv.uint64pow10" = some 6 := by kernel_rfl
theorem gPow10Type : (Tryz.prog.globals[6]?).map (·.type) = some 292 := by kernel_rfl
theorem cellsPow10 : Tryz.prog.cellsOf 292 = 20 := by kernel_rfl
theorem cellsU64 : Tryz.prog.cellsOf 72 = 1 := by kernel_rfl
theorem gErrSyn : Tryz.prog.globalNamed "strconv.ErrSyntax" = some 4 := by kernel_rfl
theorem gErrSynType : (Tryz.prog.globals[4]?).map (·.type) = some 61 := by kernel_rfl
theorem gErrT : Tryz.prog.globalNamed "errors.errorType" = some 0 := by kernel_rfl
theorem rtT : (Tryz.prog.cutTypes.find? (·.1 == "internal/reflectlite.rtype")).map (·.2) = some 191 := by kernel_rfl
theorem oneErr : ((List.range 325).filter fun t => Tryz.prog.rowNamed t [101, 114, 114, 111, 114]) = [61] := by kernel_rfl
theorem typesN : Tryz.prog.types.size = 325 := by kernel_rfl
theorem laid_two {W : World} (h : laidMetH Tryz.prog Rows.recordTornRow.laid W) : laidMet Tryz.prog [("math/bits.deBruijn32tab", Rows.laid_math_bits_deBruijn32tab), ("math/bits.deBruijn64tab", Rows.laid_math_bits_deBruijn64tab), ("internal/strconv.uint64pow10", Rows.laid_internal_strconv_uint64pow10), ("unicode/utf8.acceptRanges", Rows.laid_unicode_utf8_acceptRanges), ("strconv.ErrRange", Rows.laid_strconv_ErrRange), ("strconv.ErrSyntax", Rows.laid_strconv_ErrSyntax), ("unicode/utf8.first", Rows.laid_unicode_utf8_first)] W ∧ handlesMet Tryz.prog [("errors.errorType", Rows.laid_errors_errorType)] W := h
theorem errAt_of_laid {W : World} (h : laidMetH Tryz.prog Rows.recordTornRow.laid W) : errAt W := by
  obtain ⟨g, t, cs, fuel, p, hg, ht, hv, hd⟩ := Lib.laidMet.reads (laid_two h).1 (n := "strconv.ErrSyntax") (d := Rows.laid_strconv_ErrSyntax) (by exact .tail _ (.tail _ (.tail _ (.tail _ (.tail _ (.head _))))))
  obtain rfl := Option.some.inj (gErrSyn.symm.trans hg)
  obtain rfl := Option.some.inj (gErrSynType.symm.trans ht)
  obtain ⟨l⟩ := cs
  obtain ⟨f1, u, v, hl, _, _⟩ := iface_of_trod Tryz.underlying61 hd
  have hl' : l = [.iface u v] := hl
  subst hl'
  exact ⟨u, v, World.var?_cell gErrSyn hv 0⟩
theorem errG_of_laid {W : World} (h : laidMetH Tryz.prog Rows.recordTornRow.laid W) : errG W := by
  obtain ⟨name, u, ty, e1, e2, e3, e4, e5⟩ := (laid_two h).2 _ (List.mem_singleton.2 rfl)
  have en : name = [101, 114, 114, 111, 114] := (Option.some.inj e1).symm
  subst en
  obtain rfl := Option.some.inj (rtT.symm.trans e2)
  have hm : ty ∈ (List.range 325).filter fun t => Tryz.prog.rowNamed t [101, 114, 114, 111, 114] := List.mem_filter.2 ⟨List.mem_range.2 (by rw [← typesN]; exact e3), e4⟩
  rw [oneErr] at hm
  obtain rfl := List.mem_singleton.1 hm
  have hh : typeHandle Tryz.prog 61 = .pointer (some ⟨9, 61, none⟩) := by kernel_rfl
  rw [hh] at e5
  have := World.var?_cell gErrT e5 0
  simpa [errG] using this
theorem env_of_laid {W : World} (h : laidMetH Tryz.prog Rows.recordTornRow.laid W) : env W :=
  ⟨Lib.tabIs_of_head (rest := _) gPow10 gPow10Type Tryz.underlying292 Tryz.underlying72 cellsU64 cellsPow10 (laidMet.tail (laidMet.tail (laid_two h).1)), errAt_of_laid h⟩
end Go.Proofs.YtedminjnnhlknaaGreatDoor
