/- What the rows' variables give: utf8's two tables. -/
import Derived.Test.YtodheanfpclhaaaDoorRow
import Derived.Test.YtodheanfpclhaaaDoorCsF
import Derived.LaidLaws
import Derived.Lib.LaidU8
import Derived.Lib.LaidU8T
namespace Go.Proofs.YtodheanfpclhaaaDoor
open Go Go.RowKit

theorem u8extra : U8Extra Tryd.prog Tryd.lays196_ren := ⟨by kernel_rfl, by kernel_rfl, by kernel_rfl, by kernel_rfl, by kernel_rfl, by kernel_rfl, by kernel_rfl⟩
theorem first_is : Rows.laid_unicode_utf8_first = Lib.firstData := by kernel_rfl
theorem accept_is : (Rows.laid_unicode_utf8_acceptRanges : DataW Unit) = Lib.acceptData := by kernel_rfl
theorem laid_plain8 {W : World} (h : laidMetH Tryd.prog Rows.charsetTextsRow.laid W) : laidMet Tryd.prog Rows.charsetTextsRow.laid W := h
theorem tabs_of_laid {W : World} (h : laidMetH Tryd.prog Rows.charsetTextsRow.laid W) : Tryd.tabs W := by
  have h1 := Lib.laidMet.reads (laid_plain8 h) (n := "unicode/utf8.first") (d := Rows.laid_unicode_utf8_first) (by exact .tail _ (.head _))
  have h2 := Lib.laidMet.reads (laid_plain8 h) (n := "unicode/utf8.acceptRanges") (d := Rows.laid_unicode_utf8_acceptRanges) (by exact .head _)
  rw [first_is] at h1
  rw [accept_is] at h2
  exact utf8Tabs_of_readsT (U8Types.of196 Tryd.lays196) u8extra h1 h2
end Go.Proofs.YtodheanfpclhaaaDoor
