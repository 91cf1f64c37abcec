/- What the rows' variables give: the letters, utf8's two tables, and that an error lies. -/
import Derived.Test.YtolkjaebhhbilaaDoorRow
import Derived.Test.YtolkjaebhhbilaaDoorWdD
import Derived.LaidLaws
import Derived.Lib.LaidU8
import Derived.Lib.LaidU8T
namespace Go.Proofs.YtolkjaebhhbilaaDoor
open Go Go.RowKit

theorem gLetters : Tryd.prog.globalNamed "letterbox/b64.letters" = some 0 := by kernel_rfl
theorem gLettersType : (Tryd.prog.globals[0]?).map (·.type) = some 59 := by kernel_rfl
theorem cellsLetters : Tryd.prog.cellsOf 59 = 64 := by kernel_rfl
theorem cellsU8 : Tryd.prog.cellsOf 5 = 1 := by kernel_rfl
theorem lets_of_laid {W : World} (h : laidMetH Tryd.prog Rows.wordsEncodesRow.laid W) : lets W := by
  have h1 := Lib.tabIs_of_head (k := .u8) (zs := tabL.map fun (b : UInt8) => (b.toNat : Int)) (W := W) (rest := _) gLetters gLettersType Tryd.underlying59 Tryd.underlying5 cellsU8 cellsLetters h
  unfold Lib.TabIs World.var? at h1
  rw [gLetters, Option.bind_some] at h1
  split at h1
  · rename_i cs t fr hh
    refine ⟨t, fr, ?_⟩
    rw [hh]
    have : cs = letA := by
      have := Option.some.inj h1
      rw [this]
      unfold letA
      rw [List.map_map]
      rfl
    rw [this]
  · cases h1
theorem u8extra : U8Extra Tryd.prog Tryd.lays196_ren := ⟨by kernel_rfl, by kernel_rfl, by kernel_rfl, by kernel_rfl, by kernel_rfl, by kernel_rfl, by kernel_rfl⟩
theorem first_is : Rows.laid_unicode_utf8_first = Lib.firstData := by kernel_rfl
theorem accept_is : (Rows.laid_unicode_utf8_acceptRanges : DataW Unit) = Lib.acceptData := by kernel_rfl
theorem laid_plain {W : World} (h : laidMetH Tryd.prog Rows.wordsEncodesRow.laid W) : laidMet Tryd.prog Rows.wordsEncodesRow.laid W := h
theorem tabs_of_laid {W : World} (h : laidMetH Tryd.prog Rows.wordsEncodesRow.laid W) : Tryd.tabs W := by
  have h1 := Lib.laidMet.reads (laid_plain h) (n := "unicode/utf8.first") (d := Rows.laid_unicode_utf8_first) (by exact .tail _ (.tail _ (.tail _ (.tail _ (.tail _ (.tail _ (.tail _ (.head _))))))))
  have h2 := Lib.laidMet.reads (laid_plain h) (n := "unicode/utf8.acceptRanges") (d := Rows.laid_unicode_utf8_acceptRanges) (by exact .tail _ (.tail _ (.tail _ (.tail _ (.head _)))))
  rw [first_is] at h1
  rw [accept_is] at h2
  exact utf8Tabs_of_readsT (U8Types.of196 Tryd.lays196) u8extra h1 h2
theorem gErrSyn : Tryd.prog.globalNamed "strconv.ErrSyntax" = some 2 := by kernel_rfl
theorem gErrSynType : (Tryd.prog.globals[2]?).map (·.type) = some 82 := by kernel_rfl
theorem errAt_of_laid {W : World} (h : laidMet Tryd.prog Rows.wordsEncodesRow.laid W) : errAt W := by
  obtain ⟨g, t, cs, fuel, p, hg, ht, hv, hd⟩ := Lib.laidMet.reads h (n := "strconv.ErrSyntax") (d := Rows.laid_strconv_ErrSyntax) (by exact .tail _ (.tail _ (.tail _ (.tail _ (.tail _ (.tail _ (.head _)))))))
  obtain rfl := Option.some.inj (gErrSyn.symm.trans hg)
  obtain rfl := Option.some.inj (gErrSynType.symm.trans ht)
  obtain ⟨l⟩ := cs
  obtain ⟨f1, u, v, hl, _, _⟩ := iface_of_trod Tryd.underlying82 hd
  have hl' : l = [.iface u v] := hl
  subst hl'
  exact ⟨u, v, World.var?_cell gErrSyn hv 0⟩
theorem env_of_laid {W : World} (h : laidMetH Tryd.prog Rows.wordsEncodesRow.laid W) : env W := ⟨tabs_of_laid h, lets_of_laid h, errAt_of_laid (laid_plain h)⟩
end Go.Proofs.YtolkjaebhhbilaaDoor
