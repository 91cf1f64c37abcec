/- The letters' variable, out of what a row lays of it. -/
import Derived.Test.YteallnjbpikhhaaGreatDoorRow
import Derived.Test.YteallnjbpikhhaaGreatDoorGbB64B
import Derived.Test.YteallnjbpikhhaaGreatDoorGbParU
import Derived.LaidLaws
import Derived.Lib.LaidU8
namespace Go.Proofs.YteallnjbpikhhaaGreatDoor
open Go Go.RowKit

theorem gLetters : Tryz.prog.globalNamed "letterbox/b64.letters" = some 0 := by kernel_rfl
theorem gLettersType : (Tryz.prog.globals[0]?).map (·.type) = some 66 := by kernel_rfl
theorem cellsLetters : Tryz.prog.cellsOf 66 = 64 := by kernel_rfl
theorem cellsU8 : Tryz.prog.cellsOf 5 = 1 := by kernel_rfl
theorem lets_of_laid {W : World} (h : laidMetH Tryz.prog Rows.binaryBackRow.laid W) : lets W := by
  have h1 := Lib.tabIs_of_head (k := .u8) (zs := tabL.map fun (b : UInt8) => (b.toNat : Int)) (W := W) (rest := _) gLetters gLettersType Tryz.underlying66 Tryz.underlying5 cellsU8 cellsLetters h
  unfold Lib.TabIs World.var? at h1
  rw [gLetters, Option.bind_some] at h1
  split at h1
  · rename_i cs t fr hh
    refine ⟨t, fr, ?_⟩
    rw [hh]
    have : cs = letA := by
      have := Option.some.inj h1
      rw [this]
      unfold letA
      rw [List.map_map]
      rfl
    rw [this]
  · cases h1
end Go.Proofs.YteallnjbpikhhaaGreatDoor

/- What the row's variables give: the powers of ten, and that an error lies. -/
namespace Go.Proofs.YteallnjbpikhhaaGreatDoor
open Go Go.RowKit

theorem gPow10 : Tryz.prog.globalNamed "internal/strconv.uint64pow10" = some 6 := by kernel_rfl
theorem gPow10Type : (Tryz.prog.globals[6]?).map (·.type) = some 237 := by kernel_rfl
theorem cellsPow10 : Tryz.prog.cellsOf 237 = 20 := by kernel_rfl
theorem cellsU64 : Tryz.prog.cellsOf 209 = 1 := by kernel_rfl
theorem gErrSyn : Tryz.prog.globalNamed "strconv.ErrSyntax" = some 4 := by kernel_rfl
theorem gErrSynType : (Tryz.prog.globals[4]?).map (·.type) = some 123 := by kernel_rfl
theorem laid_plain {W : World} (h : laidMetH Tryz.prog Rows.binaryBackRow.laid W) : laidMet Tryz.prog Rows.binaryBackRow.laid W := h
theorem errAt_of_laid {W : World} (h : laidMet Tryz.prog Rows.binaryBackRow.laid W) : errAt W := by
  obtain ⟨g, t, cs, fuel, p, hg, ht, hv, hd⟩ := Lib.laidMet.reads h (n := "strconv.ErrSyntax") (d := Rows.laid_strconv_ErrSyntax) (by exact .tail _ (.tail _ (.tail _ (.tail _ (.tail _ (.tail _ (.head _)))))))
  obtain rfl := Option.some.inj (gErrSyn.symm.trans hg)
  obtain rfl := Option.some.inj (gErrSynType.symm.trans ht)
  obtain ⟨l⟩ := cs
  obtain ⟨f1, u, v, hl, _, _⟩ := iface_of_trod Tryz.underlying123 hd
  have hl' : l = [.iface u v] := hl
  subst hl'
  exact ⟨u, v, World.var?_cell gErrSyn hv 0⟩
theorem env_of_laid {W : World} (h : laidMetH Tryz.prog Rows.binaryBackRow.laid W) : env W :=
  ⟨Lib.tabIs_of_head (rest := _) gPow10 gPow10Type Tryz.underlying237 Tryz.underlying209 cellsU64 cellsPow10 (laidMet.tail (laidMet.tail (laidMet.tail (laid_plain h)))), errAt_of_laid (laid_plain h)⟩
end Go.Proofs.YteallnjbpikhhaaGreatDoor
