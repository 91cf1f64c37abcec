/- The letters' variable, out of what a row lays of it. -/
import Derived.Test.YtgcdcodeaamlpaaDoorRow
import Derived.Test.YtgcdcodeaamlpaaDoorB64A
namespace Go.Proofs.YtgcdcodeaamlpaaDoor
open Go Go.RowKit

theorem gLetters : Tryd.prog.globalNamed "letterbox/b64.letters" = some 0 := by kernel_rfl
theorem gLettersType : (Tryd.prog.globals[0]?).map (·.type) = some 45 := by kernel_rfl
theorem cellsLetters : Tryd.prog.cellsOf 45 = 64 := by kernel_rfl
theorem cellsU8 : Tryd.prog.cellsOf 5 = 1 := by kernel_rfl
theorem lets_of_laid {W : World} (h : laidMetH Tryd.prog Rows.b64EncodesRow.laid W) : lets W := by
  have h1 := Lib.tabIs_of_head (k := .u8) (zs := tabL.map fun (b : UInt8) => (b.toNat : Int)) (W := W) (rest := []) gLetters gLettersType Tryd.underlying45 Tryd.underlying5 cellsU8 cellsLetters h
  unfold Lib.TabIs World.var? at h1
  rw [gLetters, Option.bind_some] at h1
  split at h1
  · rename_i cs t fr hh
    refine ⟨t, fr, ?_⟩
    rw [hh]
    have : cs = letA := by
      have := Option.some.inj h1
      rw [this]
      unfold letA
      rw [List.map_map]
      rfl
    rw [this]
  · cases h1
end Go.Proofs.YtgcdcodeaamlpaaDoor
