/- The laws of layer 1: contracts. -/
import Derived.Test.YtefgggfakdbhdaaDoorRow
import Derived.Test.YtefgggfakdbhdaaDoorChars7
namespace Go.Proofs.YtefgggfakdbhdaaDoor
open Go Go.RowKit

theorem gPow10 : Tryd.prog.globalNamed "internal/strconv.uint64pow10" = some 0 := by kernel_rfl
theorem gPow10Type : (Tryd.prog.globals[0]?).map (·.type) = some 51 := by kernel_rfl
theorem cellsPow10 : Tryd.prog.cellsOf 51 = 20 := by kernel_rfl
theorem cellsU64 : Tryd.prog.cellsOf 42 = 1 := by kernel_rfl
theorem tab_of_laid {W : World} (h : laidMetH Tryd.prog Rows.charsBytesRow.laid W) : tab W :=
  Lib.tabIs_of_head (rest := []) gPow10 gPow10Type Tryd.underlying51 Tryd.underlying42 cellsU64 cellsPow10 (laidMet.tail (laidMet.tail h))

theorem blank_same {c : Int} (h : ¬ c = 32) : (decide (c = 9) == ((c == 32) || (c == 9))) = true := by
  by_cases h9 : c = 9
  · subst h9; rfl
  · have e1 : (c == 32) = false := by simpa using h
    have e2 : (c == 9) = false := by simpa using h9
    rw [e1, e2, decide_eq_false h9]
    rfl

theorem charsBytes_any (b : UInt8) (w : World) (ht : tab w) :
    Calls Tryd.prog 3 #[.int .u8 (b.toNat : Int)] w fun e w' => e = .returned (.bool true) ∧ Below w.heap.size w w' := by
  have h0 : 0 ≤ (b.toNat : Int) := by omega
  have h1 : (b.toNat : Int) ≤ 255 := by have := b.toNat_lt; omega
  go_enter Tryd.func3, Tryd.ntmps3
  go_wp2_with fail
  refine (awake_any _ ht).mono ?_
  rintro e w1 ⟨rfl, hb1⟩
  have HB1 := Lib.hid hb1; clear hb1
  go_wp2_with fail
  refine (lowerB_any _ _).mono ?_
  rintro e w2 ⟨rfl, rfl⟩
  go_wp2_with fail
  refine (refLowerB_any _ _).mono ?_
  rintro e w2 ⟨rfl, rfl⟩
  go_wp2_with fail
  refine (token_any _ _ h0 h1).mono ?_
  rintro e w2 ⟨rfl, hb2⟩
  have HB2 := Lib.hid (HB1.out.trans (hb2.mono HB1.out.size)); clear hb2
  go_wp2_with fail
  refine (refToken_any _ _).mono ?_
  rintro e w3 ⟨rfl, rfl⟩
  go_wp2_with fail
  refine (atom_any _ _ h0 h1).mono ?_
  rintro e w3 ⟨rfl, hb3⟩
  have HB3 := Lib.hid (HB2.out.trans (hb3.mono HB2.out.size)); clear hb3
  go_wp2_with fail
  refine (refAtom_any _ _).mono ?_
  rintro e w4 ⟨rfl, rfl⟩
  go_wp2_with fail
  refine (blank_any _ _).mono ?_
  rintro e w5 ⟨rfl, rfl⟩
  go_wp2
  · go_ret
    exact ⟨rfl, HB3.out⟩
  · have hn : ¬ (b.toNat : Int) = 32 := by assumption
    go_ret
    exact ⟨ret_bool (blank_same hn), HB3.out⟩
end Go.Proofs.YtefgggfakdbhdaaDoor
