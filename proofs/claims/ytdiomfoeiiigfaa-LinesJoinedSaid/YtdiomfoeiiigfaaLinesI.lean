/- The laws of layer 5 (lines): the document's example. -/
import Derived.Test.YtdiomfoeiiigfaaLinesB
import Derived.Test.YtdiomfoeiiigfaaLinesH
import Derived.Lib.SlBytesConst
namespace Go.Proofs.Ytdiomfoeiiigfaa
open Go Go.RowKit

def exampleB : List UInt8 := [97, 13, 10, 98]
def exampleL : List Ln := [⟨0, 1, 3⟩, ⟨3, 4, 4⟩]
theorem example_lines : linesZ exampleB 0 4 = exampleL := rfl
theorem example_text : textS exampleB 3 4 = [98] := by decide
theorem example_empty : emptyS exampleL = -1 := rfl
theorem example_row (w : World) (t : TypeId) (fr : Nat × Nat) : bytesArg (w.alloc (.cells #[.int .u8 97, .int .u8 13, .int .u8 10, .int .u8 98] t fr)) (.slice (some ⟨w.heap.size, 0, none⟩) 4 4) exampleB :=
  sliceAt.arg (l := exampleB) (sliceAt_new w t fr _ exampleB rfl) (Nat.le_refl _) (by unfold maxLen; decide)

set_option maxHeartbeats 2000000 in
theorem awake_any (w : World) : Calls Try.prog 7 #[] w fun e w' => e = .returned (.bool true) ∧ Below w.heap.size w w' := by
  have HOf := Lib.hid (fun W v h => of_any v exampleB 0 4 W h (by decide))
  rw [example_lines] at HOf
  have HT := Lib.hid (fun W v n h => text_any v exampleB 3 4 n W h)
  rw [example_text] at HT
  have HEm := Lib.hid (fun W v h => empty_any v exampleL W h)
  rw [example_empty] at HEm
  have kc := fun (w : World) (C : Array Value) (n c : Nat) => Lib.run_convert_bytes_const (P := Try.prog) w 22 5 C n c Try.underlying22 Try.underlying5
  go_enter Try.func7, Try.ntmps7
  go_wp2_with fail
  with_reducible refine (HOf.out _ _ ?h1).mono ?_
  case h1 => exact example_row _ _ _
  rintro e w1 ⟨u, rfl, hown, hb1⟩
  have HB1 : Hid (Below w.heap.size w w1) := ((Below.refl _ _).alloc (Nat.le_refl _) _).trans (hb1.mono (by simp))
  have HR : Hid (rowLn w1 u exampleL) := rowLn_owned hown
  obtain ⟨ao, cap, rfl, hc, hm, hcell⟩ := HR.out.at
  obtain ⟨g, rfl, hg, c0, c1, c2⟩ := hcell 0 (by decide)
  obtain ⟨g', eg, hg', d0, d1, d2⟩ := hcell 1 (by decide)
  cases eg
  replace c0 : w1.cell? ⟨g, 0, none⟩ = some (.int .i64 0) := c0
  replace c1 : w1.cell? ⟨g, 1, none⟩ = some (.int .i64 1) := c1
  replace c2 : w1.cell? ⟨g, 2, none⟩ = some (.int .i64 3) := c2
  replace d0 : w1.cell? ⟨g, 3, none⟩ = some (.int .i64 3) := d0
  replace d1 : w1.cell? ⟨g, 4, none⟩ = some (.int .i64 4) := d1
  replace d2 : w1.cell? ⟨g, 5, none⟩ = some (.int .i64 4) := d2
  replace hc : 2 ≤ cap := hc
  rw [show exampleL.length = 2 from rfl] at HR ⊢
  unfold maxLen at hm
  clear hcell hown hb1
  go_wp2_with fail
  with_reducible refine (HT.out _ _ _ ?h1).mono ?_
  case h1 => exact example_row _ _ _
  rintro e w2 ⟨rfl, hb2⟩
  have HB12 : Hid (Below w1.heap.size w1 w2) := ((Below.refl _ _).alloc (Nat.le_refl _) _).trans (hb2.mono (by simp))
  have HB2 : Hid (Below w.heap.size w w2) := HB1.out.trans (HB12.out.mono HB1.out.size)
  go_wp2_with fail
  with_reducible refine (HEm.out _ _ ?h2).mono ?_
  case h2 => exact HR.out.below HB12.out
  rintro e w3 ⟨rfl, hb3⟩
  have HB3 : Hid (Below w.heap.size w w3) := HB2.out.trans (hb3.mono HB2.out.size)
  clear hb3
  go_wp2_with fail
  go_ret
  exact ⟨rfl, HB3.out⟩
end Go.Proofs.Ytdiomfoeiiigfaa
