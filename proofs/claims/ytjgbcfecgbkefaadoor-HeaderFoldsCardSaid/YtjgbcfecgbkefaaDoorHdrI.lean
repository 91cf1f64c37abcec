/- The laws of layer 6 (header): the document's example. -/
import Derived.Test.YtjgbcfecgbkefaaDoorHdrH
import Derived.Lib.SlBytesConst
namespace Go.Proofs.YtjgbcfecgbkefaaDoor
open Go Go.RowKit

theorem of_whole (v : Value) (l : List UInt8) (w : World) (hv : bytesArg w v l) (hbig : l.length ≤ 1048576) :
    Calls Tryd.prog 6 #[v, .agg #[.int .i64 0, .int .i64 (l.length : Int)]] w (OfPost l (linesS l 0 l.length) l.length w) :=
  of_walk v l 0 l.length w hv (Nat.zero_le _) (Nat.le_refl _) hbig
def exB : List UInt8 := [65, 58, 32, 98, 10, 32, 99, 10, 10, 120]
def exF : Fld := ⟨[65], 0, 2, 8⟩
theorem ex_fields : fieldsL exB ((linesS exB 0 10).take (eI (linesS exB 0 10))) = [exF] := by rfl
theorem ex_behind : behindN (linesS exB 0 10) 10 = 9 := by rfl
theorem ex_body : bodyS exB 2 8 = [98, 32, 99] := by rfl
theorem ex_value : valueS exB [exF] [97] = [98, 32, 99] := by rfl
theorem ex_some : someS exB [exF] [⟨#[97]⟩] false = [65, 58, 32, 98, 10, 32, 99, 10, 13, 10] := by rfl
theorem ex_row (w : World) (t : TypeId) (fr : Nat × Nat) : bytesArg (w.alloc (.cells #[.int .u8 65, .int .u8 58, .int .u8 32, .int .u8 98, .int .u8 10, .int .u8 32, .int .u8 99, .int .u8 10, .int .u8 10, .int .u8 120] t fr)) (.slice (some ⟨w.heap.size, 0, none⟩) 10 10) exB :=
  sliceAt.arg (l := exB) (sliceAt_new w t fr _ exB rfl) (Nat.le_refl _) (by unfold maxLen; decide)
theorem ex_short : shortF [exF] := by
  intro x hx
  rw [List.mem_singleton.1 hx]
  decide
theorem ex_in : inF exB [exF] := by
  intro x hx
  rw [List.mem_singleton.1 hx]
  decide
theorem ex_names (w : World) (t : TypeId) (fr : Nat × Nat) : strsArg (w.alloc (.cells #[.string ⟨#[97]⟩] t fr)) (.slice (some ⟨w.heap.size, 0, none⟩) 1 1) [⟨#[97]⟩] := by
  refine ⟨_, 1, rfl, Nat.le_refl _, by unfold maxLen; decide, ?_, .inr ⟨w.heap.size, 0, rfl, by simp, ?_⟩⟩
  · intro s hs
    rw [List.mem_singleton.1 hs]
    unfold maxLen
    decide
  · intro j hj
    obtain rfl : j = 0 := by simp at hj; omega
    have h := heap_alloc_new w (.cells #[.string ⟨#[97]⟩] t fr)
    show (w.alloc (.cells #[.string ⟨#[97]⟩] t fr)).cell? ⟨w.heap.size, 0, none⟩ = some (.string ⟨#[97]⟩)
    simp only [World.cell?]
    rw [h]
    rfl

set_option maxRecDepth 100000 in
set_option maxHeartbeats 4000000 in
theorem awake_any (w : World) : Calls Tryd.prog 5 #[] w fun e w' => e = .returned (.bool true) ∧ Below w.heap.size w w' := by
  have HOf := Lib.hid (fun W v h => of_whole v exB W h (by decide))
  unfold OfPost at HOf
  rw [show exB.length = 10 from rfl, ex_fields, ex_behind, show ((10 : Nat) : Int) = 10 from rfl, show ((9 : Nat) : Int) = 9 from rfl] at HOf
  have HBo := Lib.hid (fun W v h => body_any v exB ⟨#[65]⟩ 0 2 8 W h (by decide))
  rw [ex_body] at HBo
  have HVa := Lib.hid (fun W v vf h hf => value_any v vf exB [exF] ⟨#[97]⟩ W h (by decide) hf ex_short)
  rw [show valueS exB [exF] (⟨#[97]⟩ : ByteArray).data.toList = [98, 32, 99] from ex_value] at HVa
  have HSo := Lib.hid (fun W v vf vn h hf hn => some_any v vf vn exB [exF] [⟨#[97]⟩] false W h hf hn ex_short ex_in (by decide))
  rw [ex_some] at HSo
  have kc := fun (w : World) (C : Array Value) (n c : Nat) => Lib.run_convert_bytes_const (P := Tryd.prog) w 22 5 C n c Tryd.underlying22 Tryd.underlying5
  go_enter Tryd.func5, Tryd.ntmps5
  go_wp2_with fail
  with_reducible refine (HOf.out _ _ ?h1).mono ?_
  case h1 => exact ex_row _ _ _
  rintro e w1 ⟨u, rfl, hown, hb1⟩
  have HB1 : Hid (Below w.heap.size w w1) := ((Below.refl _ _).alloc (Nat.le_refl _) _).trans (hb1.mono (by simp))
  have HX1 : Hid (bytesArg w1 _ exB) := bytesArg.below (ex_row w 5 _) hb1
  have HR : Hid (rowF w1 u [exF]) := rowF_owned hown
  obtain ⟨fo, fc, rfl, hfc, hfm, hcell⟩ := HR.out.at
  obtain ⟨g, rfl, hg, c0, c1, c2, c3⟩ := hcell 0 (by decide)
  replace c0 : w1.cell? ⟨g, 0, none⟩ = some (.string ⟨#[65]⟩) := c0
  replace c1 : w1.cell? ⟨g, 1, none⟩ = some (.int .i64 0) := c1
  replace c2 : w1.cell? ⟨g, 2, none⟩ = some (.int .i64 2) := c2
  replace c3 : w1.cell? ⟨g, 3, none⟩ = some (.int .i64 8) := c3
  replace hfc : 1 ≤ fc := hfc
  rw [show [exF].length = 1 from rfl] at HR ⊢
  unfold maxLen at hfm
  clear hcell hown hb1 HOf
  go_wp2_with fail
  with_reducible refine (HBo.out _ _ HX1.out).mono ?_
  rintro e w2 ⟨rfl, hb2⟩
  have HB2 := Lib.hid (HB1.out.trans (hb2.mono HB1.out.size))
  have HX2 := Lib.hid (bytesArg.below HX1.out hb2)
  have HR2 := Lib.hid (HR.out.below hb2)
  clear hb2
  go_wp2_with fail
  with_reducible refine (HVa.out _ _ _ HX2.out HR2.out).mono ?_
  rintro e w3 ⟨rfl, hb3⟩
  have HB3 := Lib.hid (HB2.out.trans (hb3.mono HB2.out.size))
  have HX3 := Lib.hid (bytesArg.below HX2.out hb3)
  have HR3 := Lib.hid (HR2.out.below hb3)
  clear hb3
  go_wp2_with fail
  with_reducible refine (HSo.out _ _ _ _ ?h2 ?h3 ?h4).mono ?_
  case h2 => exact bytesArg.below HX3.out ((Below.refl _ _).alloc (Nat.le_refl _) _)
  case h3 => exact HR3.out.below ((Below.refl _ _).alloc (Nat.le_refl _) _)
  case h4 => exact ex_names _ _ _
  rintro e w4 ⟨v4, rfl, hown4, hb4⟩
  have HB4 : Hid (Below w.heap.size w w4) := (HB3.out.alloc HB3.out.size _).trans (hb4.mono (by have := HB3.out.size; simp; omega))
  have hcv := bytesArg_string (bytesArg_owned hown4)
  clear hown4 hb4
  go_wp2_with fail
  go_ret
  exact ⟨rfl, HB4.out⟩
end Go.Proofs.YtjgbcfecgbkefaaDoor
