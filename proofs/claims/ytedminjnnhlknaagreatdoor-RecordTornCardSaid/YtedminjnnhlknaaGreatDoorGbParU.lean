/- strings.Replacer at quotes and strokes: Replace. -/
import Derived.Test.YtedminjnnhlknaaGreatDoorGbParL
import Derived.Test.YtedminjnnhlknaaGreatDoorShelf
import Derived.Deep.DeepCutAuto
import Derived.Deep.CutBlock
import Derived.Deep.RegionLaw
import Derived.Deep.OwnRows
import Derived.Test.YtedminjnnhlknaaGreatDoorGbParT
namespace Go.Proofs.YtedminjnnhlknaaGreatDoor
open Go Go.RowKit
end Go.Proofs.YtedminjnnhlknaaGreatDoor

/- Contracts of package params: Get; the example that every statement asks first. -/
namespace Go.Proofs.YtedminjnnhlknaaGreatDoor
open Go Go.RowKit
def getP (ps : List Prm) (nm : List UInt8) : Option (List UInt8) := (ps.find? (fun p => foldS p.1 == foldS nm)).map (·.2)
theorem getP_hit {p : Prm} {ps : List Prm} {nm : List UInt8} (h : foldS p.1 = foldS nm) : getP (p :: ps) nm = some p.2 := by
 unfold getP
 rw [List.find?_cons_of_pos (by simpa using h)]
 rfl
theorem getP_miss {p : Prm} {ps : List Prm} {nm : List UInt8} (h : ¬ foldS p.1 = foldS nm) : getP (p :: ps) nm = getP ps nm := by
 unfold getP
 rw [List.find?_cons_of_neg (by simpa using h)]
def small1 (ps : List Prm) : Prop := ∀ p ∈ ps, p.1.length ≤ 1000000
set_option maxRecDepth 100000 in
set_option maxHeartbeats 2000000 in
theorem get_any (ts sb : ByteArray) (u : Value) (ps : List Prm) (nm : ByteArray) (w : World) (hu : prmAt w u ps) (hps : small1 ps) :
  Calls Tryz.prog 92 #[.agg #[.string ts, .string sb, u], .string nm] w fun e w' => e = .returned (getOV (getP ps nm.data.toList)) ∧ Below w.heap.size w w' := by
 have HU := Lib.hid hu
 obtain ⟨ao, cap, rfl, hcl, hcm, hcell⟩ := hu
 unfold maxLen at hcm
 clear hcell
 have HSa := Lib.hid (fun (a : ByteArray) W h => same_any a nm W h)
 go_enter Tryz.func92, Tryz.ntmps92
 go_wp2_with fail
 go_loopg [11] ps.length (fun g v11 wr => ∃ k : Nat, g = ps.length - k ∧ k ≤ ps.length ∧ v11 = .int .i64 (k : Int) ∧ Hid (Below w.heap.size w wr) ∧ Hid (getP ps nm.data.toList = getP (ps.drop k) nm.data.toList))
 case atStart => exact ⟨0, by omega, by omega, rfl, (Below.refl _ _).alloc (Nat.le_refl _) _, rfl⟩
 case round =>
  obtain ⟨k, rfl, hk, rfl, HB, HS⟩ := hrel
  by_cases hlt : k < ps.length
  ·obtain ⟨_, _, e0, _, _, hc⟩ := HU.out.below HB.out
   cases e0
   rcases hc with h0 | ⟨g, rfl, hg, hcc⟩
   ·rw [h0] at hlt
    simp at hlt
   ·obtain ⟨d0, d1⟩ := hcc k hlt
    have hsm := hps ps[k] (List.getElem_mem hlt)
    have HStep : Hid (ps.drop k = ps[k] :: ps.drop (k + 1)) := List.drop_eq_getElem_cons hlt
    rw [HStep.out] at HS
    obtain ⟨p, hp⟩ : ∃ p, p = ps[k] := ⟨_, rfl⟩
    rw [← hp] at d0 d1 HS hsm
    obtain ⟨pn, pv⟩ := p
    have HA : Hid (Below wr.heap.size wr (wr.alloc (.cells #[.string ⟨pn.toArray⟩, .string ⟨pv.toArray⟩] 219))) := (Below.refl _ _).alloc (Nat.le_refl _) _
    have HSa1 := Lib.hid (HSa.out ⟨pn.toArray⟩ (wr.alloc (.cells #[.string ⟨pn.toArray⟩, .string ⟨pv.toArray⟩] 219)) (by rw [toArr_size]; exact Nat.le_trans hsm (by omega)))
    clear hcc hp HStep
    by_cases hf : foldS pn = foldS nm.data.toList
    ·have HF : Hid (decide (foldS (⟨pn.toArray⟩ : ByteArray).data.toList = foldS nm.data.toList) = true) := decide_eq_true hf
     have HG : Hid (getP ((pn, pv) :: ps.drop (k + 1)) nm.data.toList = some pv) := getP_hit hf
     rw [HF.out] at HSa1
     clear hf
     go_wp2_with fail
     with_reducible refine HSa1.out.mono ?_
     rintro e w2 ⟨rfl, n, hw2⟩
     have hb2 : Below (wr.alloc (.cells #[.string ⟨pn.toArray⟩, .string ⟨pv.toArray⟩] 219)).heap.size (wr.alloc (.cells #[.string ⟨pn.toArray⟩, .string ⟨pv.toArray⟩] 219)) w2 := by rw [hw2]; exact below_drewN' _
     obtain ⟨e0, e1⟩ := box2_cells hb2
     have HB2 : Hid (Below w.heap.size w w2) := (HB.out.trans (HA.out.mono HB.out.size)).trans (hb2.mono (by have := HB.out.size; simp; omega))
     clear hw2 hb2 e0
     go_wp2_with fail
     go_ret2
     exact ⟨by rw [HS.out, HG.out]; rfl, HB2.out⟩
    ·have HF : Hid (decide (foldS (⟨pn.toArray⟩ : ByteArray).data.toList = foldS nm.data.toList) = false) := decide_eq_false hf
     have HG : Hid (getP ((pn, pv) :: ps.drop (k + 1)) nm.data.toList = getP (ps.drop (k + 1)) nm.data.toList) := getP_miss hf
     rw [HF.out] at HSa1
     clear hf
     go_wp2_with fail
     with_reducible refine HSa1.out.mono ?_
     rintro e w2 ⟨rfl, n, hw2⟩
     have hb2 : Below (wr.alloc (.cells #[.string ⟨pn.toArray⟩, .string ⟨pv.toArray⟩] 219)).heap.size (wr.alloc (.cells #[.string ⟨pn.toArray⟩, .string ⟨pv.toArray⟩] 219)) w2 := by rw [hw2]; exact below_drewN' _
     have HB2 : Hid (Below w.heap.size w w2) := (HB.out.trans (HA.out.mono HB.out.size)).trans (hb2.mono (by have := HB.out.size; simp; omega))
     clear hw2 hb2
     go_wp2_with fail
     go_roundg (ps.length - (k + 1))
     case measure => omega
     case rel => exact ⟨k + 1, rfl, by omega, by go_num, HB2.out, by unfold Hid; rw [HS.out, HG.out]⟩
  ·have HN : Hid (ps.drop k = []) := List.drop_eq_nil_of_le (by omega)
   go_wp2_with fail
   go_ret2
   exact ⟨by rw [HS.out, HN.out]; rfl, HB.out⟩
theorem own_slice {w : World} {base : Nat} {e : TypeId} {size : Nat} {v : Value} {n : Nat} {xs : List Value} (h : w.ownsRow base e size v n xs) : ∃ a m c, v = .slice a m c := by
 rcases h.2 with ⟨h, _⟩ | ⟨g, cp, cur, h, _⟩
 ·exact ⟨_, _, _, h⟩
 ·exact ⟨_, _, _, h⟩
theorem box3_cells {W W' : World} {t : TypeId} {a b c : Value} (h : Below (W.alloc (.cells #[a, b, c] t)).heap.size (W.alloc (.cells #[a, b, c] t)) W') :
  W'.cell? ⟨W.heap.size, 0, none⟩ = some a ∧ W'.cell? ⟨W.heap.size, 1, none⟩ = some b ∧ W'.cell? ⟨W.heap.size, 2, none⟩ = some c := by
 have e : W'.heap[W.heap.size]? = some (.cells #[a, b, c] t (0, 0)) := (h.block _ (by simp)).trans (heap_alloc_new W _)
 simp [World.cell?, e]
end Go.Proofs.YtedminjnnhlknaaGreatDoor
