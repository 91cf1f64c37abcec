/- Contracts of package date: pieces, in general; rows of them, and the first of them. -/
import Derived.Test.YtpmjlhpbknppiaaDoorProg
import Derived.Test.YtpmjlhpbknppiaaDoorKit2
import Derived.Test.YtpmjlhpbknppiaaDoorQB
import Derived.Test.YtpmjlhpbknppiaaDoorChars4
import Derived.Shelf.Abstract
namespace Go.Proofs.YtpmjlhpbknppiaaDoor
open Go Go.RowKit

/-- Where pieces write to: blocks and places. -/
abbrev Tg := List (Nat × Nat)
abbrev Sg := Nat × Nat → Int
def Off (τ : Tg) (k : Nat) : Prop := ∀ a ∈ τ, a.1 ≠ k
/-- All that lay lies as it lay, but for the blocks written to. -/
structure Lt (τ : Tg) (w W : World) : Prop where
  os : W.os = w.os
  tape : W.tape = w.tape
  output : W.output = w.output
  size : w.heap.size ≤ W.heap.size
  kept : ∀ k, k < w.heap.size → Off τ k → W.heap[k]? = w.heap[k]?
theorem Lt.refl (τ : Tg) (w : World) : Lt τ w w := ⟨rfl, rfl, rfl, Nat.le_refl _, fun _ _ _ => rfl⟩
theorem Lt.trans {τ : Tg} {X Y Z : World} (h : Lt τ X Y) (k : Lt τ Y Z) : Lt τ X Z :=
  ⟨k.os.trans h.os, k.tape.trans h.tape, k.output.trans h.output, Nat.le_trans h.size k.size, fun i hi ho => (k.kept i (Nat.lt_of_lt_of_le hi h.size) ho).trans (h.kept i hi ho)⟩
theorem Lt.of_below {τ : Tg} {w W : World} (h : Below w.heap.size w W) : Lt τ w W := ⟨h.os, h.tape, h.output, h.size, fun k hk _ => h.block k hk⟩
theorem Lt.below {τ : Tg} {w W : World} {base : Nat} (h : Lt τ w W) (hb : ∀ a ∈ τ, base ≤ a.1) (hs : base ≤ w.heap.size) : Below base w W :=
  ⟨h.os, h.tape, h.output, h.size, fun k hk => h.kept k (Nat.lt_of_lt_of_le hk hs) (fun a ha e => by have := hb a ha; omega)⟩
theorem Lt.cell {τ : Tg} {w W : World} {k i : Nat} (h : Lt τ w W) (hk : k < w.heap.size) (ho : Off τ k) : W.cell? ⟨k, i, none⟩ = w.cell? ⟨k, i, none⟩ :=
  World.cell?_of_block (a := ⟨k, i, none⟩) (h.kept k hk ho)
def Holds (τ : Tg) (W : World) (σ : Sg) : Prop := ∀ a ∈ τ, W.cell? ⟨a.1, a.2, none⟩ = some (.int .i64 (σ a)) ∧ W.frozen? ⟨a.1, a.2, none⟩ = false
theorem Holds.lt {τ : Tg} {W : World} {σ : Sg} (h : Holds τ W σ) {a : Nat × Nat} (ha : a ∈ τ) : a.1 < W.heap.size := World.block_lt_of_cell? _ _ (h a ha).1
theorem Holds.below {τ : Tg} {W W' : World} {σ : Sg} (h : Holds τ W σ) (hb : Below W.heap.size W W') : Holds τ W' σ :=
  fun a ha => ⟨(hb.cell (p := ⟨a.1, a.2, none⟩) (h.lt ha)).trans (h a ha).1, (World.frozen?_of_block (a := ⟨a.1, a.2, none⟩) (hb.block _ (h.lt ha))).trans (h a ha).2⟩
def upd (σ : Sg) (a : Nat × Nat) (n : Int) : Sg := fun b => if b = a then n else σ b
theorem Lt.set {τ : Tg} {W : World} {a : Nat × Nat} (ha : a ∈ τ) (v : Value) : Lt τ W (W.setCell ⟨a.1, a.2, none⟩ v) :=
  ⟨rfl, rfl, rfl, by simp, fun k hk ho => Below.heap_setCell _ _ _ _ (fun e => ho a ha e.symm)⟩
theorem Holds.set {τ : Tg} {W : World} {σ : Sg} (h : Holds τ W σ) {a : Nat × Nat} (ha : a ∈ τ) (n : Int) : Holds τ (W.setCell ⟨a.1, a.2, none⟩ (.int .i64 n)) (upd σ a n) := by
  intro b hb
  refine ⟨?_, (World.frozen?_setCell _ _ _ _).trans (h b hb).2⟩
  unfold upd
  by_cases e : b = a
  · subst e
    rw [if_pos rfl]
    exact World.cell?_setCell_same _ _ _ (h b hb).1
  · rw [if_neg e, World.cell?_setCell_other]
    · exact (h b hb).1
    · intro hc
      apply e
      cases a
      cases b
      simp at hc
      simp [hc]
theorem Off.set {τ : Tg} {a : Nat × Nat} (ha : a ∈ τ) {k : Nat} (h : Off τ k) (W : World) (v : Value) (i : Nat) : (W.setCell ⟨a.1, a.2, none⟩ v).cell? ⟨k, i, none⟩ = W.cell? ⟨k, i, none⟩ :=
  World.cell?_setCell_other _ _ _ _ (by
    intro hc
    exact h a ha (by simpa using congrArg Addr.block hc))

/-- What a piece is: what is left of a text, if it is there, and what is written. -/
abbrev Pf := Sg → List UInt8 → Option (List UInt8) × Sg
def Told (o : Option (List UInt8)) (n : Nat) (e : Ending) : Prop :=
  ∃ t : ByteArray, e = .returned (.tuple #[.string t, .bool o.isSome]) ∧ (∀ l, o = some l → t.data.toList = l) ∧ t.size ≤ n
def Takes (τ : Tg) (w : World) (v : Value) (f : Pf) : Prop :=
  ∃ g lb, v = .func (.func g) #[] lb ∧ Enters Tryd.prog g ∧ ∀ (W : World) (σ : Sg) (s : ByteArray), Lt τ w W → Holds τ W σ → s.size ≤ 9223372036854775807 →
    Calls Tryd.prog g (#[.string s] ++ lb) W fun e w' => Told (f σ s.data.toList).1 s.size e ∧ Lt τ W w' ∧ Holds τ w' (f σ s.data.toList).2
theorem Takes.lt {τ : Tg} {w W : World} {v : Value} {f : Pf} (h : Takes τ w v f) (hl : Lt τ w W) : Takes τ W v f := by
  obtain ⟨g, lb, e, hg, hc⟩ := h
  exact ⟨g, lb, e, hg, fun W' σ s h1 h2 h3 => hc W' σ s (hl.trans h1) h2 h3⟩
/-- Pieces in a row. -/
def Pcs (τ : Tg) (w : World) (v : Value) (fs : List Pf) : Prop :=
  ∃ ao cap, v = .slice ao fs.length cap ∧ fs.length ≤ cap ∧ cap ≤ maxLen ∧ ∀ i, (h : i < fs.length) → ∃ rb vi, ao = some ⟨rb, 0, none⟩ ∧ rb < w.heap.size ∧ Off τ rb ∧ w.cell? ⟨rb, i, none⟩ = some vi ∧ Takes τ w vi fs[i]
theorem Pcs.lt {τ : Tg} {w W : World} {v : Value} {fs : List Pf} (h : Pcs τ w v fs) (hl : Lt τ w W) : Pcs τ W v fs := by
  obtain ⟨ao, cap, e, h1, h2, h3⟩ := h
  refine ⟨ao, cap, e, h1, h2, fun i hi => ?_⟩
  obtain ⟨rb, vi, e, hr, ho, hc, ht⟩ := h3 i hi
  exact ⟨rb, vi, e, Nat.lt_of_lt_of_le hr hl.size, ho, (hl.cell hr ho).trans hc, ht.lt hl⟩

/-- Pieces one behind the other. -/
def rowF : List Pf → Pf
  | [], σ, l => (some l, σ)
  | f :: r, σ, l => match f σ l with
    | (none, σ1) => (none, σ1)
    | (some t, σ1) => rowF r σ1 t
/-- The first of pieces that is there. -/
def eitherF : List Pf → Pf
  | [], σ, _ => (none, σ)
  | f :: r, σ, l => match f σ l with
    | (none, σ1) => eitherF r σ1 l
    | (some t, σ1) => (some t, σ1)
theorem rowF_no {f : Pf} {r : List Pf} {σ σ1 : Sg} {l : List UInt8} (h : f σ l = (none, σ1)) : rowF (f :: r) σ l = (none, σ1) := by rw [rowF, h]
theorem rowF_yes {f : Pf} {r : List Pf} {σ σ1 : Sg} {l t : List UInt8} (h : f σ l = (some t, σ1)) : rowF (f :: r) σ l = rowF r σ1 t := by rw [rowF, h]
theorem eitherF_no {f : Pf} {r : List Pf} {σ σ1 : Sg} {l : List UInt8} (h : f σ l = (none, σ1)) : eitherF (f :: r) σ l = eitherF r σ1 l := by rw [eitherF, h]
theorem eitherF_yes {f : Pf} {r : List Pf} {σ σ1 : Sg} {l t : List UInt8} (h : f σ l = (some t, σ1)) : eitherF (f :: r) σ l = (some t, σ1) := by rw [eitherF, h]

set_option maxRecDepth 100000 in
set_option maxHeartbeats 2000000 in
theorem row1_any (τ : Tg) (B : Nat) (sv : Value) (fs : List Pf) (w : World) (hc : w.cell? ⟨B, 0, none⟩ = some sv) (_hB : Off τ B) (hp : Pcs τ w sv fs) (σ : Sg) (s : ByteArray) (hh : Holds τ w σ) (hs : s.size ≤ 9223372036854775807) :
    Calls Tryd.prog 48 #[.string s, .pointer (some ⟨B, 0, none⟩)] w fun e w' => Told (rowF fs σ s.data.toList).1 s.size e ∧ Lt τ w w' ∧ Holds τ w' (rowF fs σ s.data.toList).2 := by
  have hBl : B < w.heap.size := World.block_lt_of_cell? _ _ hc
  obtain ⟨ao, cap, rfl, hca, hcm, hcell⟩ := hp
  unfold maxLen at hcm
  have HC := Lib.hid hcell
  have HH := Lib.hid hh
  obtain ⟨R, hR⟩ : ∃ R, R = rowF fs σ s.data.toList := ⟨_, rfl⟩
  rw [← hR]
  have HR := Lib.hid hR
  clear hcell hh hR
  go_enter Tryd.func48, Tryd.ntmps48
  go_wp2_with fail
  go_loopg [11, 0] fs.length (fun q xi x0 wr => ∃ (i : Nat) (t : ByteArray) (σ1 : Sg), i ≤ fs.length ∧ q = fs.length - i ∧ xi = .int .i64 (i : Int) ∧ x0 = .string t ∧ t.size ≤ s.size ∧ Hid (Lt τ w wr) ∧ Hid (Holds τ wr σ1) ∧ Hid (R = rowF (fs.drop i) σ1 t.data.toList))
  case atStart => exact ⟨0, s, σ, by omega, by omega, rfl, rfl, Nat.le_refl _, Lt.refl _ _, HH.out, HR.out⟩
  case round =>
    obtain ⟨i, t, σ1, hi, rfl, rfl, rfl, hts, HL, HHr, HE⟩ := hrel
    by_cases hlt : i < fs.length
    · obtain ⟨rb, vi, rfl, hrb, horb, hci, g, lb, rfl, hen, hcall⟩ := HC.out i hlt
      have hci2 := (HL.out.cell (k := rb) (i := i) hrb horb).trans hci
      have eg : ∀ args w, (callFunc g args).run Tryd.prog w = .ok (.enter g args) w := hen
      have cS := hcall wr σ1 t HL.out HHr.out (by omega)
      rw [List.drop_eq_getElem_cons hlt] at HE
      obtain ⟨f, hf⟩ : ∃ f, f = fs[i] := ⟨_, rfl⟩
      rw [← hf] at cS HE
      rcases hr : f σ1 t.data.toList with ⟨o, σ2⟩
      rw [hr] at cS
      clear hci hcall hen hf
      cases o with
      | none =>
        have HN := Lib.hid (rowF_no (r := fs.drop (i + 1)) hr)
        clear hr
        go_wp2_with (go_at_fn g; refine cS.mono ?_; rintro e w2 ⟨⟨t2, rfl, hl2, hs2⟩, hk2, hh2⟩)
        go_ret2
        rw [HE.out, HN.out]
        exact ⟨⟨t, rfl, (fun l h => by cases h), hts⟩, HL.out.trans hk2, hh2⟩
      | some l2 =>
        have HN := Lib.hid (rowF_yes (r := fs.drop (i + 1)) hr)
        clear hr
        go_wp2_with (go_at_fn g; refine cS.mono ?_; rintro e w2 ⟨⟨t2, rfl, hl2, hs2⟩, hk2, hh2⟩)
        go_roundg (fs.length - (i + 1))
        case measure => omega
        case rel =>
          refine ⟨i + 1, t2, σ2, by omega, rfl, by first | rfl | (congr 1), rfl, by omega, HL.out.trans hk2, hh2, ?_⟩
          unfold Hid
          rw [HE.out, HN.out, hl2 l2 rfl]
    · obtain rfl : i = fs.length := by omega
      go_wp2_with fail
      go_ret2
      rw [HE.out, List.drop_length]
      exact ⟨⟨t, rfl, (fun l h => by cases h; rfl), hts⟩, HL.out, HHr.out⟩

set_option maxRecDepth 100000 in
set_option maxHeartbeats 2000000 in
theorem either1_any (τ : Tg) (B : Nat) (sv : Value) (fs : List Pf) (w : World) (hc : w.cell? ⟨B, 0, none⟩ = some sv) (_hB : Off τ B) (hp : Pcs τ w sv fs) (σ : Sg) (s : ByteArray) (hh : Holds τ w σ) (hs : s.size ≤ 9223372036854775807) :
    Calls Tryd.prog 43 #[.string s, .pointer (some ⟨B, 0, none⟩)] w fun e w' => Told (eitherF fs σ s.data.toList).1 s.size e ∧ Lt τ w w' ∧ Holds τ w' (eitherF fs σ s.data.toList).2 := by
  have hBl : B < w.heap.size := World.block_lt_of_cell? _ _ hc
  obtain ⟨ao, cap, rfl, hca, hcm, hcell⟩ := hp
  unfold maxLen at hcm
  have HC := Lib.hid hcell
  have HH := Lib.hid hh
  obtain ⟨R, hR⟩ : ∃ R, R = eitherF fs σ s.data.toList := ⟨_, rfl⟩
  rw [← hR]
  have HR := Lib.hid hR
  clear hcell hh hR
  go_enter Tryd.func43, Tryd.ntmps43
  go_wp2_with fail
  go_loopg [11] fs.length (fun q xi wr => ∃ (i : Nat) (σ1 : Sg), i ≤ fs.length ∧ q = fs.length - i ∧ xi = .int .i64 (i : Int) ∧ Hid (Lt τ w wr) ∧ Hid (Holds τ wr σ1) ∧ Hid (R = eitherF (fs.drop i) σ1 s.data.toList))
  case atStart => exact ⟨0, σ, by omega, by omega, rfl, Lt.refl _ _, HH.out, HR.out⟩
  case round =>
    obtain ⟨i, σ1, hi, rfl, rfl, HL, HHr, HE⟩ := hrel
    by_cases hlt : i < fs.length
    · obtain ⟨rb, vi, rfl, hrb, horb, hci, g, lb, rfl, hen, hcall⟩ := HC.out i hlt
      have hci2 := (HL.out.cell (k := rb) (i := i) hrb horb).trans hci
      have eg : ∀ args w, (callFunc g args).run Tryd.prog w = .ok (.enter g args) w := hen
      have cS := hcall wr σ1 s HL.out HHr.out (by omega)
      rw [List.drop_eq_getElem_cons hlt] at HE
      obtain ⟨f, hf⟩ : ∃ f, f = fs[i] := ⟨_, rfl⟩
      rw [← hf] at cS HE
      rcases hr : f σ1 s.data.toList with ⟨o, σ2⟩
      rw [hr] at cS
      clear hci hcall hen hf
      cases o with
      | none =>
        have HN := Lib.hid (eitherF_no (r := fs.drop (i + 1)) hr)
        clear hr
        go_wp2_with (go_at_fn g; refine cS.mono ?_; rintro e w2 ⟨⟨t2, rfl, hl2, hs2⟩, hk2, hh2⟩)
        go_roundg (fs.length - (i + 1))
        case measure => omega
        case rel =>
          refine ⟨i + 1, σ2, by omega, rfl, by first | rfl | (congr 1), HL.out.trans hk2, hh2, ?_⟩
          unfold Hid
          rw [HE.out, HN.out]
      | some l2 =>
        have HN := Lib.hid (eitherF_yes (r := fs.drop (i + 1)) hr)
        clear hr
        go_wp2_with (go_at_fn g; refine cS.mono ?_; rintro e w2 ⟨⟨t2, rfl, hl2, hs2⟩, hk2, hh2⟩)
        go_ret2
        rw [HE.out, HN.out]
        exact ⟨⟨t2, rfl, hl2, hs2⟩, HL.out.trans hk2, hh2⟩
    · obtain rfl : i = fs.length := by omega
      go_wp2_with fail
      go_ret2
      rw [HE.out, List.drop_length]
      exact ⟨⟨s, rfl, (fun l h => by cases h), Nat.le_refl _⟩, HL.out, HHr.out⟩
end Go.Proofs.YtpmjlhpbknppiaaDoor
