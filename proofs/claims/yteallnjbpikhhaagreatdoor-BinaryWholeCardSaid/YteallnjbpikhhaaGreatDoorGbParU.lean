/- strings.Replacer at quotes and strokes: Replace. -/
import Derived.Test.YteallnjbpikhhaaGreatDoorGbParL
import Derived.Test.YteallnjbpikhhaaGreatDoorShelf
import Derived.Deep.DeepCutAuto
import Derived.Deep.CutBlock
import Derived.Deep.RegionLaw
import Derived.Deep.OwnRows
import Derived.Test.YteallnjbpikhhaaGreatDoorGbParT
namespace Go.Proofs.YteallnjbpikhhaaGreatDoor
open Go Go.RowKit

def hitB (c : UInt8) : Bool := c == 34 || c == 92
def escB (c : UInt8) : List UInt8 := if hitB c then [92, c] else [c]
def escL (l : List UInt8) : List UInt8 := l.flatMap escB
theorem escL_nil : escL [] = [] := rfl
theorem escL_app (a b : List UInt8) : escL (a ++ b) = escL a ++ escL b := by simp [escL]
theorem escL_one (c : UInt8) : escL [c] = escB c := by simp [escL]
theorem escL_len (l : List UInt8) : (escL l).length = l.length + l.countP hitB := by
  induction l with
  | nil => rfl
  | cons c l ih =>
    have e : escL (c :: l) = escB c ++ escL l := by simp [escL]
    rw [e, List.length_append, ih, List.countP_cons, List.length_cons]
    unfold escB
    by_cases h : hitB c = true
    · simp [h]; omega
    · simp [h]; omega
theorem escL_none (l : List UInt8) (h : l.countP hitB = 0) : escL l = l := by
  induction l with
  | nil => rfl
  | cons c l ih =>
    rw [List.countP_cons] at h
    have e : escL (c :: l) = escB c ++ escL l := by simp [escL]
    by_cases hc : hitB c = true
    · simp [hc] at h
    · rw [e, ih (by omega)]
      unfold escB
      rw [if_neg hc]
      rfl
theorem countP_hit (l : List UInt8) : l.countP hitB = l.count 92 + l.count 34 := by
  induction l with
  | nil => rfl
  | cons c l ih =>
    rw [List.countP_cons, ih, List.count_cons, List.count_cons]
    unfold hitB
    by_cases h1 : c = 34
    · subst h1; simp; omega
    · by_cases h2 : c = 92
      · subst h2; simp; omega
      · simp [h1, h2]

def upto (k a b : Nat) : Nat := if k = 0 then 0 else if k = 1 then a else a + b
theorem splice_len {α : Type} (cur cs : List α) (j : Nat) (h : j + cs.length ≤ cur.length) : (splice cur j cs).length = cur.length := by
  simp [splice]
  omega
theorem splice_take {α : Type} (cur cs : List α) (j : Nat) (h : j + cs.length ≤ cur.length) : (splice cur j cs).take (j + cs.length) = cur.take j ++ cs := by
  unfold splice
  rw [← List.append_assoc, List.take_append_of_le_length (by simp; omega)]
  exact List.take_of_length_le (by simp; omega)
theorem set_take {α : Type} (cur : List α) (j : Nat) (x : α) (h : j < cur.length) : (cur.set j x).take (j + 1) = cur.take j ++ [x] := by
  rw [List.take_succ_eq_append_getElem (by simpa using h), List.take_set_of_le (Nat.le_refl _), List.getElem_set_self]
theorem heap_setCell_row (w : World) (B j : Nat) (v : Value) (cur : List Value) (t : TypeId) (h : w.heap[B]? = some (.cells cur.toArray t (0, 0))) : (w.setCell ⟨B, j, none⟩ v).heap[B]? = some (.cells (cur.set j v).toArray t (0, 0)) := by
  simp [World.setCell, Array.getElem?_modify, h]
theorem upto_0 (a b : Nat) : upto 1 a b = upto 0 a b + a := by simp [upto]
theorem upto_le (k a b : Nat) : upto k a b ≤ a + b := by unfold upto; split <;> (try split) <;> omega
theorem upto_1 (a b : Nat) : upto 2 a b = upto 1 a b + b := by simp [upto]
theorem Esc.below {lo : Nat} {W W' : World} {M : Nat} (h : Esc lo W M) (hb : Below W.heap.size W W') : Esc lo W' M := by
  obtain ⟨F, a34, c34, a92, c92, t, ct, hlo, hT, h34, h92, ho, h256, r34, r92, rt, k1, k2, k3⟩ := h
  exact ⟨F, a34, c34, a92, c92, t, ct, hlo, hT.below (by decide) hb, h34, h92, ho, h256, r34.below (hb.block _ r34.lt), r92.below (hb.block _ r92.lt), rt.below (hb.block _ rt.lt), k1, k2, k3⟩
theorem Esc.hit {lo : Nat} {W : World} {M : Nat} (h : Esc lo W M) {c : UInt8} (hc : hitB c = true) : ∃ a ca, W.cell? ⟨M, c.toNat, none⟩ = some (.slice (some ⟨a, 0, none⟩) 2 ca) ∧ rowAt W a 5 ([92, c].map byteV) ∧ 2 ≤ ca := by
  obtain ⟨F, a34, c34, a92, c92, t, ct, hlo, hT, h34, h92, ho, h256, r34, r92, rt, k1, k2, k3⟩ := h
  have hc' : c = 34 ∨ c = 92 := by simpa [hitB] using hc
  rcases hc' with rfl | rfl
  · exact ⟨a34, c34, (hT.c 34 (by decide)).trans (by rw [h34]), r34, k1⟩
  · exact ⟨a92, c92, (hT.c 92 (by decide)).trans (by rw [h92]), r92, k2⟩
theorem Esc.miss {lo : Nat} {W : World} {M : Nat} (h : Esc lo W M) {c : UInt8} (hc : ¬ hitB c = true) : W.cell? ⟨M, c.toNat, none⟩ = some (.slice none 0 0) := by
  obtain ⟨F, a34, c34, a92, c92, t, ct, hlo, hT, h34, h92, ho, h256, r34, r92, rt, k1, k2, k3⟩ := h
  have hl := c.toNat_lt
  have h1 : ¬ (c = 34 ∨ c = 92) := by simpa [hitB] using hc
  rw [hT.c c.toNat (by omega), ho c.toNat (by omega) (fun e => h1 (.inl (toNat_eq e))) (fun e => h1 (.inr (toNat_eq e)))]
theorem count_byte (s : ByteArray) (c : UInt8) (w : World) :
    Calls Tryz.prog 164 #[.string s, .string ⟨#[c]⟩] w fun e w' => e = .returned (.int .i64 ((s.data.toList.count c : Nat) : Int)) ∧ w = w' :=
  (Tryz.strings_Count_one s c w).mono fun _ _ ⟨he, hw⟩ => ⟨he, hw.symm⟩

end Go.Proofs.YteallnjbpikhhaaGreatDoor

/- Contracts of package params: Quoted. -/
namespace Go.Proofs.YteallnjbpikhhaaGreatDoor
open Go Go.RowKit

theorem Esc.setCell {lo : Nat} {W : World} {M : Nat} (h : Esc lo W M) {p : Addr} (hp : p.block < lo) (u : Value) : Esc lo (W.setCell p u) M := by
  obtain ⟨F, a34, c34, a92, c92, t, ct, hlo, hT, h34, h92, ho, h256, r34, r92, rt, k1, k2, k3⟩ := h
  exact ⟨F, a34, c34, a92, c92, t, ct, hlo, hT.block (Below.heap_setCell _ _ _ _ (by omega)), h34, h92, ho, h256, r34.below (Below.heap_setCell _ _ _ _ (by omega)), r92.below (Below.heap_setCell _ _ _ _ (by omega)), rt.below (Below.heap_setCell _ _ _ _ (by omega)), k1, k2, k3⟩

/-- A replacer's block. -/
def repF (r v : Value) (d s : Int) : Nat → Value := fun k => if k = 0 then .int .u32 d else if k = 1 then .int .i32 s else if k = 2 then .int .u32 0 else if k = 3 then r else v

def quoteL (l : List UInt8) : List UInt8 := [34] ++ escL l ++ [34]
end Go.Proofs.YteallnjbpikhhaaGreatDoor

/- Contracts of package params: Get; the example that every statement asks first. -/
namespace Go.Proofs.YteallnjbpikhhaaGreatDoor
open Go Go.RowKit

def getP (ps : List Prm) (nm : List UInt8) : Option (List UInt8) := (ps.find? (fun p => foldS p.1 == foldS nm)).map (·.2)
theorem getP_nil (nm : List UInt8) : getP [] nm = none := rfl
theorem getP_hit {p : Prm} {ps : List Prm} {nm : List UInt8} (h : foldS p.1 = foldS nm) : getP (p :: ps) nm = some p.2 := by
  unfold getP
  rw [List.find?_cons_of_pos (by simpa using h)]
  rfl
theorem getP_miss {p : Prm} {ps : List Prm} {nm : List UInt8} (h : ¬ foldS p.1 = foldS nm) : getP (p :: ps) nm = getP ps nm := by
  unfold getP
  rw [List.find?_cons_of_neg (by simpa using h)]
def exText : ByteArray := ⟨#[116, 101, 120, 116, 47, 112, 108, 97, 105, 110, 59, 32, 99, 104, 97, 114, 115, 101, 116, 61, 34, 97, 32, 98, 34, 59, 32, 120, 42, 49, 61, 99, 59, 32, 120, 42, 48, 42, 61, 39, 39, 37, 52, 49]⟩
def exPrms : List Prm := [([99, 104, 97, 114, 115, 101, 116], [97, 32, 98]), ([120, 42, 49], [99]), ([120, 42, 48, 42], [39, 39, 37, 52, 49])]
theorem ex_pars : parsL 34 (exText.data.toList.drop 10) = exPrms := by kernel_rfl
theorem ex_piece0 : pieceL exPrms [120] 0 = some [65] := by
  unfold pieceL
  rw [Lib.decDigits_one (by decide)]
  kernel_rfl
theorem ex_piece1 : pieceL exPrms [120] 1 = some [99] := by
  unfold pieceL
  rw [Lib.decDigits_one (by decide)]
  kernel_rfl
theorem ex_piece2 : pieceL exPrms [120] 2 = none := by
  unfold pieceL
  rw [Lib.decDigits_one (by decide)]
  kernel_rfl
theorem ex_told : toldL exPrms [120] = some [65, 99] := by
  have h : toldL exPrms [120] = if (pieceL exPrms [120] 0).isSome then some (pcsL exPrms [120] 4 0) else none := by kernel_rfl
  rw [h, ex_piece0, pcsL_step ex_piece0, pcsL_step ex_piece1, pcsL_end ex_piece2]
  rfl
theorem ex_join : joinL exPrms = [([99, 104, 97, 114, 115, 101, 116], [97, 32, 98]), ([120], [65, 99])] := by
  have h : joinL exPrms = ([99, 104, 97, 114, 115, 101, 116], [97, 32, 98]) :: (match toldL exPrms [120] with
      | some v => ([120], v) :: joinA exPrms [[120], [99, 104, 97, 114, 115, 101, 116]] [([120, 42, 48, 42], [39, 39, 37, 52, 49])]
      | none => joinA exPrms [[120], [99, 104, 97, 114, 115, 101, 116]] [([120, 42, 48, 42], [39, 39, 37, 52, 49])]) := by kernel_rfl
  rw [h, ex_told]
  rfl
theorem ex_parse : parseL exText.data.toList true = some ⟨[116, 101, 120, 116], [112, 108, 97, 105, 110], [([99, 104, 97, 114, 115, 101, 116], [97, 32, 98]), ([120], [65, 99])]⟩ := by
  have h : parseL exText.data.toList true = some ⟨[116, 101, 120, 116], [112, 108, 97, 105, 110], joinL (parsL 34 (exText.data.toList.drop 10))⟩ := by kernel_rfl
  rw [h, ex_pars, ex_join]
theorem ex_none : parseL (⟨#[116, 101, 120, 116]⟩ : ByteArray).data.toList true = none := by kernel_rfl

def small1 (ps : List Prm) : Prop := ∀ p ∈ ps, p.1.length ≤ 1000000
set_option maxRecDepth 100000 in
set_option maxHeartbeats 2000000 in
theorem get_any (ts sb : ByteArray) (u : Value) (ps : List Prm) (nm : ByteArray) (w : World) (hu : prmAt w u ps) (hps : small1 ps) :
    Calls Tryz.prog 74 #[.agg #[.string ts, .string sb, u], .string nm] w fun e w' => e = .returned (getOV (getP ps nm.data.toList)) ∧ Below w.heap.size w w' := by
  have HU := Lib.hid hu
  obtain ⟨ao, cap, rfl, hcl, hcm, hcell⟩ := hu
  unfold maxLen at hcm
  clear hcell
  have HSa := Lib.hid (fun (a : ByteArray) W h => same_any a nm W h)
  go_enter Tryz.func74, Tryz.ntmps74
  go_wp2_with fail
  go_loopg [11] ps.length (fun g v11 wr => ∃ k : Nat, g = ps.length - k ∧ k ≤ ps.length ∧ v11 = .int .i64 (k : Int) ∧ Hid (Below w.heap.size w wr) ∧ Hid (getP ps nm.data.toList = getP (ps.drop k) nm.data.toList))
  case atStart => exact ⟨0, by omega, by omega, rfl, (Below.refl _ _).alloc (Nat.le_refl _) _, rfl⟩
  case round =>
    obtain ⟨k, rfl, hk, rfl, HB, HS⟩ := hrel
    by_cases hlt : k < ps.length
    · obtain ⟨_, _, e0, _, _, hc⟩ := HU.out.below HB.out
      cases e0
      rcases hc with h0 | ⟨g, rfl, hg, hcc⟩
      · rw [h0] at hlt
        simp at hlt
      · obtain ⟨d0, d1⟩ := hcc k hlt
        have hsm := hps ps[k] (List.getElem_mem hlt)
        have HStep : Hid (ps.drop k = ps[k] :: ps.drop (k + 1)) := List.drop_eq_getElem_cons hlt
        rw [HStep.out] at HS
        obtain ⟨p, hp⟩ : ∃ p, p = ps[k] := ⟨_, rfl⟩
        rw [← hp] at d0 d1 HS hsm
        obtain ⟨pn, pv⟩ := p
        have HA : Hid (Below wr.heap.size wr (wr.alloc (.cells #[.string ⟨pn.toArray⟩, .string ⟨pv.toArray⟩] 161))) := (Below.refl _ _).alloc (Nat.le_refl _) _
        have HSa1 := Lib.hid (HSa.out ⟨pn.toArray⟩ (wr.alloc (.cells #[.string ⟨pn.toArray⟩, .string ⟨pv.toArray⟩] 161)) (by rw [toArr_size]; exact Nat.le_trans hsm (by omega)))
        clear hcc hp HStep
        by_cases hf : foldS pn = foldS nm.data.toList
        · have HF : Hid (decide (foldS (⟨pn.toArray⟩ : ByteArray).data.toList = foldS nm.data.toList) = true) := decide_eq_true hf
          have HG : Hid (getP ((pn, pv) :: ps.drop (k + 1)) nm.data.toList = some pv) := getP_hit hf
          rw [HF.out] at HSa1
          clear hf
          go_wp2_with fail
          with_reducible refine HSa1.out.mono ?_
          rintro e w2 ⟨rfl, n, hw2⟩
          have hb2 : Below (wr.alloc (.cells #[.string ⟨pn.toArray⟩, .string ⟨pv.toArray⟩] 161)).heap.size (wr.alloc (.cells #[.string ⟨pn.toArray⟩, .string ⟨pv.toArray⟩] 161)) w2 := by rw [hw2]; exact below_drewN' _
          obtain ⟨e0, e1⟩ := box2_cells hb2
          have HB2 : Hid (Below w.heap.size w w2) := (HB.out.trans (HA.out.mono HB.out.size)).trans (hb2.mono (by have := HB.out.size; simp; omega))
          clear hw2 hb2 e0
          go_wp2_with fail
          go_ret2
          exact ⟨by rw [HS.out, HG.out]; rfl, HB2.out⟩
        · have HF : Hid (decide (foldS (⟨pn.toArray⟩ : ByteArray).data.toList = foldS nm.data.toList) = false) := decide_eq_false hf
          have HG : Hid (getP ((pn, pv) :: ps.drop (k + 1)) nm.data.toList = getP (ps.drop (k + 1)) nm.data.toList) := getP_miss hf
          rw [HF.out] at HSa1
          clear hf
          go_wp2_with fail
          with_reducible refine HSa1.out.mono ?_
          rintro e w2 ⟨rfl, n, hw2⟩
          have hb2 : Below (wr.alloc (.cells #[.string ⟨pn.toArray⟩, .string ⟨pv.toArray⟩] 161)).heap.size (wr.alloc (.cells #[.string ⟨pn.toArray⟩, .string ⟨pv.toArray⟩] 161)) w2 := by rw [hw2]; exact below_drewN' _
          have HB2 : Hid (Below w.heap.size w w2) := (HB.out.trans (HA.out.mono HB.out.size)).trans (hb2.mono (by have := HB.out.size; simp; omega))
          clear hw2 hb2
          go_wp2_with fail
          go_roundg (ps.length - (k + 1))
          case measure => omega
          case rel => exact ⟨k + 1, rfl, by omega, by go_num, HB2.out, by unfold Hid; rw [HS.out, HG.out]⟩
    · have HN : Hid (ps.drop k = []) := List.drop_eq_nil_of_le (by omega)
      go_wp2_with fail
      go_ret2
      exact ⟨by rw [HS.out, HN.out]; rfl, HB.out⟩

theorem own_slice {w : World} {base : Nat} {e : TypeId} {size : Nat} {v : Value} {n : Nat} {xs : List Value} (h : w.ownsRow base e size v n xs) : ∃ a m c, v = .slice a m c := by
  rcases h.2 with ⟨h, _⟩ | ⟨g, cp, cur, h, _⟩
  · exact ⟨_, _, _, h⟩
  · exact ⟨_, _, _, h⟩
/-- A value that was told. -/
theorem parse_some (s : ByteArray) (two : Bool) (V : Val) (hV : parseL s.data.toList two = some V) (w : World) (hl : s.size ≤ 100000) (he : env w) :
    Calls Tryz.prog 43 #[.string s, .bool two] w fun e w' => ∃ a n c, e = .returned (.tuple #[.agg #[.string ⟨V.type.toArray⟩, .string ⟨V.sub.toArray⟩, .slice a n c], .bool true]) ∧ prmAt w' (.slice a n c) V.params ∧ Below w.heap.size w w' :=
  (parse_any s two w hl he).mono fun e w' ⟨t, sb, u, ps, b, he, hown, hb, hc⟩ => by
    rw [hV] at hc
    obtain ⟨rfl, rfl, rfl, rfl⟩ := hc
    obtain ⟨a, n, c, rfl⟩ := own_slice hown
    exact ⟨a, n, c, he, prmAt_owned hown, hb⟩
theorem parse_none (s : ByteArray) (two : Bool) (hV : parseL s.data.toList two = none) (w : World) (hl : s.size ≤ 100000) (he : env w) :
    Calls Tryz.prog 43 #[.string s, .bool two] w fun e w' => ∃ a n c, e = .returned (.tuple #[.agg #[.string ⟨#[]⟩, .string ⟨#[]⟩, .slice a n c], .bool false]) ∧ prmAt w' (.slice a n c) [] ∧ Below w.heap.size w w' :=
  (parse_any s two w hl he).mono fun e w' ⟨t, sb, u, ps, b, he, hown, hb, hc⟩ => by
    rw [hV] at hc
    obtain ⟨rfl, rfl, rfl, rfl⟩ := hc
    obtain ⟨a, n, c, rfl⟩ := own_slice hown
    exact ⟨a, n, c, he, prmAt_owned hown, hb⟩
theorem box3_cells {W W' : World} {t : TypeId} {a b c : Value} (h : Below (W.alloc (.cells #[a, b, c] t)).heap.size (W.alloc (.cells #[a, b, c] t)) W') :
    W'.cell? ⟨W.heap.size, 0, none⟩ = some a ∧ W'.cell? ⟨W.heap.size, 1, none⟩ = some b ∧ W'.cell? ⟨W.heap.size, 2, none⟩ = some c := by
  have e : W'.heap[W.heap.size]? = some (.cells #[a, b, c] t (0, 0)) := (h.block _ (by simp)).trans (heap_alloc_new W _)
  simp [World.cell?, e]
def exOut : List Prm := [([99, 104, 97, 114, 115, 101, 116], [97, 32, 98]), ([120], [65, 99])]
theorem ex_get : getP exOut (⟨#[88]⟩ : ByteArray).data.toList = some [65, 99] := by kernel_rfl
theorem ex_quote : quoteL (⟨#[97, 34]⟩ : ByteArray).data.toList = [34, 97, 92, 34, 34] := by kernel_rfl

end Go.Proofs.YteallnjbpikhhaaGreatDoor
