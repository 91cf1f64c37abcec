/- Contracts of package params: the values given. -/
import Derived.Test.YtkmgflnmffdhjaaGreatDoorGbParN
import Derived.Test.YtkmgflnmffdhjaaGreatDoorGbParK
import Derived.Maps.OwnSet
import Derived.Maps.OwnOps
import Derived.StringKeys
namespace Go.Proofs.YtkmgflnmffdhjaaGreatDoor
open Go Go.RowKit Go.Maps

def idx (ps : List Prm) (nm : List UInt8) : Option Nat := ps.findIdx? (fun p => p.1 == nm)
theorem getV_idx (ps : List Prm) (nm : List UInt8) : getV ps nm = (idx ps nm).bind (fun i => ps[i]?.map (·.2)) := by
  unfold getV idx
  induction ps with
  | nil => rfl
  | cons p ps ih =>
    rw [List.find?_cons, List.findIdx?_cons]
    by_cases h : (p.1 == nm) = true
    · rw [h]
      rfl
    · have h' : (p.1 == nm) = false := by simpa using h
      rw [h']
      simp only [Bool.false_eq_true, if_false]
      rw [ih]
      cases ps.findIdx? (fun p => p.1 == nm) <;> simp
theorem idx_lt {ps : List Prm} {nm : List UInt8} {i : Nat} (h : idx ps nm = some i) : i < ps.length := by
  unfold idx at h
  exact (List.findIdx?_eq_some_iff_findIdx_eq.1 h).1

theorem keyLaw : Keyed Tryz.prog 9 := string_keyed Tryz.underlying9
theorem zeroInt (w : World) : (zeroValue 3).run Tryz.prog w = .ok (.int .i64 0) w := by kernel_rfl
theorem keyStr (l : List UInt8) (h : l.length ≤ 1000000000) : keyOf Tryz.prog 9 (.string ⟨l.toArray⟩) = some (.string l) := by
  have h1 : (⟨l.toArray⟩ : ByteArray).size ≤ maxLen := by
    show l.length ≤ _
    unfold maxLen
    omega
  have := Go.WideMaps.keyOf_string_mk Tryz.underlying9 h1
  exact this

/-- A map tells the first place of each name. -/
def MapIs (W : World) (bm : Nat) (ps : List Prm) : Prop := ∃ (n : Nat) (D : DataW Unit), n ≤ ps.length ∧ W.ownsMap Tryz.prog 9 (plainElem Tryz.prog 3) bm n D ∧
  ∀ nm, Maps.has D (.string nm) = (idx ps nm).isSome ∧ ∀ i, idx ps nm = some i → D.atKey (.string nm) (.lit (.int .i64 0)) = .lit (.int .i64 (i : Int))
theorem MapIs.below {W W' : World} {bm : Nat} {ps : List Prm} (h : MapIs W bm ps) (hb : Below W.heap.size W W') : MapIs W' bm ps := by
  obtain ⟨n, D, h1, h2, h3⟩ := h
  exact ⟨n, D, h1, h2.kept (row := none) ⟨hb.os, hb.tape, hb.output, hb.size, fun k hk _ => hb.block k hk⟩ (by simp), h3⟩
/-- A slice of parameters. -/
def prmAt (W : World) (v : Value) (ps : List Prm) : Prop :=
  ∃ ao cap, v = .slice ao ps.length cap ∧ ps.length ≤ cap ∧ cap ≤ maxLen ∧ (ps = [] ∨ ∃ g, ao = some ⟨g, 0, none⟩ ∧ g < W.heap.size ∧
    ∀ i, (h : i < ps.length) → W.cell? ⟨g, i * 2, none⟩ = some (.string ⟨(ps[i]).1.toArray⟩) ∧ W.cell? ⟨g, i * 2 + 1, none⟩ = some (.string ⟨(ps[i]).2.toArray⟩))
theorem prmAt.below {W W' : World} {v : Value} {ps : List Prm} (h : prmAt W v ps) (hb : Below W.heap.size W W') : prmAt W' v ps := by
  obtain ⟨ao, cap, e, h1, h2, h3⟩ := h
  refine ⟨ao, cap, e, h1, h2, h3.imp id ?_⟩
  rintro ⟨g, e, hg, hc⟩
  exact ⟨g, e, Nat.lt_of_lt_of_le hg hb.size, fun i hi => ⟨(hb.cell (p := ⟨g, i * 2, none⟩) hg).trans (hc i hi).1, (hb.cell (p := ⟨g, i * 2 + 1, none⟩) hg).trans (hc i hi).2⟩⟩
theorem prmCells_at (ps : List Prm) (i : Nat) (h : i < ps.length) : (prmCells ps)[i * 2]? = some (.string ⟨(ps[i]).1.toArray⟩) ∧ (prmCells ps)[i * 2 + 1]? = some (.string ⟨(ps[i]).2.toArray⟩) := by
  induction ps generalizing i with
  | nil => simp at h
  | cons p ps ih =>
    have e : prmCells (p :: ps) = .string ⟨p.1.toArray⟩ :: .string ⟨p.2.toArray⟩ :: prmCells ps := rfl
    rw [e]
    cases i with
    | zero => exact ⟨rfl, rfl⟩
    | succ i =>
      have := ih i (by simpa using h)
      rw [show (i + 1) * 2 = i * 2 + 1 + 1 by omega]
      simpa using this
theorem prmAt_owned {w : World} {base : Nat} {v : Value} {ps : List Prm} (h : w.ownsRow base 71 2 v ps.length (prmCells ps)) : prmAt w v ps := by
  rcases h.2 with ⟨rfl, h0⟩ | ⟨g, cap, cur, rfl, hbg, hh, hc, hm, hs, ht⟩
  · obtain rfl : ps = [] := List.eq_nil_of_length_eq_zero h0
    exact ⟨none, 0, rfl, Nat.le_refl _, Nat.zero_le _, .inl rfl⟩
  · refine ⟨_, cap, rfl, hc, hm, .inr ⟨g, rfl, (Array.getElem?_eq_some_iff.1 hh).1, fun i hi => ?_⟩⟩
    obtain ⟨c0, c1⟩ := prmCells_at ps i hi
    rw [← ht] at c0 c1
    rw [List.getElem?_take, if_pos (by omega)] at c0 c1
    simp only [World.cell?, hh]
    exact ⟨by simpa using c0, by simpa using c1⟩
def getOV : Option (List UInt8) → Value
  | some v => .tuple #[.string ⟨v.toArray⟩, .bool true]
  | none => .tuple #[.string ⟨#[]⟩, .bool false]

set_option maxRecDepth 100000 in
set_option maxHeartbeats 1000000 in
theorem plain_any (v : Value) (bm : Nat) (ps : List Prm) (nm : List UInt8) (w : World) (hv : prmAt w v ps) (hm : MapIs w bm ps) (hn : nm.length ≤ 1000000000) :
    Calls Tryz.prog 101 #[.agg #[v, .map (some bm)], .string ⟨nm.toArray⟩] w fun e w' => e = .returned (getOV (getV ps nm)) ∧ Below w.heap.size w w' := by
  obtain ⟨ao, cap, rfl, hc1, hc2, hcell⟩ := hv
  obtain ⟨n, D, hnl, hown, hD⟩ := hm
  have HO := Lib.hid hown
  have HK := Lib.hid (keyStr nm hn)
  have HC := Lib.hid hcell
  have HG := Lib.hid (getV_idx ps nm)
  obtain ⟨hD1, hD2⟩ := hD nm
  unfold maxLen at hc2
  cases hx : idx ps nm with
  | none =>
    rw [hx] at hD1
    have HD1 : Hid (Maps.has D (.string nm) = false) := hD1
    have HN : Hid (getV ps nm = none) := by unfold Hid; rw [HG.out, hx]; rfl
    clear hx hD1 hD2 hD hown hcell
    go_enter Tryz.func101, Tryz.ntmps101
    go_wp2_with (at_lookup; refine wpList_lookup_own_ok_int _ rfl _ _ 133 rfl 9 3 .i64 keyLaw Tryz.underlying133 Tryz.underlying3 (zeroInt _) bm n D rfl (HO.out.alloc _) _ _ rfl HK.out ?_; intro c hat hwc; rw [HD1.out])
    go_ret2
    exact ⟨by rw [HN.out]; rfl, (Below.refl _ _).alloc (Nat.le_refl _) _⟩
  | some i =>
    have hi := idx_lt hx
    have HD1 : Hid (Maps.has D (.string nm) = true) := by rw [hx] at hD1; exact hD1
    have HD2 : Hid (D.atKey (.string nm) (.lit (.int .i64 0)) = .lit (.int .i64 (i : Int))) := hD2 i hx
    have HN : Hid (getV ps nm = some (ps[i]).2) := by
      unfold Hid
      rw [HG.out, hx]
      show ps[i]?.map (·.2) = _
      rw [List.getElem?_eq_getElem hi]
      rfl
    rcases hcell with h0 | ⟨g, rfl, hg, hcc⟩
    · rw [h0] at hi
      simp at hi
    · have c1 := (hcc i hi).2
      have C1 := Lib.hid (((Below.refl _ w).alloc (Nat.le_refl _) (.cells #[.slice (some ⟨g, 0, none⟩) ps.length cap, .map (some bm)] 135)).cell (p := ⟨g, i * 2 + 1, none⟩) hg)
      have c2 := C1.out.trans c1
      clear hx hD1 hD2 hD hown HC hcc c1 C1
      go_enter Tryz.func101, Tryz.ntmps101
      go_wp2_with (at_lookup; refine wpList_lookup_own_ok_int _ rfl _ _ 133 rfl 9 3 .i64 keyLaw Tryz.underlying133 Tryz.underlying3 (zeroInt _) bm n D rfl (HO.out.alloc _) _ _ rfl HK.out ?_; intro c hat hwc; rw [HD1.out]; obtain rfl : c = (i : Int) := (by rw [HD2.out] at hat; cases hat; rfl))
      go_ret2
      exact ⟨by rw [HN.out]; rfl, (Below.refl _ _).alloc (Nat.le_refl _) _⟩
end Go.Proofs.YtkmgflnmffdhjaaGreatDoor

/- Contracts of package params: pieces, a base's value. -/
namespace Go.Proofs.YtkmgflnmffdhjaaGreatDoor
open Go Go.RowKit

theorem arr_list (s : ByteArray) : (⟨s.data.toList.toArray⟩ : ByteArray) = s := bytes_eq rfl
theorem prPlainB (v : Value) (bm : Nat) (ps : List Prm) (nm : ByteArray) (w : World) (hv : prmAt w v ps) (hm : MapIs w bm ps) (hn : nm.size ≤ 1000000000) :
    Calls Tryz.prog 101 #[.agg #[v, .map (some bm)], .string nm] w fun e w' => e = .returned (getOV (getV ps nm.data.toList)) ∧ Below w.heap.size w w' := by
  have h := plain_any v bm ps nm.data.toList w hv hm (by rw [len_toList]; exact hn)
  rw [arr_list] at h
  exact h
theorem box2_cells {W W' : World} {t : TypeId} {a b : Value} (h : Below (W.alloc (.cells #[a, b] t)).heap.size (W.alloc (.cells #[a, b] t)) W') :
    W'.cell? ⟨W.heap.size, 0, none⟩ = some a ∧ W'.cell? ⟨W.heap.size, 1, none⟩ = some b := by
  have e : W'.heap[W.heap.size]? = some (.cells #[a, b] t (0, 0)) := (h.block _ (by simp)).trans (heap_alloc_new W _)
  simp [World.cell?, e]
/-- All is small. -/
def smallP (ps : List Prm) : Prop := ∀ p ∈ ps, p.1.length ≤ 1000000 ∧ p.2.length ≤ 1000000
theorem getV_small {ps : List Prm} (h : smallP ps) {nm v : List UInt8} (hv : getV ps nm = some v) : v.length ≤ 1000000 := by
  unfold getV at hv
  cases hf : ps.find? (fun p => p.1 == nm) with
  | none => rw [hf] at hv; cases hv
  | some p =>
    rw [hf] at hv
    cases hv
    exact (h p (List.mem_of_find?_eq_some hf)).2
theorem bareL_len (l : List UInt8) : (bareL l).length ≤ l.length := by
  unfold bareL
  have h1 := (List.dropWhile_sublist (fun c => c != 39) (l := l)).length_le
  split
  · next x r e =>
    rw [e] at h1
    simp at h1
    have h2 := (List.dropWhile_sublist (fun c => c != 39) (l := r)).length_le
    split
    · next y r2 e2 =>
      rw [e2] at h2
      simp at h2
      omega
    · exact Nat.le_refl _
  · exact Nat.le_refl _
theorem openL_len : ∀ (n : Nat) (l : List UInt8), (openL n l).length ≤ l.length := by
  intro n
  induction n with
  | zero => intro l; simp [openL]
  | succ n ih =>
    intro l
    cases l with
    | nil => simp [openL]
    | cons c l =>
      cases h : codeL (c :: l) with
      | some x =>
        rw [openL_code h]
        have := ih (l.drop 2)
        simp at this ⊢
        omega
      | none =>
        rw [openL_byte h]
        have := ih l
        simp
        omega
theorem opn_len (l : List UInt8) : (opn l).length ≤ l.length := openL_len _ _
theorem toArr_size (l : List UInt8) : (⟨l.toArray⟩ : ByteArray).size = l.length := rfl
theorem opened_l (l : List UInt8) (w : World) (hl : l.length ≤ 1000000000) (he : errAt w) :
    Calls Tryz.prog 102 #[.string ⟨l.toArray⟩] w fun e w' => e = .returned (.string ⟨(opn l).toArray⟩) ∧ Below w.heap.size w w' :=
  opened_any ⟨l.toArray⟩ w hl he
theorem behindMarks_l (l : List UInt8) (w : World) (hl : l.length ≤ 1000000000) :
    Calls Tryz.prog 103 #[.string ⟨l.toArray⟩] w fun e w' => e = .returned (.string ⟨(bareL l).toArray⟩) ∧ Below w.heap.size w w' :=
  behindMarks_any ⟨l.toArray⟩ w hl

set_option maxRecDepth 100000 in
set_option maxHeartbeats 4000000 in
theorem piece_any (v : Value) (bm : Nat) (ps : List Prm) (Bs : ByteArray) (n : Nat) (w : World) (hv : prmAt w v ps) (hm : MapIs w bm ps) (hps : smallP ps) (hb : Bs.size ≤ 1000000) (hn : n ≤ 1000000) (he : env w) :
    Calls Tryz.prog 104 #[.agg #[v, .map (some bm)], .string Bs, .int .i64 (n : Int)] w fun e w' => e = .returned (getOV (pieceL ps Bs.data.toList n)) ∧ Below w.heap.size w w' := by
  obtain ⟨Dg, hDg⟩ : ∃ D : ByteArray, D = ⟨(Lib.itoa (n : Int)).toArray⟩ := ⟨_, rfl⟩
  have hDl : Dg.data.toList = Lib.decDigits n := by rw [hDg]; show Lib.itoa (n : Int) = _; rw [Lib.itoa_nonneg]
  have hDs : Dg.size ≤ 20 := by
    have : Dg.size = (Lib.decDigits n).length := by rw [← hDl, len_toList]
    rw [this, Lib.decDigits_length]
    exact Lib.nDigits_le20 _ (by omega)
  have HDg := Lib.hid (fun W h => digits_any (n : Int) (by omega) (by omega) W h)
  rw [← hDg] at HDg
  obtain ⟨Nm, hNm⟩ : ∃ N : ByteArray, N = Bs ++ ⟨#[42]⟩ ++ Dg := ⟨_, rfl⟩
  have hNl : Nm.data.toList = Bs.data.toList ++ [42] ++ Lib.decDigits n := by rw [hNm, cat_toList, cat_toList, hDl]
  have hNs : Nm.size ≤ 1000100 := by rw [← len_toList, hNl]; simp [← hDl]; omega
  obtain ⟨Ns, hNs'⟩ : ∃ N : ByteArray, N = Nm ++ ⟨#[42]⟩ := ⟨_, rfl⟩
  have hSl : Ns.data.toList = Bs.data.toList ++ [42] ++ Lib.decDigits n ++ [42] := by rw [hNs', cat_toList, hNl]
  have hSs : Ns.size ≤ 1000200 := by rw [← len_toList, hNs', cat_toList]; simp; omega
  have HE := Lib.hid he
  have HV := Lib.hid hv
  have HM := Lib.hid hm
  have HP1 := Lib.hid (fun W h1 h2 => prPlainB v bm ps Nm W h1 h2 (by omega))
  have HP2 := Lib.hid (fun W h1 h2 => prPlainB v bm ps Ns W h1 h2 (by omega))
  rw [hNl] at HP1
  rw [hSl] at HP2
  have HN1 : Hid (Bs ++ ⟨#[42]⟩ ++ Dg = Nm) := hNm.symm
  have HN2 : Hid (Nm ++ ⟨#[42]⟩ = Ns) := hNs'.symm
  have HL : Hid (pieceL ps Bs.data.toList n = match getV ps (Bs.data.toList ++ [42] ++ Lib.decDigits n) with | some v => some v | none => (getV ps (Bs.data.toList ++ [42] ++ Lib.decDigits n ++ [42])).map (fun v => opn (if n = 0 then bareL v else v))) := rfl
  obtain ⟨L1, hL1⟩ : ∃ l, l = Bs.data.toList ++ [42] ++ Lib.decDigits n := ⟨_, rfl⟩
  rw [← hL1] at HP1 HP2 HL
  obtain ⟨ao, cap, rfl, _, _, _⟩ := hv
  clear hNl hSl hNm hNs' hDl hDg hL1 he hm
  go_enter Tryz.func104, Tryz.ntmps104
  go_wp2_with fail
  with_reducible refine (HDg.out _ ?h1).mono ?_
  case h1 => exact HE.out.1.below ((Below.refl _ _).alloc (Nat.le_refl _) _)
  rintro e w1 ⟨rfl, hb1⟩
  have HB1 : Hid (Below w.heap.size w w1) := ((Below.refl _ _).alloc (Nat.le_refl _) _).trans (hb1.mono (by simp))
  obtain ⟨c0, c1⟩ := box2_cells hb1
  clear hb1 HDg
  go_wp2_with fail
  rw [HN1.out]
  have hlt : w.heap.size < w1.heap.size := World.block_lt_of_cell? _ _ c0
  cases h1 : getV ps L1 with
  | some x =>
    rw [h1] at HP1 HL
    clear h1
    with_reducible refine (HP1.out w1 ?h1 ?h2).mono ?_
    case h1 => exact prmAt.below HV.out HB1.out
    case h2 => exact MapIs.below HM.out HB1.out
    rintro e w2 ⟨rfl, hb2⟩
    have HB2 := Lib.hid (HB1.out.trans (hb2.mono HB1.out.size))
    clear hb2
    unfold getOV
    go_wp2_with fail
    go_ret2
    exact ⟨by rw [HL.out]; rfl, HB2.out⟩
  | none =>
    rw [h1] at HP1 HL
    clear h1
    with_reducible refine (HP1.out w1 ?h1 ?h2).mono ?_
    case h1 => exact prmAt.below HV.out HB1.out
    case h2 => exact MapIs.below HM.out HB1.out
    rintro e w2 ⟨rfl, hb2⟩
    have HB2 := Lib.hid (HB1.out.trans (hb2.mono HB1.out.size))
    replace c0 := (hb2.cell (p := ⟨w.heap.size, 0, none⟩) hlt).trans c0
    replace c1 := (hb2.cell (p := ⟨w.heap.size, 1, none⟩) hlt).trans c1
    clear hb2 HB1 HP1
    unfold getOV
    have HP2' := Lib.hid (HP2.out w2 (prmAt.below HV.out HB2.out) (MapIs.below HM.out HB2.out))
    clear HP2
    obtain ⟨o, ho⟩ : ∃ o, o = getV ps (L1 ++ [42]) := ⟨_, rfl⟩
    rw [← ho] at HP2' HL
    obtain ⟨xv, xb, hxo, hxl, hxn⟩ : ∃ (xv : List UInt8) (xb : Bool), getOV o = .tuple #[.string ⟨xv.toArray⟩, .bool xb] ∧ xv.length ≤ 1000000 ∧
        (∀ m, getOV (o.map (fun v => opn (if m = 0 then bareL v else v))) = .tuple #[.string ⟨(opn (if m = 0 then bareL xv else xv)).toArray⟩, .bool xb]) := by
      cases o with
      | none => exact ⟨[], false, rfl, by simp, fun m => by split <;> rfl⟩
      | some x => exact ⟨x, true, rfl, getV_small hps ho.symm, fun m => rfl⟩
    rw [hxo] at HP2'
    have HXN : Hid (getOV (pieceL ps Bs.data.toList n) = .tuple #[.string ⟨(opn (if n = 0 then bareL xv else xv)).toArray⟩, .bool xb]) := by
      unfold Hid
      rw [HL.out]
      exact hxn n
    have HOp := Lib.hid (fun l W hl h => opened_l l W hl h)
    have HBm := Lib.hid (fun W => behindMarks_l xv W (by omega))
    clear hxo hxn ho HL
    go_wp2_with fail
    rw [HN2.out]
    with_reducible refine HP2'.out.mono ?_
    rintro e w3 ⟨rfl, hb3⟩
    have HB3 := Lib.hid (HB2.out.trans (hb3.mono HB2.out.size))
    clear hb3 HB2 HP2' c0 c1
    by_cases h0 : n = 0
    · rw [if_pos h0] at HXN
      have hn0 : ((n : Int) == 0) = true := beq_yes (by omega)
      have hbl := bareL_len xv
      go_wp2_with fail
      with_reducible refine (HBm.out _).mono ?_
      rintro e w4 ⟨rfl, hb4⟩
      have HB4 := Lib.hid (HB3.out.trans (hb4.mono HB3.out.size))
      clear hb4
      go_wp2_with fail
      with_reducible refine (HOp.out (bareL xv) _ ?h1 ?h2).mono ?_
      case h1 => exact (by omega)
      case h2 => exact (env.below HE.out HB4.out).2
      rintro e w5 ⟨rfl, hb5⟩
      have HB5 := Lib.hid (HB4.out.trans (hb5.mono HB4.out.size))
      clear hb5
      go_wp2_with fail
      go_ret2
      exact ⟨by rw [HXN.out]; rfl, HB5.out⟩
    · rw [if_neg h0] at HXN
      have hn0 : ((n : Int) == 0) = false := beq_no (by omega)
      go_wp2_with fail
      with_reducible refine (HOp.out xv _ ?h1 ?h2).mono ?_
      case h1 => exact (by omega)
      case h2 => exact (env.below HE.out HB3.out).2
      rintro e w5 ⟨rfl, hb5⟩
      have HB5 := Lib.hid (HB3.out.trans (hb5.mono HB3.out.size))
      clear hb5
      go_wp2_with fail
      go_ret2
      exact ⟨by rw [HXN.out]; rfl, HB5.out⟩
end Go.Proofs.YtkmgflnmffdhjaaGreatDoor

/- Contracts of package params: a base's value. -/
namespace Go.Proofs.YtkmgflnmffdhjaaGreatDoor
open Go Go.RowKit

theorem dig_toNat {d : Nat} (h : d < 10) : (UInt8.ofNat (48 + d)).toNat = 48 + d := by
  rw [UInt8.toNat_ofNat']
  omega
theorem decDigits_all (u : Nat) : (Lib.decDigits u).all isDig = true := by
  induction u using Nat.strongRecOn with
  | _ u ih =>
    rw [Lib.decDigits]
    split
    · rename_i h
      rw [List.all_cons, List.all_nil, Bool.and_true, isDig_iff, dig_toNat h]
      omega
    · rename_i h
      have hm : u % 10 < 10 := Nat.mod_lt _ (by decide)
      rw [List.all_append, ih (u / 10) (by omega), Bool.true_and, List.all_cons, List.all_nil, Bool.and_true, isDig_iff, dig_toNat hm]
      omega
theorem numOf_decDigits (u : Nat) : numOf (Lib.decDigits u) = u := by
  induction u using Nat.strongRecOn with
  | _ u ih =>
    rw [Lib.decDigits]
    split
    · rename_i h
      have := numOf_snoc [] (UInt8.ofNat (48 + u))
      rw [List.nil_append, dig_toNat h] at this
      rw [this]
      simp [numOf]
    · rename_i h
      have hm : u % 10 < 10 := Nat.mod_lt _ (by decide)
      rw [numOf_snoc, ih (u / 10) (by omega), dig_toNat hm]
      omega
theorem decDigits_inj {a b : Nat} (h : Lib.decDigits a = Lib.decDigits b) : a = b := by rw [← numOf_decDigits a, ← numOf_decDigits b, h]
theorem decDigits_star (u : Nat) : ∀ c ∈ Lib.decDigits u, (c != 42) = true := by
  intro c hc
  have h := List.all_eq_true.1 (decDigits_all u) c hc
  have h2 := (isDig_iff c).1 h
  have : c ≠ 42 := fun e => by rw [e] at h2; revert h2; decide
  simpa using this
theorem take_digits (u : Nat) (t : List UInt8) (ht : t = [] ∨ t = [42]) : (Lib.decDigits u ++ t).takeWhile (fun c => c != 42) = Lib.decDigits u := by
  have h : ∀ (l t : List UInt8), (∀ c ∈ l, (c != 42) = true) → t = [] ∨ t = [42] → (l ++ t).takeWhile (fun c => c != 42) = l := by
    intro l t hl ht
    induction l with
    | nil => rcases ht with rfl | rfl <;> rfl
    | cons c l ih =>
      rw [List.cons_append, List.takeWhile_cons, if_pos (hl c (by simp)), ih (fun x hx => hl x (by simp [hx]))]
  exact h _ _ (decDigits_star u) ht
theorem nodup_len {α : Type} [DecidableEq α] : ∀ (l m : List α), l.Nodup → (∀ x ∈ l, x ∈ m) → l.length ≤ m.length := by
  intro l
  induction l with
  | nil => intro m _ _; exact Nat.zero_le _
  | cons x l ih =>
    intro m hd hs
    have hx : x ∈ m := hs x (by simp)
    have hd' := List.nodup_cons.1 hd
    have := ih (m.erase x) hd'.2 (fun y hy => by
      have hne : y ≠ x := fun e => hd'.1 (e ▸ hy)
      exact (List.mem_erase_of_ne hne).2 (hs y (by simp [hy])))
    rw [List.length_erase_of_mem hx] at this
    have hpos : 0 < m.length := List.length_pos_of_mem hx
    simp
    omega
theorem getV_mem {ps : List Prm} {nm v : List UInt8} (h : getV ps nm = some v) : nm ∈ ps.map (·.1) := by
  unfold getV at h
  cases hf : ps.find? (fun p => p.1 == nm) with
  | none => rw [hf] at h; cases h
  | some p =>
    have h1 := List.mem_of_find?_eq_some hf
    have h2 := List.find?_some hf
    have h3 : p.1 = nm := by simpa using h2
    rw [← h3]
    exact List.mem_map_of_mem h1
/-- No more pieces than parameters. -/
theorem pieces_few (ps : List Prm) (b : List UInt8) (n : Nat) (h : ∀ k, k < n → (pieceL ps b k).isSome = true) : n ≤ ps.length := by
  have hname : ∀ k, k < n → ∃ t, (t = [] ∨ t = [42]) ∧ b ++ [42] ++ Lib.decDigits k ++ t ∈ ps.map (·.1) := by
    intro k hk
    have := h k hk
    unfold pieceL at this
    split at this
    · next v hv =>
      exact ⟨[], .inl rfl, by rw [List.append_nil]; exact getV_mem hv⟩
    · cases hg : getV ps (b ++ [42] ++ Lib.decDigits k ++ [42]) with
      | none => rw [hg] at this; cases this
      | some v => exact ⟨[42], .inr rfl, getV_mem hg⟩
  have hex : ∃ f : Nat → List UInt8, ∀ k, k < n → f k ∈ ps.map (·.1) ∧ ∃ t, (t = [] ∨ t = [42]) ∧ f k = b ++ [42] ++ Lib.decDigits k ++ t := by
    refine ⟨fun k => if hk : k < n then b ++ [42] ++ Lib.decDigits k ++ (hname k hk).choose else [], fun k hk => ?_⟩
    simp only [hk, dif_pos]
    have := (hname k hk).choose_spec
    exact ⟨this.2, _, this.1, rfl⟩
  obtain ⟨f, hf⟩ := hex
  have hinj : ∀ i j, i < n → j < n → f i = f j → i = j := by
    intro i j hi hj e
    obtain ⟨_, t1, ht1, e1⟩ := hf i hi
    obtain ⟨_, t2, ht2, e2⟩ := hf j hj
    rw [e1, e2, List.append_assoc, List.append_assoc (b ++ [42])] at e
    have e3 := List.append_cancel_left e
    have e4 := congrArg (List.takeWhile (fun c => c != 42)) e3
    rw [take_digits i t1 ht1, take_digits j t2 ht2] at e4
    exact decDigits_inj e4
  have hl := nodup_len ((List.range n).map f) (ps.map (·.1)) (by
    rw [List.nodup_iff_pairwise_ne, List.pairwise_map]
    refine List.Pairwise.imp_of_mem ?_ (List.nodup_iff_pairwise_ne.1 List.nodup_range)
    intro i j hi hj hne e
    exact hne (hinj i j (List.mem_range.1 hi) (List.mem_range.1 hj) e)) (by
    intro x hx
    obtain ⟨k, hk, rfl⟩ := List.mem_map.1 hx
    exact (hf k (List.mem_range.1 hk)).1)
  simpa using hl
theorem pieceL_small {ps : List Prm} (h : smallP ps) {b v : List UInt8} {n : Nat} (hv : pieceL ps b n = some v) : v.length ≤ 1000000 := by
  unfold pieceL at hv
  split at hv
  · next x hx => cases hv; exact getV_small h hx
  · cases hg : getV ps (b ++ [42] ++ Lib.decDigits n ++ [42]) with
    | none => rw [hg] at hv; cases hv
    | some x =>
      rw [hg] at hv
      have h1 := getV_small h hg
      have hv := Option.some.inj hv
      rw [← hv]
      have h2 := opn_len (if n = 0 then bareL x else x)
      have h3 := bareL_len x
      split at h2 <;> simp_all <;> omega
theorem pcsL_end {ps : List Prm} {b : List UInt8} {f n : Nat} (h : pieceL ps b n = none) : pcsL ps b f n = [] := by
  cases f with
  | zero => rfl
  | succ f => show (match pieceL ps b n with | none => [] | some v => v ++ pcsL ps b f (n + 1)) = []; rw [h]
theorem pcsL_step {ps : List Prm} {b v : List UInt8} {f n : Nat} (h : pieceL ps b n = some v) : pcsL ps b (f + 1) n = v ++ pcsL ps b f (n + 1) := by
  show (match pieceL ps b n with | none => [] | some v => v ++ pcsL ps b f (n + 1)) = _
  rw [h]

set_option maxRecDepth 100000 in
set_option maxHeartbeats 4000000 in
theorem given_any (v : Value) (bm : Nat) (ps : List Prm) (Bs : ByteArray) (w : World) (hv : prmAt w v ps) (hm : MapIs w bm ps) (hps : smallP ps) (hpl : ps.length ≤ 100000) (hb : Bs.size ≤ 1000000) (he : env w) :
    Calls Tryz.prog 67 #[.agg #[v, .map (some bm)], .string Bs] w fun e w' => e = .returned (getOV (toldL ps Bs.data.toList)) ∧ Below w.heap.size w w' := by
  obtain ⟨Ns, hNs⟩ : ∃ N : ByteArray, N = Bs ++ ⟨#[42]⟩ := ⟨_, rfl⟩
  have hSl : Ns.data.toList = Bs.data.toList ++ [42] := by rw [hNs, cat_toList]
  have hSs : Ns.size ≤ 1000100 := by rw [← len_toList, hNs, cat_toList]; simp; omega
  have HN2 : Hid (Bs ++ ⟨#[42]⟩ = Ns) := hNs.symm
  have HE := Lib.hid he
  have HV := Lib.hid hv
  have HM := Lib.hid hm
  have HP1 := Lib.hid (fun W h1 h2 => prPlainB v bm ps Bs W h1 h2 (by omega))
  have HP2 := Lib.hid (fun W h1 h2 => prPlainB v bm ps Ns W h1 h2 (by omega))
  have HPc := Lib.hid (fun n W h1 h2 hn h => piece_any v bm ps Bs n W h1 h2 hps hb hn h)
  rw [hSl] at HP2
  obtain ⟨L, hL⟩ : ∃ l, l = Bs.data.toList := ⟨_, rfl⟩
  rw [← hL] at HP1 HP2 HPc ⊢
  have HTo : Hid (toldL ps L = match getV ps L with | some v => some v | none => match getV ps (L ++ [42]) with | some v => some (opn (bareL v)) | none => if (pieceL ps L 0).isSome then some (pcsL ps L (ps.length + 1) 0) else none) := rfl
  obtain ⟨ao, cap, rfl, _, _, _⟩ := hv
  clear hSl hNs he hm hL
  go_enter Tryz.func67, Tryz.ntmps67
  go_wp2_with fail
  have HB0 : Hid (Below w.heap.size w (w.alloc (.cells #[.slice ao ps.length cap, .map (some bm)] 135))) := (Below.refl _ _).alloc (Nat.le_refl _) _
  have HP1' := Lib.hid (HP1.out _ (prmAt.below HV.out HB0.out) (MapIs.below HM.out HB0.out))
  clear HP1
  cases h1 : getV ps L with
  | some x =>
    rw [h1] at HP1' HTo
    clear h1
    with_reducible refine HP1'.out.mono ?_
    rintro e w1 ⟨rfl, hb1⟩
    have HB1 := Lib.hid (HB0.out.trans (hb1.mono (by simp)))
    clear hb1
    unfold getOV
    go_wp2_with fail
    go_ret2
    exact ⟨by rw [HTo.out]; rfl, HB1.out⟩
  | none =>
    rw [h1] at HP1' HTo
    clear h1
    with_reducible refine HP1'.out.mono ?_
    rintro e w1 ⟨rfl, hb1⟩
    have HB1 := Lib.hid (HB0.out.trans (hb1.mono (by simp)))
    obtain ⟨c0, c1⟩ := box2_cells hb1
    have hlt1 : w.heap.size < w1.heap.size := World.block_lt_of_cell? _ _ c0
    clear hb1 HP1'
    unfold getOV
    have HP2' := Lib.hid (HP2.out w1 (prmAt.below HV.out HB1.out) (MapIs.below HM.out HB1.out))
    clear HP2
    go_wp2_with fail
    rw [HN2.out]
    cases h2 : getV ps (L ++ [42]) with
    | some x =>
      rw [h2] at HP2' HTo
      have hx := getV_small hps h2
      have HOp := Lib.hid (fun W h => opened_l (bareL x) W (by have := bareL_len x; omega) h)
      have HBm := Lib.hid (fun W => behindMarks_l x W (by omega))
      clear h2
      with_reducible refine HP2'.out.mono ?_
      rintro e w2 ⟨rfl, hb2⟩
      have HB2 := Lib.hid (HB1.out.trans (hb2.mono HB1.out.size))
      clear hb2 c0 c1
      unfold getOV
      go_wp2_with fail
      with_reducible refine (HBm.out _).mono ?_
      rintro e w4 ⟨rfl, hb4⟩
      have HB4 := Lib.hid (HB2.out.trans (hb4.mono HB2.out.size))
      clear hb4
      go_wp2_with fail
      with_reducible refine (HOp.out _ ?h2).mono ?_
      case h2 => exact (env.below HE.out HB4.out).2
      rintro e w5 ⟨rfl, hb5⟩
      have HB5 := Lib.hid (HB4.out.trans (hb5.mono HB4.out.size))
      clear hb5
      go_wp2_with fail
      go_ret2
      exact ⟨by rw [HTo.out]; rfl, HB5.out⟩
    | none =>
      rw [h2] at HP2' HTo
      clear h2
      with_reducible refine HP2'.out.mono ?_
      rintro e w2 ⟨rfl, hb2⟩
      have HB2 := Lib.hid (HB1.out.trans (hb2.mono HB1.out.size))
      replace c0 := (hb2.cell (p := ⟨w.heap.size, 0, none⟩) hlt1).trans c0
      replace c1 := (hb2.cell (p := ⟨w.heap.size, 1, none⟩) hlt1).trans c1
      have hlt2 : w.heap.size < w2.heap.size := World.block_lt_of_cell? _ _ c0
      have C0 := Lib.hid c0
      have C1 := Lib.hid c1
      have HWS := Lib.hid (fun bs (s : ByteArray) W h hlen hB => Tryz.Builder_WriteString_k w2.heap.size w2.heap.size bs s W h hlen hB)
      have HSt := Lib.hid (fun l W h hB => Tryz.Builder_String_any_k w2.heap.size w2.heap.size l W h hB)
      clear hb2 c0 c1 HB1 HP2'
      unfold getOV
      go_wp2_with fail
      go_loopg [11] ps.length (fun g v11 wr => ∃ (n : Nat) (acc : List UInt8), g = ps.length - n ∧ n ≤ ps.length ∧ v11 = .int .i64 (n : Int) ∧ acc.length ≤ n * 1000000 ∧ Hid (Lib.IsBuilderF 53 5 w2.heap.size w2.heap.size (Lib.byteCells acc) wr) ∧ Hid (Below w2.heap.size w2 wr) ∧
        Hid (∀ k, k < n → (pieceL ps L k).isSome = true) ∧ Hid (pcsL ps L (ps.length + 1) 0 = acc ++ pcsL ps L (ps.length + 1 - n) n))
      case atStart => exact ⟨0, [], by omega, by omega, rfl, by simp, builder_new w2, (Below.refl _ _).alloc (Nat.le_refl _) _, fun k hk => by omega, rfl⟩
      case round =>
        obtain ⟨n, acc, rfl, hn, rfl, hal, HBu, HBr, HAll, HS⟩ := hrel
        have c0 := (HBr.out.cell (p := ⟨w.heap.size, 0, none⟩) hlt2).trans C0.out
        have c1 := (HBr.out.cell (p := ⟨w.heap.size, 1, none⟩) hlt2).trans C1.out
        have HBw : Hid (Below w.heap.size w wr) := HB2.out.trans (HBr.out.mono HB2.out.size)
        have HP := Lib.hid (HPc.out n wr (prmAt.below HV.out HBw.out) (MapIs.below HM.out HBw.out) (by omega) (env.below HE.out HBw.out))
        cases h3 : pieceL ps L n with
        | none =>
          rw [h3] at HP
          have HSt1 := Lib.hid (fun W h hB => HSt.out acc W h hB)
          have HR : Hid (Ending.returned (.tuple #[.string ⟨acc.toArray⟩, .bool (decide ((0 : Int) < (n : Int)))]) = .returned (getOV (toldL ps L))) := by
            unfold Hid
            rw [HTo.out]
            by_cases h0 : n = 0
            · subst h0
              rw [h3]
              have : acc = [] := by
                have := HS.out
                simp at hal
                exact hal
              rw [this]
              rfl
            · rw [HAll.out 0 (by omega), HS.out, pcsL_end h3, List.append_nil, decide_eq_true (by omega)]
              rfl
          clear h3 hal
          go_wp2_with fail
          with_reducible refine HP.out.mono ?_
          rintro e w3 ⟨rfl, hb3⟩
          have HBu3 := Lib.hid (builder_below HBu.out hb3)
          have HB3 := Lib.hid (HBr.out.trans (hb3.mono HBr.out.size))
          clear hb3 c0 c1
          unfold getOV
          go_wp2_with fail
          with_reducible refine (HSt1.out _ HBu3.out HB3.out.size).mono ?_
          rintro e w4 ⟨rfl, _, hb4, _⟩
          have HB4 := Lib.hid (HB3.out.trans hb4)
          clear hb4
          go_wp2_with fail
          go_ret2
          refine ⟨Eq.trans ?_ HR.out, HB2.out.trans (HB4.out.mono HB2.out.size)⟩
          by_cases h0 : n = 0
          · subst h0; rfl
          · show Ending.returned (.tuple #[.string ⟨acc.toArray⟩, .bool (decide (0 < n))]) = _
            rw [decide_eq_true (by omega), decide_eq_true (by omega)]
        | some x =>
          rw [h3] at HP
          have hxs := pieceL_small hps h3
          have hn1 : n + 1 ≤ ps.length := pieces_few ps L (n + 1) (fun k hk => by
            by_cases e : k = n
            · rw [e, h3]; rfl
            · exact HAll.out k (by omega))
          have HAll' : Hid (∀ k, k < n + 1 → (pieceL ps L k).isSome = true) := fun k hk => by
            by_cases e : k = n
            · rw [e, h3]; rfl
            · exact HAll.out k (by omega)
          have HSx : Hid (pcsL ps L (ps.length + 1 - n) n = x ++ pcsL ps L (ps.length + 1 - (n + 1)) (n + 1)) := by
            unfold Hid
            rw [show ps.length + 1 - n = (ps.length + 1 - (n + 1)) + 1 by omega, pcsL_step h3]
          clear h3
          go_wp2_with fail
          with_reducible refine HP.out.mono ?_
          rintro e w3 ⟨rfl, hb3⟩
          have HBu3 := Lib.hid (builder_below HBu.out hb3)
          have HB3 := Lib.hid (HBr.out.trans (hb3.mono HBr.out.size))
          have HW3 := Lib.hid (HWS.out (Lib.byteCells acc) ⟨x.toArray⟩ w3 HBu3.out (by rw [byteCells_len, toArr_size]; omega) HB3.out.size)
          clear hb3 c0 c1
          unfold getOV
          go_wp2_with fail
          with_reducible refine HW3.out.mono ?_
          rintro e w4 ⟨rfl, hbu4, hb4, _⟩
          have HB4 := Lib.hid (HB3.out.trans hb4)
          have HBu4 := Lib.hid (Or.inr hbu4 : Lib.IsBuilderF 53 5 w2.heap.size w2.heap.size _ w4)
          clear hb4 hbu4
          go_wp2_with fail
          go_roundg (ps.length - (n + 1))
          case measure => omega
          case rel =>
            refine ⟨n + 1, acc ++ x, rfl, by omega, by go_num, by simp; omega, ?_, HB4.out, HAll'.out, ?_⟩
            · unfold Hid
              rw [byteCells_app, ← strCells_bytes x]
              exact HBu4.out
            · unfold Hid
              rw [HS.out, HSx.out, List.append_assoc]
end Go.Proofs.YtkmgflnmffdhjaaGreatDoor
