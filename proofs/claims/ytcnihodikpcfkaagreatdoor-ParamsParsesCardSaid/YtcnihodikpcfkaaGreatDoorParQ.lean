/- Contracts of package params: pieces, a base's value. -/
import Derived.Test.YtcnihodikpcfkaaGreatDoorParP
namespace Go.Proofs.YtcnihodikpcfkaaGreatDoor
open Go Go.RowKit

theorem arr_list (s : ByteArray) : (⟨s.data.toList.toArray⟩ : ByteArray) = s := bytes_eq rfl
theorem plainB (v : Value) (bm : Nat) (ps : List Prm) (nm : ByteArray) (w : World) (hv : prmAt w v ps) (hm : MapIs w bm ps) (hn : nm.size ≤ 1000000000) :
    Calls Tryz.prog 50 #[.agg #[v, .map (some bm)], .string nm] w fun e w' => e = .returned (getOV (getV ps nm.data.toList)) ∧ Below w.heap.size w w' := by
  have h := plain_any v bm ps nm.data.toList w hv hm (by rw [len_toList]; exact hn)
  rw [arr_list] at h
  exact h
theorem box2_cells {W W' : World} {t : TypeId} {a b : Value} (h : Below (W.alloc (.cells #[a, b] t)).heap.size (W.alloc (.cells #[a, b] t)) W') :
    W'.cell? ⟨W.heap.size, 0, none⟩ = some a ∧ W'.cell? ⟨W.heap.size, 1, none⟩ = some b := by
  have e : W'.heap[W.heap.size]? = some (.cells #[a, b] t (0, 0)) := (h.block _ (by simp)).trans (heap_alloc_new W _)
  simp [World.cell?, e]
/-- All is small. -/
def smallP (ps : List Prm) : Prop := ∀ p ∈ ps, p.1.length ≤ 1000000 ∧ p.2.length ≤ 1000000
theorem getV_small {ps : List Prm} (h : smallP ps) {nm v : List UInt8} (hv : getV ps nm = some v) : v.length ≤ 1000000 := by
  unfold getV at hv
  cases hf : ps.find? (fun p => p.1 == nm) with
  | none => rw [hf] at hv; cases hv
  | some p =>
    rw [hf] at hv
    cases hv
    exact (h p (List.mem_of_find?_eq_some hf)).2
theorem bareL_len (l : List UInt8) : (bareL l).length ≤ l.length := by
  unfold bareL
  have h1 := (List.dropWhile_sublist (fun c => c != 39) (l := l)).length_le
  split
  · next x r e =>
    rw [e] at h1
    simp at h1
    have h2 := (List.dropWhile_sublist (fun c => c != 39) (l := r)).length_le
    split
    · next y r2 e2 =>
      rw [e2] at h2
      simp at h2
      omega
    · exact Nat.le_refl _
  · exact Nat.le_refl _
theorem openL_len : ∀ (n : Nat) (l : List UInt8), (openL n l).length ≤ l.length := by
  intro n
  induction n with
  | zero => intro l; simp [openL]
  | succ n ih =>
    intro l
    cases l with
    | nil => simp [openL]
    | cons c l =>
      cases h : codeL (c :: l) with
      | some x =>
        rw [openL_code h]
        have := ih (l.drop 2)
        simp at this ⊢
        omega
      | none =>
        rw [openL_byte h]
        have := ih l
        simp
        omega
theorem opn_len (l : List UInt8) : (opn l).length ≤ l.length := openL_len _ _
theorem toArr_size (l : List UInt8) : (⟨l.toArray⟩ : ByteArray).size = l.length := rfl
theorem opened_l (l : List UInt8) (w : World) (hl : l.length ≤ 1000000000) (he : errAt w) :
    Calls Tryz.prog 51 #[.string ⟨l.toArray⟩] w fun e w' => e = .returned (.string ⟨(opn l).toArray⟩) ∧ Below w.heap.size w w' :=
  opened_any ⟨l.toArray⟩ w hl he
theorem behindMarks_l (l : List UInt8) (w : World) (hl : l.length ≤ 1000000000) :
    Calls Tryz.prog 52 #[.string ⟨l.toArray⟩] w fun e w' => e = .returned (.string ⟨(bareL l).toArray⟩) ∧ Below w.heap.size w w' :=
  behindMarks_any ⟨l.toArray⟩ w hl

set_option maxRecDepth 100000 in
set_option maxHeartbeats 4000000 in
theorem piece_any (v : Value) (bm : Nat) (ps : List Prm) (Bs : ByteArray) (n : Nat) (w : World) (hv : prmAt w v ps) (hm : MapIs w bm ps) (hps : smallP ps) (hb : Bs.size ≤ 1000000) (hn : n ≤ 1000000) (he : env w) :
    Calls Tryz.prog 53 #[.agg #[v, .map (some bm)], .string Bs, .int .i64 (n : Int)] w fun e w' => e = .returned (getOV (pieceL ps Bs.data.toList n)) ∧ Below w.heap.size w w' := by
  obtain ⟨Dg, hDg⟩ : ∃ D : ByteArray, D = ⟨(Lib.itoa (n : Int)).toArray⟩ := ⟨_, rfl⟩
  have hDl : Dg.data.toList = Lib.decDigits n := by rw [hDg]; show Lib.itoa (n : Int) = _; rw [Lib.itoa_nonneg]
  have hDs : Dg.size ≤ 20 := by
    have : Dg.size = (Lib.decDigits n).length := by rw [← hDl, len_toList]
    rw [this, Lib.decDigits_length]
    exact Lib.nDigits_le20 _ (by omega)
  have HDg := Lib.hid (fun W h => digits_any (n : Int) (by omega) (by omega) W h)
  rw [← hDg] at HDg
  obtain ⟨Nm, hNm⟩ : ∃ N : ByteArray, N = Bs ++ ⟨#[42]⟩ ++ Dg := ⟨_, rfl⟩
  have hNl : Nm.data.toList = Bs.data.toList ++ [42] ++ Lib.decDigits n := by rw [hNm, cat_toList, cat_toList, hDl]
  have hNs : Nm.size ≤ 1000100 := by rw [← len_toList, hNl]; simp [← hDl]; omega
  obtain ⟨Ns, hNs'⟩ : ∃ N : ByteArray, N = Nm ++ ⟨#[42]⟩ := ⟨_, rfl⟩
  have hSl : Ns.data.toList = Bs.data.toList ++ [42] ++ Lib.decDigits n ++ [42] := by rw [hNs', cat_toList, hNl]
  have hSs : Ns.size ≤ 1000200 := by rw [← len_toList, hNs', cat_toList]; simp; omega
  have HE := Lib.hid he
  have HV := Lib.hid hv
  have HM := Lib.hid hm
  have HP1 := Lib.hid (fun W h1 h2 => plainB v bm ps Nm W h1 h2 (by omega))
  have HP2 := Lib.hid (fun W h1 h2 => plainB v bm ps Ns W h1 h2 (by omega))
  rw [hNl] at HP1
  rw [hSl] at HP2
  have HN1 : Hid (Bs ++ ⟨#[42]⟩ ++ Dg = Nm) := hNm.symm
  have HN2 : Hid (Nm ++ ⟨#[42]⟩ = Ns) := hNs'.symm
  have HL : Hid (pieceL ps Bs.data.toList n = match getV ps (Bs.data.toList ++ [42] ++ Lib.decDigits n) with | some v => some v | none => (getV ps (Bs.data.toList ++ [42] ++ Lib.decDigits n ++ [42])).map (fun v => opn (if n = 0 then bareL v else v))) := rfl
  obtain ⟨L1, hL1⟩ : ∃ l, l = Bs.data.toList ++ [42] ++ Lib.decDigits n := ⟨_, rfl⟩
  rw [← hL1] at HP1 HP2 HL
  obtain ⟨ao, cap, rfl, _, _, _⟩ := hv
  clear hNl hSl hNm hNs' hDl hDg hL1 he hm
  go_enter Tryz.func53, Tryz.ntmps53
  go_wp2_with fail
  with_reducible refine (HDg.out _ ?h1).mono ?_
  case h1 => exact HE.out.1.below ((Below.refl _ _).alloc (Nat.le_refl _) _)
  rintro e w1 ⟨rfl, hb1⟩
  have HB1 : Hid (Below w.heap.size w w1) := ((Below.refl _ _).alloc (Nat.le_refl _) _).trans (hb1.mono (by simp))
  obtain ⟨c0, c1⟩ := box2_cells hb1
  clear hb1 HDg
  go_wp2_with fail
  rw [HN1.out]
  have hlt : w.heap.size < w1.heap.size := World.block_lt_of_cell? _ _ c0
  cases h1 : getV ps L1 with
  | some x =>
    rw [h1] at HP1 HL
    clear h1
    with_reducible refine (HP1.out w1 ?h1 ?h2).mono ?_
    case h1 => exact prmAt.below HV.out HB1.out
    case h2 => exact MapIs.below HM.out HB1.out
    rintro e w2 ⟨rfl, hb2⟩
    have HB2 := Lib.hid (HB1.out.trans (hb2.mono HB1.out.size))
    clear hb2
    unfold getOV
    go_wp2_with fail
    go_ret2
    exact ⟨by rw [HL.out]; rfl, HB2.out⟩
  | none =>
    rw [h1] at HP1 HL
    clear h1
    with_reducible refine (HP1.out w1 ?h1 ?h2).mono ?_
    case h1 => exact prmAt.below HV.out HB1.out
    case h2 => exact MapIs.below HM.out HB1.out
    rintro e w2 ⟨rfl, hb2⟩
    have HB2 := Lib.hid (HB1.out.trans (hb2.mono HB1.out.size))
    replace c0 := (hb2.cell (p := ⟨w.heap.size, 0, none⟩) hlt).trans c0
    replace c1 := (hb2.cell (p := ⟨w.heap.size, 1, none⟩) hlt).trans c1
    clear hb2 HB1 HP1
    unfold getOV
    have HP2' := Lib.hid (HP2.out w2 (prmAt.below HV.out HB2.out) (MapIs.below HM.out HB2.out))
    clear HP2
    obtain ⟨o, ho⟩ : ∃ o, o = getV ps (L1 ++ [42]) := ⟨_, rfl⟩
    rw [← ho] at HP2' HL
    obtain ⟨xv, xb, hxo, hxl, hxn⟩ : ∃ (xv : List UInt8) (xb : Bool), getOV o = .tuple #[.string ⟨xv.toArray⟩, .bool xb] ∧ xv.length ≤ 1000000 ∧
        (∀ m, getOV (o.map (fun v => opn (if m = 0 then bareL v else v))) = .tuple #[.string ⟨(opn (if m = 0 then bareL xv else xv)).toArray⟩, .bool xb]) := by
      cases o with
      | none => exact ⟨[], false, rfl, by simp, fun m => by split <;> rfl⟩
      | some x => exact ⟨x, true, rfl, getV_small hps ho.symm, fun m => rfl⟩
    rw [hxo] at HP2'
    have HXN : Hid (getOV (pieceL ps Bs.data.toList n) = .tuple #[.string ⟨(opn (if n = 0 then bareL xv else xv)).toArray⟩, .bool xb]) := by
      unfold Hid
      rw [HL.out]
      exact hxn n
    have HOp := Lib.hid (fun l W hl h => opened_l l W hl h)
    have HBm := Lib.hid (fun W => behindMarks_l xv W (by omega))
    clear hxo hxn ho HL
    go_wp2_with fail
    rw [HN2.out]
    with_reducible refine HP2'.out.mono ?_
    rintro e w3 ⟨rfl, hb3⟩
    have HB3 := Lib.hid (HB2.out.trans (hb3.mono HB2.out.size))
    clear hb3 HB2 HP2' c0 c1
    by_cases h0 : n = 0
    · rw [if_pos h0] at HXN
      have hn0 : ((n : Int) == 0) = true := beq_yes (by omega)
      have hbl := bareL_len xv
      go_wp2_with fail
      with_reducible refine (HBm.out _).mono ?_
      rintro e w4 ⟨rfl, hb4⟩
      have HB4 := Lib.hid (HB3.out.trans (hb4.mono HB3.out.size))
      clear hb4
      go_wp2_with fail
      with_reducible refine (HOp.out (bareL xv) _ ?h1 ?h2).mono ?_
      case h1 => exact (by omega)
      case h2 => exact (env.below HE.out HB4.out).2
      rintro e w5 ⟨rfl, hb5⟩
      have HB5 := Lib.hid (HB4.out.trans (hb5.mono HB4.out.size))
      clear hb5
      go_wp2_with fail
      go_ret2
      exact ⟨by rw [HXN.out]; rfl, HB5.out⟩
    · rw [if_neg h0] at HXN
      have hn0 : ((n : Int) == 0) = false := beq_no (by omega)
      go_wp2_with fail
      with_reducible refine (HOp.out xv _ ?h1 ?h2).mono ?_
      case h1 => exact (by omega)
      case h2 => exact (env.below HE.out HB3.out).2
      rintro e w5 ⟨rfl, hb5⟩
      have HB5 := Lib.hid (HB3.out.trans (hb5.mono HB3.out.size))
      clear hb5
      go_wp2_with fail
      go_ret2
      exact ⟨by rw [HXN.out]; rfl, HB5.out⟩
end Go.Proofs.YtcnihodikpcfkaaGreatDoor
