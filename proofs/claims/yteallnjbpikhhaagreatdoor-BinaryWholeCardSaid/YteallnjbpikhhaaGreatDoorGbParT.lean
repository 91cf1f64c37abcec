/- Contracts of package params: a base's value. -/
import Derived.Test.YteallnjbpikhhaaGreatDoorGbParQ
namespace Go.Proofs.YteallnjbpikhhaaGreatDoor
open Go Go.RowKit

theorem dig_toNat {d : Nat} (h : d < 10) : (UInt8.ofNat (48 + d)).toNat = 48 + d := by
  rw [UInt8.toNat_ofNat']
  omega
theorem decDigits_all (u : Nat) : (Lib.decDigits u).all isDig = true := by
  induction u using Nat.strongRecOn with
  | _ u ih =>
    rw [Lib.decDigits]
    split
    · rename_i h
      rw [List.all_cons, List.all_nil, Bool.and_true, isDig_iff, dig_toNat h]
      omega
    · rename_i h
      have hm : u % 10 < 10 := Nat.mod_lt _ (by decide)
      rw [List.all_append, ih (u / 10) (by omega), Bool.true_and, List.all_cons, List.all_nil, Bool.and_true, isDig_iff, dig_toNat hm]
      omega
theorem numOf_decDigits (u : Nat) : numOf (Lib.decDigits u) = u := by
  induction u using Nat.strongRecOn with
  | _ u ih =>
    rw [Lib.decDigits]
    split
    · rename_i h
      have := numOf_snoc [] (UInt8.ofNat (48 + u))
      rw [List.nil_append, dig_toNat h] at this
      rw [this]
      simp [numOf]
    · rename_i h
      have hm : u % 10 < 10 := Nat.mod_lt _ (by decide)
      rw [numOf_snoc, ih (u / 10) (by omega), dig_toNat hm]
      omega
theorem decDigits_inj {a b : Nat} (h : Lib.decDigits a = Lib.decDigits b) : a = b := by rw [← numOf_decDigits a, ← numOf_decDigits b, h]
theorem decDigits_star (u : Nat) : ∀ c ∈ Lib.decDigits u, (c != 42) = true := by
  intro c hc
  have h := List.all_eq_true.1 (decDigits_all u) c hc
  have h2 := (isDig_iff c).1 h
  have : c ≠ 42 := fun e => by rw [e] at h2; revert h2; decide
  simpa using this
theorem take_digits (u : Nat) (t : List UInt8) (ht : t = [] ∨ t = [42]) : (Lib.decDigits u ++ t).takeWhile (fun c => c != 42) = Lib.decDigits u := by
  have h : ∀ (l t : List UInt8), (∀ c ∈ l, (c != 42) = true) → t = [] ∨ t = [42] → (l ++ t).takeWhile (fun c => c != 42) = l := by
    intro l t hl ht
    induction l with
    | nil => rcases ht with rfl | rfl <;> rfl
    | cons c l ih =>
      rw [List.cons_append, List.takeWhile_cons, if_pos (hl c (by simp)), ih (fun x hx => hl x (by simp [hx]))]
  exact h _ _ (decDigits_star u) ht
theorem nodup_len {α : Type} [DecidableEq α] : ∀ (l m : List α), l.Nodup → (∀ x ∈ l, x ∈ m) → l.length ≤ m.length := by
  intro l
  induction l with
  | nil => intro m _ _; exact Nat.zero_le _
  | cons x l ih =>
    intro m hd hs
    have hx : x ∈ m := hs x (by simp)
    have hd' := List.nodup_cons.1 hd
    have := ih (m.erase x) hd'.2 (fun y hy => by
      have hne : y ≠ x := fun e => hd'.1 (e ▸ hy)
      exact (List.mem_erase_of_ne hne).2 (hs y (by simp [hy])))
    rw [List.length_erase_of_mem hx] at this
    have hpos : 0 < m.length := List.length_pos_of_mem hx
    simp
    omega
theorem getV_mem {ps : List Prm} {nm v : List UInt8} (h : getV ps nm = some v) : nm ∈ ps.map (·.1) := by
  unfold getV at h
  cases hf : ps.find? (fun p => p.1 == nm) with
  | none => rw [hf] at h; cases h
  | some p =>
    have h1 := List.mem_of_find?_eq_some hf
    have h2 := List.find?_some hf
    have h3 : p.1 = nm := by simpa using h2
    rw [← h3]
    exact List.mem_map_of_mem h1
/-- No more pieces than parameters. -/
theorem pieces_few (ps : List Prm) (b : List UInt8) (n : Nat) (h : ∀ k, k < n → (pieceL ps b k).isSome = true) : n ≤ ps.length := by
  have hname : ∀ k, k < n → ∃ t, (t = [] ∨ t = [42]) ∧ b ++ [42] ++ Lib.decDigits k ++ t ∈ ps.map (·.1) := by
    intro k hk
    have := h k hk
    unfold pieceL at this
    split at this
    · next v hv =>
      exact ⟨[], .inl rfl, by rw [List.append_nil]; exact getV_mem hv⟩
    · cases hg : getV ps (b ++ [42] ++ Lib.decDigits k ++ [42]) with
      | none => rw [hg] at this; cases this
      | some v => exact ⟨[42], .inr rfl, getV_mem hg⟩
  have hex : ∃ f : Nat → List UInt8, ∀ k, k < n → f k ∈ ps.map (·.1) ∧ ∃ t, (t = [] ∨ t = [42]) ∧ f k = b ++ [42] ++ Lib.decDigits k ++ t := by
    refine ⟨fun k => if hk : k < n then b ++ [42] ++ Lib.decDigits k ++ (hname k hk).choose else [], fun k hk => ?_⟩
    simp only [hk, dif_pos]
    have := (hname k hk).choose_spec
    exact ⟨this.2, _, this.1, rfl⟩
  obtain ⟨f, hf⟩ := hex
  have hinj : ∀ i j, i < n → j < n → f i = f j → i = j := by
    intro i j hi hj e
    obtain ⟨_, t1, ht1, e1⟩ := hf i hi
    obtain ⟨_, t2, ht2, e2⟩ := hf j hj
    rw [e1, e2, List.append_assoc, List.append_assoc (b ++ [42])] at e
    have e3 := List.append_cancel_left e
    have e4 := congrArg (List.takeWhile (fun c => c != 42)) e3
    rw [take_digits i t1 ht1, take_digits j t2 ht2] at e4
    exact decDigits_inj e4
  have hl := nodup_len ((List.range n).map f) (ps.map (·.1)) (by
    rw [List.nodup_iff_pairwise_ne, List.pairwise_map]
    refine List.Pairwise.imp_of_mem ?_ (List.nodup_iff_pairwise_ne.1 List.nodup_range)
    intro i j hi hj hne e
    exact hne (hinj i j (List.mem_range.1 hi) (List.mem_range.1 hj) e)) (by
    intro x hx
    obtain ⟨k, hk, rfl⟩ := List.mem_map.1 hx
    exact (hf k (List.mem_range.1 hk)).1)
  simpa using hl
theorem pieceL_small {ps : List Prm} (h : smallP ps) {b v : List UInt8} {n : Nat} (hv : pieceL ps b n = some v) : v.length ≤ 1000000 := by
  unfold pieceL at hv
  split at hv
  · next x hx => cases hv; exact getV_small h hx
  · cases hg : getV ps (b ++ [42] ++ Lib.decDigits n ++ [42]) with
    | none => rw [hg] at hv; cases hv
    | some x =>
      rw [hg] at hv
      have h1 := getV_small h hg
      have hv := Option.some.inj hv
      rw [← hv]
      have h2 := opn_len (if n = 0 then bareL x else x)
      have h3 := bareL_len x
      split at h2 <;> simp_all <;> omega
theorem pcsL_end {ps : List Prm} {b : List UInt8} {f n : Nat} (h : pieceL ps b n = none) : pcsL ps b f n = [] := by
  cases f with
  | zero => rfl
  | succ f => show (match pieceL ps b n with | none => [] | some v => v ++ pcsL ps b f (n + 1)) = []; rw [h]
theorem pcsL_step {ps : List Prm} {b v : List UInt8} {f n : Nat} (h : pieceL ps b n = some v) : pcsL ps b (f + 1) n = v ++ pcsL ps b f (n + 1) := by
  show (match pieceL ps b n with | none => [] | some v => v ++ pcsL ps b f (n + 1)) = _
  rw [h]

set_option maxRecDepth 100000 in
set_option maxHeartbeats 4000000 in
theorem given_any (v : Value) (bm : Nat) (ps : List Prm) (Bs : ByteArray) (w : World) (hv : prmAt w v ps) (hm : MapIs w bm ps) (hps : smallP ps) (hpl : ps.length ≤ 100000) (hb : Bs.size ≤ 1000000) (he : env w) :
    Calls Tryz.prog 96 #[.agg #[v, .map (some bm)], .string Bs] w fun e w' => e = .returned (getOV (toldL ps Bs.data.toList)) ∧ Below w.heap.size w w' := by
  obtain ⟨Ns, hNs⟩ : ∃ N : ByteArray, N = Bs ++ ⟨#[42]⟩ := ⟨_, rfl⟩
  have hSl : Ns.data.toList = Bs.data.toList ++ [42] := by rw [hNs, cat_toList]
  have hSs : Ns.size ≤ 1000100 := by rw [← len_toList, hNs, cat_toList]; simp; omega
  have HN2 : Hid (Bs ++ ⟨#[42]⟩ = Ns) := hNs.symm
  have HE := Lib.hid he
  have HV := Lib.hid hv
  have HM := Lib.hid hm
  have HP1 := Lib.hid (fun W h1 h2 => prPlainB v bm ps Bs W h1 h2 (by omega))
  have HP2 := Lib.hid (fun W h1 h2 => prPlainB v bm ps Ns W h1 h2 (by omega))
  have HPc := Lib.hid (fun n W h1 h2 hn h => piece_any v bm ps Bs n W h1 h2 hps hb hn h)
  rw [hSl] at HP2
  obtain ⟨L, hL⟩ : ∃ l, l = Bs.data.toList := ⟨_, rfl⟩
  rw [← hL] at HP1 HP2 HPc ⊢
  have HTo : Hid (toldL ps L = match getV ps L with | some v => some v | none => match getV ps (L ++ [42]) with | some v => some (opn (bareL v)) | none => if (pieceL ps L 0).isSome then some (pcsL ps L (ps.length + 1) 0) else none) := rfl
  obtain ⟨ao, cap, rfl, _, _, _⟩ := hv
  clear hSl hNs he hm hL
  go_enter Tryz.func96, Tryz.ntmps96
  go_wp2_with fail
  have HB0 : Hid (Below w.heap.size w (w.alloc (.cells #[.slice ao ps.length cap, .map (some bm)] 159))) := (Below.refl _ _).alloc (Nat.le_refl _) _
  have HP1' := Lib.hid (HP1.out _ (prmAt.below HV.out HB0.out) (MapIs.below HM.out HB0.out))
  clear HP1
  cases h1 : getV ps L with
  | some x =>
    rw [h1] at HP1' HTo
    clear h1
    with_reducible refine HP1'.out.mono ?_
    rintro e w1 ⟨rfl, hb1⟩
    have HB1 := Lib.hid (HB0.out.trans (hb1.mono (by simp)))
    clear hb1
    unfold getOV
    go_wp2_with fail
    go_ret2
    exact ⟨by rw [HTo.out]; rfl, HB1.out⟩
  | none =>
    rw [h1] at HP1' HTo
    clear h1
    with_reducible refine HP1'.out.mono ?_
    rintro e w1 ⟨rfl, hb1⟩
    have HB1 := Lib.hid (HB0.out.trans (hb1.mono (by simp)))
    obtain ⟨c0, c1⟩ := box2_cells hb1
    have hlt1 : w.heap.size < w1.heap.size := World.block_lt_of_cell? _ _ c0
    clear hb1 HP1'
    unfold getOV
    have HP2' := Lib.hid (HP2.out w1 (prmAt.below HV.out HB1.out) (MapIs.below HM.out HB1.out))
    clear HP2
    go_wp2_with fail
    rw [HN2.out]
    cases h2 : getV ps (L ++ [42]) with
    | some x =>
      rw [h2] at HP2' HTo
      have hx := getV_small hps h2
      have HOp := Lib.hid (fun W h => opened_l (bareL x) W (by have := bareL_len x; omega) h)
      have HBm := Lib.hid (fun W => behindMarks_l x W (by omega))
      clear h2
      with_reducible refine HP2'.out.mono ?_
      rintro e w2 ⟨rfl, hb2⟩
      have HB2 := Lib.hid (HB1.out.trans (hb2.mono HB1.out.size))
      clear hb2 c0 c1
      unfold getOV
      go_wp2_with fail
      with_reducible refine (HBm.out _).mono ?_
      rintro e w4 ⟨rfl, hb4⟩
      have HB4 := Lib.hid (HB2.out.trans (hb4.mono HB2.out.size))
      clear hb4
      go_wp2_with fail
      with_reducible refine (HOp.out _ ?h2).mono ?_
      case h2 => exact (env.below HE.out HB4.out).2
      rintro e w5 ⟨rfl, hb5⟩
      have HB5 := Lib.hid (HB4.out.trans (hb5.mono HB4.out.size))
      clear hb5
      go_wp2_with fail
      go_ret2
      exact ⟨by rw [HTo.out]; rfl, HB5.out⟩
    | none =>
      rw [h2] at HP2' HTo
      clear h2
      with_reducible refine HP2'.out.mono ?_
      rintro e w2 ⟨rfl, hb2⟩
      have HB2 := Lib.hid (HB1.out.trans (hb2.mono HB1.out.size))
      replace c0 := (hb2.cell (p := ⟨w.heap.size, 0, none⟩) hlt1).trans c0
      replace c1 := (hb2.cell (p := ⟨w.heap.size, 1, none⟩) hlt1).trans c1
      have hlt2 : w.heap.size < w2.heap.size := World.block_lt_of_cell? _ _ c0
      have C0 := Lib.hid c0
      have C1 := Lib.hid c1
      have HWS := Lib.hid (fun bs (s : ByteArray) W h hlen hB => Tryz.Builder_WriteString_k w2.heap.size w2.heap.size bs s W h hlen hB)
      have HSt := Lib.hid (fun l W h hB => Tryz.Builder_String_any_k w2.heap.size w2.heap.size l W h hB)
      clear hb2 c0 c1 HB1 HP2'
      unfold getOV
      go_wp2_with fail
      go_loopg [11] ps.length (fun g v11 wr => ∃ (n : Nat) (acc : List UInt8), g = ps.length - n ∧ n ≤ ps.length ∧ v11 = .int .i64 (n : Int) ∧ acc.length ≤ n * 1000000 ∧ Hid (Lib.IsBuilderF 121 5 w2.heap.size w2.heap.size (Lib.byteCells acc) wr) ∧ Hid (Below w2.heap.size w2 wr) ∧
        Hid (∀ k, k < n → (pieceL ps L k).isSome = true) ∧ Hid (pcsL ps L (ps.length + 1) 0 = acc ++ pcsL ps L (ps.length + 1 - n) n))
      case atStart => exact ⟨0, [], by omega, by omega, rfl, by simp, builder_new w2, (Below.refl _ _).alloc (Nat.le_refl _) _, fun k hk => by omega, rfl⟩
      case round =>
        obtain ⟨n, acc, rfl, hn, rfl, hal, HBu, HBr, HAll, HS⟩ := hrel
        have c0 := (HBr.out.cell (p := ⟨w.heap.size, 0, none⟩) hlt2).trans C0.out
        have c1 := (HBr.out.cell (p := ⟨w.heap.size, 1, none⟩) hlt2).trans C1.out
        have HBw : Hid (Below w.heap.size w wr) := HB2.out.trans (HBr.out.mono HB2.out.size)
        have HP := Lib.hid (HPc.out n wr (prmAt.below HV.out HBw.out) (MapIs.below HM.out HBw.out) (by omega) (env.below HE.out HBw.out))
        cases h3 : pieceL ps L n with
        | none =>
          rw [h3] at HP
          have HSt1 := Lib.hid (fun W h hB => HSt.out acc W h hB)
          have HR : Hid (Ending.returned (.tuple #[.string ⟨acc.toArray⟩, .bool (decide ((0 : Int) < (n : Int)))]) = .returned (getOV (toldL ps L))) := by
            unfold Hid
            rw [HTo.out]
            by_cases h0 : n = 0
            · subst h0
              rw [h3]
              have : acc = [] := by
                have := HS.out
                simp at hal
                exact hal
              rw [this]
              rfl
            · rw [HAll.out 0 (by omega), HS.out, pcsL_end h3, List.append_nil, decide_eq_true (by omega)]
              rfl
          clear h3 hal
          go_wp2_with fail
          with_reducible refine HP.out.mono ?_
          rintro e w3 ⟨rfl, hb3⟩
          have HBu3 := Lib.hid (builder_below HBu.out hb3)
          have HB3 := Lib.hid (HBr.out.trans (hb3.mono HBr.out.size))
          clear hb3 c0 c1
          unfold getOV
          go_wp2_with fail
          with_reducible refine (HSt1.out _ HBu3.out HB3.out.size).mono ?_
          rintro e w4 ⟨rfl, _, hb4, _⟩
          have HB4 := Lib.hid (HB3.out.trans hb4)
          clear hb4
          go_wp2_with fail
          go_ret2
          refine ⟨Eq.trans ?_ HR.out, HB2.out.trans (HB4.out.mono HB2.out.size)⟩
          by_cases h0 : n = 0
          · subst h0; rfl
          · show Ending.returned (.tuple #[.string ⟨acc.toArray⟩, .bool (decide (0 < n))]) = _
            rw [decide_eq_true (by omega), decide_eq_true (by omega)]
        | some x =>
          rw [h3] at HP
          have hxs := pieceL_small hps h3
          have hn1 : n + 1 ≤ ps.length := pieces_few ps L (n + 1) (fun k hk => by
            by_cases e : k = n
            · rw [e, h3]; rfl
            · exact HAll.out k (by omega))
          have HAll' : Hid (∀ k, k < n + 1 → (pieceL ps L k).isSome = true) := fun k hk => by
            by_cases e : k = n
            · rw [e, h3]; rfl
            · exact HAll.out k (by omega)
          have HSx : Hid (pcsL ps L (ps.length + 1 - n) n = x ++ pcsL ps L (ps.length + 1 - (n + 1)) (n + 1)) := by
            unfold Hid
            rw [show ps.length + 1 - n = (ps.length + 1 - (n + 1)) + 1 by omega, pcsL_step h3]
          clear h3
          go_wp2_with fail
          with_reducible refine HP.out.mono ?_
          rintro e w3 ⟨rfl, hb3⟩
          have HBu3 := Lib.hid (builder_below HBu.out hb3)
          have HB3 := Lib.hid (HBr.out.trans (hb3.mono HBr.out.size))
          have HW3 := Lib.hid (HWS.out (Lib.byteCells acc) ⟨x.toArray⟩ w3 HBu3.out (by rw [byteCells_len, toArr_size]; omega) HB3.out.size)
          clear hb3 c0 c1
          unfold getOV
          go_wp2_with fail
          with_reducible refine HW3.out.mono ?_
          rintro e w4 ⟨rfl, hbu4, hb4, _⟩
          have HB4 := Lib.hid (HB3.out.trans hb4)
          have HBu4 := Lib.hid (Or.inr hbu4 : Lib.IsBuilderF 121 5 w2.heap.size w2.heap.size _ w4)
          clear hb4 hbu4
          go_wp2_with fail
          go_roundg (ps.length - (n + 1))
          case measure => omega
          case rel =>
            refine ⟨n + 1, acc ++ x, rfl, by omega, by go_num, by simp; omega, ?_, HB4.out, HAll'.out, ?_⟩
            · unfold Hid
              rw [byteCells_app, ← strCells_bytes x]
              exact HBu4.out
            · unfold Hid
              rw [HS.out, HSx.out, List.append_assoc]
end Go.Proofs.YteallnjbpikhhaaGreatDoor

/- Contracts of package params: joined. -/
namespace Go.Proofs.YteallnjbpikhhaaGreatDoor
open Go Go.RowKit Go.Maps

theorem idx_snoc (ps : List Prm) (k : Nat) (h : k < ps.length) (nm : List UInt8) : idx (ps.take (k + 1)) nm = (idx (ps.take k) nm).or (if (ps[k]).1 == nm then some k else none) := by
  unfold idx
  rw [List.take_succ_eq_append_getElem h, List.findIdx?_append]
  congr 1
  by_cases e : ((ps[k]).1 == nm) = true
  · simp [List.findIdx?_cons, e]
    omega
  · have e' : ((ps[k]).1 == nm) = false := by simpa using e
    simp [List.findIdx?_cons, e']
theorem MapIs.gr {W W' : World} {bm B : Nat} {ps : List Prm} (h : MapIs W bm ps) (hb : Gr B W W') (hne : bm ≠ B) : MapIs W' bm ps := by
  obtain ⟨n, D, h1, h2, h3⟩ := h
  exact ⟨n, D, h1, h2.kept hb (fun e => hne (Option.some.inj e)), h3⟩
theorem isKey (l : List UInt8) : WideAt.IsKeyLit (.string l) := by trivial
theorem wf_k (k : Nat) (h : k ≤ 1000000000) : (Lit.int .i64 (k : Int)).wf = true := WalkArith.wf_i64 (by omega)
theorem elemK (k : Nat) (h : k ≤ 1000000000) : plainElem (H := Unit) Tryz.prog 3 (.int .i64 (k : Int)) = some (.lit (.int .i64 (k : Int)), []) := plainElem_int Tryz.underlying3 (wf_k k h)
theorem idx_snoc_none {ps : List Prm} {k : Nat} (h : k < ps.length) {nm : List UInt8} (hn : nm ≠ (ps[k]).1) : idx (ps.take (k + 1)) nm = idx (ps.take k) nm := by
  rw [idx_snoc ps k h, if_neg (by simpa using Ne.symm hn)]
  cases idx (ps.take k) nm <;> rfl
theorem idx_snoc_some {ps : List Prm} {k i : Nat} (h : k < ps.length) {nm : List UInt8} (hi : idx (ps.take k) nm = some i) : idx (ps.take (k + 1)) nm = some i := by
  rw [idx_snoc ps k h, hi]
  rfl
theorem idx_snoc_new {ps : List Prm} {k : Nat} (h : k < ps.length) (hi : idx (ps.take k) (ps[k]).1 = none) : idx (ps.take (k + 1)) (ps[k]).1 = some k := by
  rw [idx_snoc ps k h, hi, if_pos (by simp)]
  rfl
/-- What a map tells, in words of data. -/
def MapD (D : DataW Unit) (ps : List Prm) : Prop := ∀ nm, Maps.has D (.string nm) = (idx ps nm).isSome ∧ ∀ i, idx ps nm = some i → D.atKey (.string nm) (.lit (.int .i64 0)) = .lit (.int .i64 (i : Int))
theorem MapD.skip {D : DataW Unit} {ps : List Prm} {k : Nat} (h : MapD D (ps.take k)) (hk : k < ps.length) (hh : Maps.has D (.string (ps[k]).1) = true) : MapD D (ps.take (k + 1)) := by
  have h1 := (h (ps[k]).1).1
  rw [hh] at h1
  obtain ⟨i, hi⟩ := Option.isSome_iff_exists.1 h1.symm
  intro nm
  by_cases e : nm = (ps[k]).1
  · subst e
    rw [idx_snoc_some hk hi, ← hi]
    exact h _
  · rw [idx_snoc_none hk e]
    exact h nm
theorem MapD.put {D : DataW Unit} {ps : List Prm} {k : Nat} (h : MapD D (ps.take k)) (hk : k < ps.length) (hm : IsMap D) (hh : Maps.has D (.string (ps[k]).1) = false) : MapD (D.put (.string (ps[k]).1) (.lit (.int .i64 (k : Int)))) (ps.take (k + 1)) := by
  have h1 := (h (ps[k]).1).1
  rw [hh] at h1
  have hi : idx (ps.take k) (ps[k]).1 = none := by
    cases e : idx (ps.take k) (ps[k]).1 with
    | none => rfl
    | some x => rw [e] at h1; cases h1
  intro nm
  by_cases e : nm = (ps[k]).1
  · subst e
    rw [idx_snoc_new hk hi]
    refine ⟨has_put_same hm (isKey _) _, fun i hi => ?_⟩
    cases hi
    exact atKey_put_same hm (isKey _) _ _
  · have hne : (Lit.string nm) ≠ Lit.string (ps[k]).1 := fun h => e (Lit.string.inj h)
    rw [idx_snoc_none hk e, has_put_other hne]
    refine ⟨(h nm).1, fun i hi => ?_⟩
    rw [atKey_put_other hne]
    exact (h nm).2 i hi
theorem own_base2 {w : World} {base base' n size : Nat} {e : TypeId} {v : Value} {xs : List Value} (h : w.ownsRow base e size v n xs) (hb : base' ≤ base) : w.ownsRow base' e size v n xs := by
  refine ⟨h.1, ?_⟩
  rcases h.2 with h2 | ⟨g, cap, cur, hv, hg, r⟩
  · exact .inl h2
  · exact .inr ⟨g, cap, cur, hv, Nat.le_trans hb hg, r⟩
theorem prmAt.gr {W W' : World} {v : Value} {ps : List Prm} {w : World} {B : Nat} (h : prmAt w v ps) (hw : Below w.heap.size w W) (hB : w.heap.size ≤ B) (hg : Gr B W W') : prmAt W' v ps :=
  h.below (Below.grown hw hg hw.size (by intro k hk; cases hk; exact hB))

set_option maxRecDepth 100000 in
set_option maxHeartbeats 4000000 in
theorem joined_any (v : Value) (ps : List Prm) (w : World) (hv : prmAt w v ps) (hps : smallP ps) (hpl : ps.length ≤ 100000) (he : env w) :
    Calls Tryz.prog 72 #[v] w fun e w' => ∃ u, e = .returned u ∧ w'.ownsRow w.heap.size 161 2 u (joinL ps).length (prmCells (joinL ps)) ∧ Below w.heap.size w w' := by
  have HV := Lib.hid hv
  have HE := Lib.hid he
  obtain ⟨ao, cap, rfl, hcl, hcm, hcell⟩ := hv
  unfold maxLen at hcm
  clear he hcell
  obtain ⟨i0, hi, hz⟩ := Option.map_eq_some_iff.1 Tryz.infoPrm
  simp only [Prod.mk.injEq] at hz
  obtain ⟨hz0, hz1, hz2⟩ := hz
  have hmm := @run_makeMap Tryz.prog
  go_enter Tryz.func72, Tryz.ntmps72
  go_wp2_with fail
  obtain ⟨W0, hW0⟩ : ∃ W0, W0 = (w.alloc (.map #[] 0)).alloc (.cells #[.slice ao ps.length cap, .map (some w.heap.size)] 159) := ⟨_, rfl⟩
  rw [← hW0]
  have HB0 : Hid (Below w.heap.size w W0) := by rw [hW0]; exact ((Below.refl _ _).alloc (Nat.le_refl _) _).alloc (by simp) _
  have HO0 : Hid (W0.ownsMap (H := Unit) Tryz.prog 9 (plainElem Tryz.prog 3) w.heap.size 0 (.map [])) := by rw [hW0]; exact (World.ownsMap_made _ _ _ _).alloc _
  have HR0 : Hid (W0.heap[w.heap.size + 1]? = some (.cells #[.slice ao ps.length cap, .map (some w.heap.size)] 159 (0, 0))) := by
    unfold Hid
    rw [hW0]
    have := heap_alloc_new (w.alloc (.map #[] 0)) (.cells #[.slice ao ps.length cap, .map (some w.heap.size)] 159)
    simpa using this
  obtain ⟨bm, hbm⟩ : ∃ bm, bm = w.heap.size := ⟨_, rfl⟩
  rw [← hbm] at HO0 HR0 ⊢
  have hbw : w.heap.size ≤ bm := by omega
  clear hW0 hbm
  go_loopg [24] ps.length (fun g v24 wr => ∃ (k n : Nat) (D : DataW Unit), g = ps.length - k ∧ k ≤ ps.length ∧ v24 = .int .i64 (k : Int) ∧ n ≤ k ∧ Hid (wr.ownsMap Tryz.prog 9 (plainElem Tryz.prog 3) bm n D) ∧ Hid (MapD D (ps.take k)) ∧ Hid (Gr bm W0 wr))
  case atStart => exact ⟨0, 0, .map [], by omega, by omega, rfl, Nat.le_refl _, HO0.out, fun nm => ⟨rfl, fun i h => by cases h⟩, Gr.refl _ _⟩
  case round =>
    obtain ⟨k, n, D, rfl, hk, rfl, hnk, HO, HD, HG⟩ := hrel
    by_cases hlt : k < ps.length
    · have hpr := prmAt.gr HV.out HB0.out hbw HG.out
      obtain ⟨_, _, e0, _, _, hc⟩ := hpr
      cases e0
      rcases hc with h0 | ⟨g, rfl, hg, hcc⟩
      · rw [h0] at hlt
        simp at hlt
      · obtain ⟨d0, d1⟩ := hcc k hlt
        have hrow := HG.out.row (g := bm + 1) (by omega) HR0.out
        have hrl : bm + 1 < wr.heap.size := (Array.getElem?_eq_some_iff.1 hrow).1
        have r0 : wr.cell? ⟨bm + 1, 0, none⟩ = some (.slice (some ⟨g, 0, none⟩) ps.length cap) := by simp [World.cell?, hrow]
        have r1 : wr.cell? ⟨bm + 1, 1, none⟩ = some (.map (some bm)) := by simp [World.cell?, hrow]
        have hsm := (hps ps[k] (List.getElem_mem hlt)).1
        have HK := Lib.hid (keyStr (ps[k]).1 (by omega))
        have hma : ¬ bm + 1 = wr.heap.size := by omega
        obtain ⟨nm, hnm⟩ : ∃ nm, nm = (ps[k]).1 := ⟨_, rfl⟩
        have HNm := Lib.hid hnm
        rw [← hnm] at d0 HK hsm
        obtain ⟨vl, hvl⟩ : ∃ vl, vl = (ps[k]).2 := ⟨_, rfl⟩
        rw [← hvl] at d1
        have hA : Below wr.heap.size wr (wr.alloc (.cells #[.string ⟨nm.toArray⟩, .string ⟨vl.toArray⟩] 161)) := (Below.refl _ _).alloc (Nat.le_refl _) _
        have s1 := (hA.cell (p := ⟨bm + 1, 1, none⟩) hrl).trans r1
        have HA := Lib.hid hA
        clear hcc hrow hnm hvl hA r0
        rcases Bool.eq_false_or_eq_true (Maps.has D (.string nm)) with hh | hh
        · have HH := Lib.hid hh
          clear hh
          go_wp2_with (at_lookup; refine wpList_lookup_own_ok_int _ rfl _ _ 157 rfl 9 3 .i64 keyLaw Tryz.underlying157 Tryz.underlying3 (zeroInt _) bm n D rfl (HO.out.alloc _) _ _ rfl HK.out ?_; intro c hat hwc; rw [HH.out])
          go_roundg (ps.length - (k + 1))
          case measure => omega
          case rel =>
            refine ⟨k + 1, n, D, rfl, by omega, by go_num, by omega, HO.out.alloc _, ?_, HG.out.below HA.out⟩
            exact HD.out.skip hlt (by rw [← HNm.out]; exact HH.out)
        · have HH := Lib.hid hh
          have HEl := Lib.hid (elemK k (by omega))
          clear hh
          go_wp2_with (first
            | (at_lookup; refine wpList_lookup_own_ok_int _ rfl _ _ 157 rfl 9 3 .i64 keyLaw Tryz.underlying157 Tryz.underlying3 (zeroInt _) bm n D rfl (HO.out.alloc _) _ _ rfl HK.out ?_; intro c hat hwc; rw [HH.out])
            | (at_mapUpdate; refine wpList_mapUpdate_own _ rfl _ _ _ 157 rfl 9 3 keyLaw Tryz.underlying157 (plainElem Tryz.prog 3) bm n D rfl (HO.out.alloc _) (by unfold maxLen; omega) _ _ _ rfl rfl HK.out _ [] HEl.out ?_; intro w4 hown4 hgrow4))
          have HG4 := Lib.hid ((HG.out.below HA.out).trans hgrow4)
          have HO4 := Lib.hid hown4
          clear hgrow4 hown4
          go_roundg (ps.length - (k + 1))
          case measure => omega
          case rel =>
            refine ⟨k + 1, n + 1, _, rfl, by omega, by go_num, by omega, HO4.out, ?_, HG4.out⟩
            have := HD.out.put hlt HO.out.isMap (by rw [← HNm.out]; exact HH.out)
            unfold Hid
            rw [← HNm.out] at this
            exact this
    · have hkl : k = ps.length := by omega
      subst hkl
      have HM : Hid (MapIs wr bm ps) := by
        refine ⟨n, D, hnk, HO.out, ?_⟩
        have := HD.out
        rw [List.take_length] at this
        exact this
      have hrow := HG.out.row (g := bm + 1) (by omega) HR0.out
      have HBw : Hid (Below w.heap.size w wr) := Below.grown HB0.out HG.out HB0.out.size (by intro k hk; cases hk; exact hbw)
      have HRow := Lib.hid hrow
      have hrl : bm + 1 < wr.heap.size := (Array.getElem?_eq_some_iff.1 hrow).1
      clear hrow HD HO HG HR0 HO0 HB0 hnk
      obtain ⟨tm, htm⟩ : ∃ tm, tm = wr.heap.size := ⟨_, rfl⟩
      obtain ⟨W2, hW2⟩ : ∃ W2, W2 = wr.alloc (.map #[] 0) := ⟨_, rfl⟩
      have HB2 : Hid (Below w.heap.size w W2) := by rw [hW2]; exact HBw.out.alloc HBw.out.size _
      have hA2 : Below wr.heap.size wr W2 := by rw [hW2]; exact (Below.refl _ _).alloc (Nat.le_refl _) _
      have HM2 := Lib.hid (HM.out.below hA2)
      have HRow2 : Hid (W2.heap[bm + 1]? = _) := Lib.hid ((hA2.block (bm + 1) hrl).trans HRow.out)
      have HT2 : Hid (W2.ownsMap (H := Unit) Tryz.prog 9 unitElem tm 0 (.map [])) := by rw [hW2, htm]; exact World.ownsMap_made _ _ _ _
      have hs2 : W2.heap.size = tm + 1 := by rw [hW2, htm]; simp
      have HW2 : Hid (wr.alloc (.map #[] 0) = W2) := hW2.symm
      have hbt : bm + 1 < tm := by omega
      have HTm : Hid (wr.heap.size = tm) := htm.symm
      have hwt : w.heap.size ≤ tm := by omega
      clear hW2 htm HM HRow hA2 HBw hrl
      go_wp2_with fail
      rw [HW2.out, HTm.out]
      clear HW2 HTm
      go_loopg [8, 48] ps.length (fun g v8 v48 wr => ∃ (k n : Nat) (D : DataW Unit) (acc : List Prm), g = ps.length - k ∧ k ≤ ps.length ∧ v48 = .int .i64 (k : Int) ∧ n ≤ k ∧ acc.length ≤ k ∧ wr.ownsRow W2.heap.size 161 2 v8 acc.length (prmCells acc) ∧
        Hid (wr.ownsMap Tryz.prog 9 unitElem tm n D) ∧ Hid (∀ nm, nm ≠ [] → Maps.has D (.string nm) = decide (nm ∈ (ps.take k).map (fun p => baseL p.1))) ∧ Hid (Gr tm W2 wr) ∧ Hid (joinL ps = acc ++ joinA ps ((ps.take k).map (fun p => baseL p.1)).reverse (ps.drop k)))
      case atStart => exact ⟨0, 0, .map [], [], by omega, by omega, rfl, Nat.le_refl _, Nat.le_refl _, World.ownsRow_nil _ _ _ _, HT2.out, fun nm _ => by rfl, Gr.refl _ _, rfl⟩
      case round =>
        obtain ⟨k, n, D, acc, rfl, hk, rfl, hnk, hak, hown, HO, HD, HG, HJ⟩ := hrel
        have HOw := Lib.hid hown
        have HBq : Hid (Below w.heap.size w wr) := Below.grown HB2.out HG.out HB2.out.size (by intro k hk; cases hk; exact hwt)
        clear hown
        by_cases hlt : k < ps.length
        · have hpr := prmAt.gr HV.out HB2.out hwt HG.out
          obtain ⟨_, _, e0, _, _, hc⟩ := hpr
          cases e0
          rcases hc with h0 | ⟨g, rfl, hg, hcc⟩
          · rw [h0] at hlt
            simp at hlt
          · obtain ⟨d0, d1⟩ := hcc k hlt
            have hsm := (hps ps[k] (List.getElem_mem hlt)).1
            have HStep : Hid (ps.drop k = ps[k] :: ps.drop (k + 1)) := List.drop_eq_getElem_cons hlt
            have HTake : Hid ((ps.take (k + 1)).map (fun p => baseL p.1) = (ps.take k).map (fun p => baseL p.1) ++ [baseL (ps[k]).1]) := by
              unfold Hid
              rw [List.take_succ_eq_append_getElem hlt, List.map_append]
              rfl
            obtain ⟨p, hp⟩ : ∃ p, p = ps[k] := ⟨_, rfl⟩
            have HP := Lib.hid hp
            rw [← hp] at d0 d1 HStep HTake hsm
            obtain ⟨nm, vl⟩ := p
            obtain ⟨T, hT⟩ : ∃ T : ByteArray, T = ⟨(baseL nm).toArray⟩ := ⟨_, rfl⟩
            have hTl : T.data.toList = baseL nm := by rw [hT]
            have hbl : (baseL nm).length ≤ 1000000 := Nat.le_trans (List.takeWhile_sublist _).length_le hsm
            have hTs : T.size ≤ 1000000 := by rw [hT]; exact hbl
            have HK : Hid (keyOf Tryz.prog 9 (.string T) = some (.string (baseL nm))) := by rw [hT]; exact keyStr (baseL nm) (by omega)
            have HCu := Lib.hid (fun W => cut_any ⟨nm.toArray⟩ W (by rw [toArr_size]; exact Nat.le_trans hsm (by omega)))
            have eT : (⟨(baseL (⟨nm.toArray⟩ : ByteArray).data.toList).toArray⟩ : ByteArray) = T := hT.symm
            rw [eT] at HCu
            have hA : Below wr.heap.size wr (wr.alloc (.cells #[.string ⟨nm.toArray⟩, .string ⟨vl.toArray⟩] 161)) := (Below.refl _ _).alloc (Nat.le_refl _) _
            have HA := Lib.hid hA
            have HTl := Lib.hid hTl
            clear hcc hp hA hT eT hTl
            go_wp2_with fail
            with_reducible refine (HCu.out _).mono ?_
            rintro e w3 ⟨a, b, rfl, hb3⟩
            have HB3 : Hid (Below wr.heap.size wr w3) := HA.out.trans (hb3.mono (by simp))
            have HO3 := Lib.hid (HO.out.kept (row := none) ⟨HB3.out.os, HB3.out.tape, HB3.out.output, HB3.out.size, fun k hk _ => HB3.out.block k hk⟩ (by simp))
            have hz69 : (zeroValue 164).run Tryz.prog w3 = .ok (.agg #[]) w3 := by kernel_rfl
            have HZ := Lib.hid hz69
            clear hb3 hz69 d0 d1
            have HG3 := Lib.hid (HG.out.below HB3.out)
            have HW3 := Lib.hid (ownsRow_below HOw.out HB3.out)
            have hT1 : (baseL nm = [] ∧ T.toList.isEmpty = true ∧ (T.toList == []) = true) ∨ (baseL nm ≠ [] ∧ T.toList.isEmpty = false ∧ (T.toList == []) = false) := by
              by_cases e : baseL nm = []
              · left
                have hsz : T.size = 0 := by rw [← len_toList, HTl.out, e]; rfl
                have h1 := (toList_nil_iff T).2 hsz
                exact ⟨e, by rw [h1]; rfl, by rw [h1]; rfl⟩
              · right
                have hsz : T.size ≠ 0 := fun h => e (by rw [← HTl.out]; exact List.eq_nil_of_length_eq_zero (by rw [len_toList]; exact h))
                have h1 : T.toList ≠ [] := fun h => hsz ((toList_nil_iff T).1 h)
                exact ⟨e, by cases hx : T.toList with | nil => exact absurd hx h1 | cons a b => rfl, by simpa using h1⟩
            have HJs : Hid (∀ pre, joinA ps pre (ps.drop k) = if baseL nm = [] ∨ baseL nm ∈ pre then joinA ps (baseL nm :: pre) (ps.drop (k + 1)) else match toldL ps (baseL nm) with | some v => (baseL nm, v) :: joinA ps (baseL nm :: pre) (ps.drop (k + 1)) | none => joinA ps (baseL nm :: pre) (ps.drop (k + 1))) := fun pre => by
              rw [HStep.out]
              rfl
            have HRev : Hid (((ps.take (k + 1)).map (fun p => baseL p.1)).reverse = baseL nm :: ((ps.take k).map (fun p => baseL p.1)).reverse) := by
              unfold Hid
              rw [HTake.out, List.reverse_append]
              rfl
            obtain ⟨Lk, hLk⟩ : ∃ l, l = (ps.take k).map (fun p => baseL p.1) := ⟨_, rfl⟩
            rw [← hLk] at HD HJ HRev HTake
            have HA4 : Hid (Below w3.heap.size w3 (w3.alloc (.cells #[] 164))) := (Below.refl _ _).alloc (Nat.le_refl _) _
            clear hLk HCu HP HStep
            rcases Bool.eq_false_or_eq_true (Maps.has D (.string (baseL nm))) with hh | hh
            · have HH := Lib.hid hh
              have HJ' : Hid (joinL ps = acc ++ joinA ps (baseL nm :: Lk.reverse) (ps.drop (k + 1))) := by
                unfold Hid
                rw [HJ.out, HJs.out, if_pos]
                by_cases e : baseL nm = []
                · exact .inl e
                · right
                  have := HD.out (baseL nm) e
                  rw [HH.out] at this
                  rw [List.mem_reverse]
                  exact of_decide_eq_true this.symm
              have HD' : Hid (∀ nm', nm' ≠ [] → Maps.has D (.string nm') = decide (nm' ∈ Lk ++ [baseL nm])) := by
                intro nm' hne
                rw [HD.out nm' hne]
                by_cases e : nm' = baseL nm
                · have h1 := HD.out nm' hne
                  rw [e, HH.out, ← e] at h1
                  rw [← h1, eq_comm, decide_eq_true_eq]
                  simp [e]
                · simp [e]
              clear hh hT1
              go_wp2_with (at_lookup; refine wpList_lookup_own_unit _ rfl _ _ 163 rfl 9 164 keyLaw Tryz.underlying163 HZ.out tm n D rfl HO3.out _ _ rfl HK.out ?_; rw [HH.out])
              go_roundg (ps.length - (k + 1))
              case measure => omega
              case rel => exact ⟨k + 1, n, D, acc, rfl, by omega, by go_num, by omega, by omega, HW3.out.alloc _, HO3.out.alloc _, by rw [HTake.out]; exact HD'.out, HG3.out.below HA4.out, by rw [HRev.out]; exact HJ'.out⟩
            · have HH := Lib.hid hh
              rcases hT1 with ⟨hbe, hte, hte2⟩ | ⟨hbe, hte, hte2⟩
              · have HJ' : Hid (joinL ps = acc ++ joinA ps (baseL nm :: Lk.reverse) (ps.drop (k + 1))) := by
                  unfold Hid
                  rw [HJ.out, HJs.out, if_pos (.inl hbe)]
                have HD' : Hid (∀ nm', nm' ≠ [] → Maps.has D (.string nm') = decide (nm' ∈ Lk ++ [baseL nm])) := by
                  intro nm' hne
                  rw [HD.out nm' hne, hbe]
                  simp [hne]
                clear hh
                go_wp2_with (at_lookup; refine wpList_lookup_own_unit _ rfl _ _ 163 rfl 9 164 keyLaw Tryz.underlying163 HZ.out tm n D rfl HO3.out _ _ rfl HK.out ?_; rw [HH.out])
                go_roundg (ps.length - (k + 1))
                case measure => omega
                case rel => exact ⟨k + 1, n, D, acc, rfl, by omega, by go_num, by omega, by omega, HW3.out.alloc _, HO3.out.alloc _, by rw [HTake.out]; exact HD'.out, HG3.out.below HA4.out, by rw [HRev.out]; exact HJ'.out⟩
              · have HBe := Lib.hid hbe
                have HNot : Hid (¬ (baseL nm = [] ∨ baseL nm ∈ Lk.reverse)) := by
                  intro h
                  rcases h with h | h
                  · exact HBe.out h
                  · have := HD.out (baseL nm) HBe.out
                    rw [HH.out] at this
                    rw [List.mem_reverse] at h
                    rw [decide_eq_true h] at this
                    cases this
                have HD' : Hid (∀ nm', nm' ≠ [] → Maps.has (D.put (.string (baseL nm)) (.agg [])) (.string nm') = decide (nm' ∈ Lk ++ [baseL nm])) := by
                  intro nm' hne
                  by_cases e : nm' = baseL nm
                  · rw [e, has_put_same HO.out.isMap (isKey _), eq_comm, decide_eq_true_eq]
                    simp
                  · rw [has_put_other (fun h => e (Lit.string.inj h)), HD.out nm' hne]
                    simp [e]
                have HGv := Lib.hid (fun W h1 h2 h3 => given_any (.slice (some ⟨g, 0, none⟩) ps.length cap) bm ps T W h1 h2 hps hpl hTs h3)
                rw [HTl.out] at HGv
                clear hh hbe
                go_wp2_with (first
                  | (at_lookup; refine wpList_lookup_own_unit _ rfl _ _ 163 rfl 9 164 keyLaw Tryz.underlying163 HZ.out tm n D rfl HO3.out _ _ rfl HK.out ?_; rw [HH.out])
                  | (at_mapUpdate; refine wpList_mapUpdate_own _ rfl _ _ _ 163 rfl 9 164 keyLaw Tryz.underlying163 unitElem tm n D rfl (HO3.out.alloc _) (by unfold maxLen; omega) _ _ _ rfl rfl HK.out _ [] unitElem_mk ?_; intro w5 hown5 hgrow5
                     have HG5 := Lib.hid ((HG3.out.below HA4.out).trans hgrow5)
                     have hrow5 := HG5.out.row (g := bm + 1) (by omega) HRow2.out
                     have r0 : w5.cell? ⟨bm + 1, 0, none⟩ = some (.slice (some ⟨g, 0, none⟩) ps.length cap) := by simp [World.cell?, hrow5]
                     have r1 : w5.cell? ⟨bm + 1, 1, none⟩ = some (.map (some bm)) := by simp [World.cell?, hrow5]))
                have HO5 := Lib.hid hown5
                have HW5 := Lib.hid (ownsRow_gr (HW3.out.alloc (.cells #[] 164)) hgrow5 (by omega))
                have HB5 : Hid (Below w.heap.size w w5) := Below.grown HB2.out HG5.out HB2.out.size (by intro k hk; cases hk; exact hwt)
                have HGv5 := Lib.hid (HGv.out w5 (HV.out.below HB5.out) (HM2.out.gr HG5.out (by omega)) (env.below HE.out HB5.out))
                clear hown5 hgrow5 hrow5 r0 r1 HGv
                with_reducible refine HGv5.out.mono ?_
                rintro e w6 ⟨rfl, hb6⟩
                have HG6 := Lib.hid (HG5.out.below hb6)
                have HW6 := Lib.hid (ownsRow_below HW5.out hb6)
                have HO6 := Lib.hid (HO5.out.kept (row := none) ⟨hb6.os, hb6.tape, hb6.output, hb6.size, fun k hk _ => hb6.block k hk⟩ (by simp))
                have hsz6 := HG6.out.size
                clear hb6 HGv5 HW5 HO5 HG5
                cases hto : toldL ps (baseL nm) with
                | none =>
                  have HJ' : Hid (joinL ps = acc ++ joinA ps (baseL nm :: Lk.reverse) (ps.drop (k + 1))) := by
                    unfold Hid
                    rw [HJ.out, HJs.out, if_neg HNot.out, hto]
                  clear hto
                  unfold getOV
                  go_wp2_with fail
                  go_roundg (ps.length - (k + 1))
                  case measure => omega
                  case rel => exact ⟨k + 1, n + 1, _, acc, rfl, by omega, by go_num, by omega, by omega, HW6.out, HO6.out, by rw [HTake.out]; exact HD'.out, HG6.out, by rw [HRev.out]; exact HJ'.out⟩
                | some x =>
                  have HJ' : Hid (joinL ps = (acc ++ [(baseL nm, x)]) ++ joinA ps (baseL nm :: Lk.reverse) (ps.drop (k + 1))) := by
                    unfold Hid
                    rw [HJ.out, HJs.out, if_neg HNot.out, hto, List.append_assoc]
                    rfl
                  clear hto
                  have HC1 : Hid (∀ q u, [Value.string T, .string ⟨x.toArray⟩][q]? = some u → (w6.alloc (.cells #[.string T, .string ⟨x.toArray⟩] 161)).cell? ((⟨w6.heap.size, 0, none⟩ : Addr).add q) = some u) := cells_two_new w6 161 (.string T) (.string ⟨x.toArray⟩)
                  unfold getOV
                  go_wp2_with (at_builtin; refine wpList_append_own _ rfl _ _ 68 rfl W2.heap.size 161 i0 (.agg #[.string ⟨#[]⟩, .string ⟨#[]⟩]) 2 32 Tryz.underlying68 hi hz0 hz1 hz2 rfl (by decide) _ acc.length (prmCells acc) rfl (HW6.out.alloc _) ⟨w6.heap.size, 0, none⟩ 1 1 [.string T, .string ⟨x.toArray⟩] rfl rfl HC1.out (by simp [Value.oneCell']) (by unfold maxLen; omega) (by omega) (by simp; omega) ?_; intro v7 w7 hown7 hgrow7 _)
                  have HA7 : Below w6.heap.size w6 (w6.alloc (.cells #[.string T, .string ⟨x.toArray⟩] 161)) := (Below.refl _ _).alloc (Nat.le_refl _) _
                  have HG7 := Lib.hid (Gr.own (HG6.out.below HA7) hgrow7 (fun q hq => (HW6.out.lt q hq).1))
                  have HO7 := Lib.hid ((HO6.out.alloc (.cells #[.string T, .string ⟨x.toArray⟩] 161)).kept hgrow7 (by
                    intro e
                    have := (HW6.out.lt tm e.symm).1
                    omega))
                  have HW7 := Lib.hid hown7
                  clear hown7 hgrow7 HA7 HC1
                  go_roundg (ps.length - (k + 1))
                  case measure => omega
                  case rel =>
                    refine ⟨k + 1, n + 1, _, acc ++ [(baseL nm, x)], rfl, by omega, by go_num, by omega, by simp; omega, own_cast2 HW7.out (by simp) ?_, HO7.out, by rw [HTake.out]; exact HD'.out, HG7.out, by rw [HRev.out]; exact HJ'.out⟩
                    rw [prmCells_app, prmCells_one]
                    have : T = ⟨(baseL nm).toArray⟩ := bytes_eq (by rw [HTl.out])
                    rw [this]
        · have hkl : k = ps.length := by omega
          subst hkl
          have HF : Hid (joinL ps = acc) := by
            unfold Hid
            rw [HJ.out, List.drop_length]
            show acc ++ [] = acc
            rw [List.append_nil]
          go_wp2_with fail
          go_ret
          refine ⟨_, rfl, ?_, HBq.out⟩
          rw [HF.out]
          exact own_base2 HOw.out HB2.out.size
end Go.Proofs.YteallnjbpikhhaaGreatDoor

/- Contracts of package params: Parse, Get. -/
namespace Go.Proofs.YteallnjbpikhhaaGreatDoor
open Go Go.RowKit

theorem tokenL_small (l : List UInt8) : (tokenL l).1.length ≤ l.length := Nat.le_trans (tokL_len _) (skL_le l false 0)
theorem unqL_small : ∀ (l acc : List UInt8) (e : Bool) (p : List UInt8 × List UInt8), unqL e acc l = some p → p.1.length ≤ acc.length + l.length := by
  intro l
  induction l with
  | nil => intro acc e p h; cases e <;> simp [unqL] at h
  | cons c l ih =>
    intro acc e p h
    cases e
    · unfold unqL at h
      split at h
      · cases h; simp
      · split at h
        · have := ih _ _ _ h; simp; omega
        · have := ih _ _ _ h; simp at this ⊢; omega
    · have := ih (acc ++ [c]) false p h; simp at this ⊢; omega
theorem valueL_small {l : List UInt8} {p : List UInt8 × List UInt8} (h : valueL l = some p) : p.1.length ≤ l.length := by
  unfold valueL at h
  have hl := skL_le l false 0
  split at h
  · next c r e =>
    unfold sk at e
    rw [e] at hl
    simp at hl
    split at h
    · have := unqL_small _ _ _ _ h
      simp at this
      omega
    · split at h
      · cases h
      · cases h
        exact tokenL_small l
  · cases h
theorem parL_small {l : List UInt8} {p : Prm} {r : List UInt8} (h : parL l = some (p, r)) : p.1.length ≤ l.length ∧ p.2.length ≤ l.length := by
  unfold parL at h
  split at h
  · cases h
  · next l1 e1 =>
    have h1 := takeL_len e1
    have h1' := tokenL_small l1
    split at h
    · cases h
    · split at h
      · cases h
      · next l2 e2 =>
        have h2 := takeL_len e2
        have h3 := tokenL_len l1
        split at h
        · cases h
        · next v r' e3 =>
          have h4 : v.length ≤ l2.length := valueL_small e3
          cases h
          refine ⟨?_, by show v.length ≤ _; omega⟩
          show (foldS _).length ≤ _
          unfold foldS
          rw [List.length_map]
          omega
theorem parsL_small : ∀ (n : Nat) (l : List UInt8), ∀ p ∈ parsL n l, p.1.length ≤ l.length ∧ p.2.length ≤ l.length := by
  intro n
  induction n with
  | zero => intro l p hp; simp [parsL] at hp
  | succ n ih =>
    intro l p hp
    have e : parsL (n + 1) l = match parL l with | none => [] | some (p, r) => p :: parsL n r := rfl
    rw [e] at hp
    cases h : parL l with
    | none => rw [h] at hp; simp at hp
    | some x =>
      obtain ⟨q, r⟩ := x
      rw [h] at hp
      have h1 := parL_small h
      have h2 := parL_len h
      simp only [List.mem_cons] at hp
      rcases hp with rfl | hp
      · exact h1
      · have := ih r p hp
        omega

def valC (o : Option Val) (b : Bool) (t sb : List UInt8) (ps : List Prm) : Prop := match o with
  | some V => b = true ∧ t = V.type ∧ sb = V.sub ∧ ps = V.params
  | none => b = false ∧ t = [] ∧ sb = [] ∧ ps = []
def parsePost (o : Option Val) (w : World) (e : Ending) (w' : World) : Prop := ∃ t sb u ps b, e = .returned (.tuple #[.agg #[.string ⟨t.toArray⟩, .string ⟨sb.toArray⟩, u], .bool b]) ∧
  w'.ownsRow w.heap.size 161 2 u ps.length (prmCells ps) ∧ Below w.heap.size w w' ∧ valC o b t sb ps

set_option maxRecDepth 100000 in
set_option maxHeartbeats 4000000 in
theorem parse_false (s : ByteArray) (w : World) (hl : s.size ≤ 100000) (he : env w) :
    Calls Tryz.prog 43 #[.string s, .bool false] w (parsePost (parseL s.data.toList false) w) := by
  have HE := Lib.hid he
  clear he
  obtain ⟨W0, hW0⟩ : ∃ W0, W0 = (w.alloc (.cells #[.string ⟨#[]⟩, .string ⟨#[]⟩, .slice none 0 0] 70)).alloc (.cells #[.string s, .int .i64 0] 129) := ⟨_, rfl⟩
  have HB0 : Hid (Below w.heap.size w W0) := by rw [hW0]; exact ((Below.refl _ _).alloc (Nat.le_refl _) _).alloc (by simp) _
  have hnew : W0.heap[w.heap.size + 1]? = some (.cells #[.string s, .int .i64 0] 129 (0, 0)) := by
    rw [hW0]
    have := heap_alloc_new (w.alloc (.cells #[.string ⟨#[]⟩, .string ⟨#[]⟩, .slice none 0 0] 70)) (.cells #[.string s, .int .i64 0] 129)
    simpa using this
  have HR0 : Hid (Rd W0 (w.heap.size + 1) s 0) := ⟨by simp [World.cell?, hnew], by simp [World.cell?, hnew], by simp [World.frozen?, hnew]⟩
  have HRow0 : Hid (W0.heap[w.heap.size]? = some (.cells #[.string ⟨#[]⟩, .string ⟨#[]⟩, .slice none 0 0] 70 (0, 0))) := by
    unfold Hid
    rw [hW0, Below.heap_alloc _ _ _ (by simp)]
    exact heap_alloc_new _ _
  have HW0 : Hid (W0 = _) := hW0
  have HNm := Lib.hid (rdName_any (w.heap.size + 1) s 0 W0 HR0.out (by omega) (Nat.zero_le _))
  have HSb := Lib.hid (fun j W h hj => sub_any (w.heap.size + 1) s j W h (by omega) hj)
  have HPs := Lib.hid (fun j W h hj => params_any (w.heap.size + 1) s j W h (by omega) hj)
  rw [List.drop_zero] at HNm
  have hRB : w.heap.size ≠ w.heap.size + 1 := by omega
  obtain ⟨T, R, hTR⟩ : ∃ T R, tokenL s.data.toList = (T, R) := ⟨_, _, rfl⟩
  have HTR := Lib.hid hTR
  rw [hTR] at HNm
  have HLow : Hid (∀ W, Gr (w.heap.size + 1) W0 W → Below w.heap.size w W) := fun W h => Below.grown HB0.out h HB0.out.size (by intro k hk; cases hk; omega)
  have HSm : Hid (∀ j, smallP (parsL s.size (s.data.toList.drop j))) := fun j p hp => by
    have := parsL_small _ _ p hp
    rw [List.length_drop, len_toList] at this
    omega
  clear hW0 hnew hTR
  have hsz4 : ∀ W, Gr (w.heap.size + 1) W0 W → w.heap.size < W.heap.size := fun W h => by
    have h1 := HR0.out.lt
    have h2 := h.size
    omega
  by_cases hT : T = []
  · have HN : Hid (parseL s.data.toList false = none) := by
      unfold Hid parseL
      simp only [HTR.out]
      rw [if_pos hT]
    have hte : (foldS T).isEmpty = true := by rw [hT]; rfl
    clear hT
    go_enter Tryz.func43, Tryz.ntmps43
    go_wp2_with fail
    rw [← HW0.out]
    with_reducible refine HNm.out.mono ?_
    rintro e w1 ⟨rfl, k1, hR1, hk1, hD1, hG1⟩
    have HR1 := Lib.hid hR1
    have HG1 := Lib.hid hG1
    have HRow1 := Lib.hid (hG1.row hRB HRow0.out)
    have HD1 := Lib.hid hD1
    clear hR1 hG1 hD1 HRow0 HNm HW0 HR0
    unfold tokV
    rw [hte]
    go_wp2_with (refine wpList_store_row' rfl 70 (.tmp 4) (.tmp 26) rfl w.heap.size #[.string ⟨#[]⟩, .string ⟨#[]⟩, .slice none 0 0] rfl rfl 70 _ HRow1.out (by kernel_rfl) rfl (by kernel_rfl) ?_; intro WE hWE)
    (try simp only [Exit.inBlock, Exit.then])
    have hrow := setRow_heap _ w.heap.size _ #[.string ⟨#[]⟩, .string ⟨#[]⟩, .slice none 0 0] _ _ HRow1.out
    rw [← hWE.out] at hrow
    refine bodyPost_ret (results_row_tmp (P := Tryz.prog) Tryz.results43 _ _ w.heap.size 70 _ (0, 0) _ rfl hrow Tryz.underlying70 rfl rfl) rfl ?_
    refine ⟨[], [], .slice none 0 0, [], false, rfl, World.ownsRow_nil _ _ _ _, by rw [hWE.out]; exact below_setRow (HLow.out _ HG1.out) (Nat.le_refl _) _, ?_⟩
    rw [HN.out]
    exact ⟨rfl, rfl, rfl, rfl⟩
  · have hte : (foldS T).isEmpty = false := by unfold foldS; cases T with | nil => exact absurd rfl hT | cons a b => rfl
    have HTne := Lib.hid hT
    clear hT
    go_enter Tryz.func43, Tryz.ntmps43
    go_wp2_with fail
    rw [← HW0.out]
    with_reducible refine HNm.out.mono ?_
    rintro e w1 ⟨rfl, k1, hR1, hk1, hD1, hG1⟩
    have HR1 := Lib.hid hR1
    have HG1 := Lib.hid hG1
    have HRow1 := Lib.hid (hG1.row hRB HRow0.out)
    have HD1 := Lib.hid hD1
    clear hR1 hG1 hD1 HRow0 HNm HW0 HR0
    unfold tokV
    rw [hte]
    have HP1 := Lib.hid (HPs.out k1 _ HR1.out (by assumption))
    go_wp2_with fail
    with_reducible refine HP1.out.mono ?_
    rintro e w4 ⟨v, rfl, hown4, hpl4, hG4⟩
    have HG4 := Lib.hid (HG1.out.trans hG4)
    have HRow4 := Lib.hid (hG4.row hRB HRow1.out)
    have HPr4 := Lib.hid (prmAt_owned hown4)
    have HB4 := Lib.hid (HLow.out w4 HG4.out)
    have HJ := Lib.hid (joined_any v _ w4 HPr4.out (HSm.out k1) (by omega) (HE.out.below HB4.out))
    clear hown4 hG4 HP1 HPr4 hpl4
    go_wp2_with fail
    with_reducible refine HJ.out.mono ?_
    rintro e w5 ⟨u, rfl, hown5, hb5⟩
    have HW5 := Lib.hid hown5
    have HB5 := Lib.hid hb5
    have HRow5 := Lib.hid ((hb5.block w.heap.size (Array.getElem?_eq_some_iff.1 HRow4.out).1).trans HRow4.out)
    obtain ⟨uo, un, uc, rfl⟩ : ∃ a n c, u = .slice a n c := by
      rcases hown5.2 with ⟨h, _⟩ | ⟨g, cp, cur, h, _⟩
      · exact ⟨_, _, _, h⟩
      · exact ⟨_, _, _, h⟩
    clear hown5 hb5 HJ HRow4
    go_wp2_with (refine wpList_store_row' rfl 70 (.tmp 4) (.tmp 31) rfl w.heap.size #[.string ⟨(foldS T).toArray⟩, .string ⟨#[]⟩, .slice uo un uc] rfl rfl 70 _ HRow5.out (by kernel_rfl) rfl (by kernel_rfl) ?_; intro WE hWE)
    (try simp only [Exit.inBlock, Exit.then])
    have hrow := setRow_heap _ w.heap.size _ #[.string ⟨(foldS T).toArray⟩, .string ⟨#[]⟩, .slice uo un uc] _ _ HRow5.out
    rw [← hWE.out] at hrow
    refine bodyPost_ret (results_row_tmp (P := Tryz.prog) Tryz.results43 _ _ w.heap.size 70 _ (0, 0) _ rfl hrow Tryz.underlying70 rfl rfl) rfl ?_
    refine ⟨foldS T, [], .slice uo un uc, joinL (parsL s.size (s.data.toList.drop k1)), true, rfl, ?_, ?_, ?_⟩
    · rw [hWE.out]
      have h1 : (w5.setRow w.heap.size #[.string ⟨(foldS T).toArray⟩, .string ⟨#[]⟩, .slice uo un uc]).ownsRow w4.heap.size 161 2 (.slice uo un uc) _ _ :=
        HW5.out.kept (row := some w.heap.size) ⟨rfl, rfl, rfl, by rw [size_setRow]; exact Nat.le_refl _, fun k _ hk => setRow_other _ _ k _ (fun e => hk (by rw [e]))⟩ (by
          cases hv : (Value.slice uo un uc).ownBlock with
          | none => exact .inl rfl
          | some q =>
            refine .inr (fun e => ?_)
            have h2 := (HW5.out.lt q hv).1
            have h3 := Option.some.inj e
            have h4 := (Array.getElem?_eq_some_iff.1 HRow1.out).1
            have h5 := HG4.out.size
            have h6 := HB0.out.size
            have h7 : w.heap.size < w4.heap.size := hsz4 w4 HG4.out
            omega)
      exact own_base2 h1 HB4.out.size
    · rw [hWE.out]
      exact below_setRow (HB4.out.trans (HB5.out.mono HB4.out.size)) (Nat.le_refl _) _
    · rw [show parseL s.data.toList false = some ⟨foldS T, [], joinL (parsL R.length R)⟩ by
          unfold parseL
          simp only [HTR.out]
          rw [if_neg HTne.out]
          rfl]
      have hr : s.data.toList.drop k1 = R := HD1.out
      refine ⟨rfl, rfl, rfl, ?_⟩
      rw [hr]
      show joinL (parsL s.size R) = joinL (parsL R.length R)
      rw [parsL_same s.size R.length R (by rw [← hr, List.length_drop, len_toList]; omega) (Nat.le_refl _)]

set_option maxRecDepth 100000 in
set_option maxHeartbeats 4000000 in
theorem parse_true (s : ByteArray) (w : World) (hl : s.size ≤ 100000) (he : env w) :
    Calls Tryz.prog 43 #[.string s, .bool true] w (parsePost (parseL s.data.toList true) w) := by
  have HE := Lib.hid he
  clear he
  obtain ⟨W0, hW0⟩ : ∃ W0, W0 = (w.alloc (.cells #[.string ⟨#[]⟩, .string ⟨#[]⟩, .slice none 0 0] 70)).alloc (.cells #[.string s, .int .i64 0] 129) := ⟨_, rfl⟩
  have HB0 : Hid (Below w.heap.size w W0) := by rw [hW0]; exact ((Below.refl _ _).alloc (Nat.le_refl _) _).alloc (by simp) _
  have hnew : W0.heap[w.heap.size + 1]? = some (.cells #[.string s, .int .i64 0] 129 (0, 0)) := by
    rw [hW0]
    have := heap_alloc_new (w.alloc (.cells #[.string ⟨#[]⟩, .string ⟨#[]⟩, .slice none 0 0] 70)) (.cells #[.string s, .int .i64 0] 129)
    simpa using this
  have HR0 : Hid (Rd W0 (w.heap.size + 1) s 0) := ⟨by simp [World.cell?, hnew], by simp [World.cell?, hnew], by simp [World.frozen?, hnew]⟩
  have HRow0 : Hid (W0.heap[w.heap.size]? = some (.cells #[.string ⟨#[]⟩, .string ⟨#[]⟩, .slice none 0 0] 70 (0, 0))) := by
    unfold Hid
    rw [hW0, Below.heap_alloc _ _ _ (by simp)]
    exact heap_alloc_new _ _
  have HW0 : Hid (W0 = _) := hW0
  have HNm := Lib.hid (rdName_any (w.heap.size + 1) s 0 W0 HR0.out (by omega) (Nat.zero_le _))
  have HSb := Lib.hid (fun j W h hj => sub_any (w.heap.size + 1) s j W h (by omega) hj)
  have HPs := Lib.hid (fun j W h hj => params_any (w.heap.size + 1) s j W h (by omega) hj)
  rw [List.drop_zero] at HNm
  have hRB : w.heap.size ≠ w.heap.size + 1 := by omega
  obtain ⟨T, R, hTR⟩ : ∃ T R, tokenL s.data.toList = (T, R) := ⟨_, _, rfl⟩
  have HTR := Lib.hid hTR
  rw [hTR] at HNm
  have HLow : Hid (∀ W, Gr (w.heap.size + 1) W0 W → Below w.heap.size w W) := fun W h => Below.grown HB0.out h HB0.out.size (by intro k hk; cases hk; omega)
  have HSm : Hid (∀ j, smallP (parsL s.size (s.data.toList.drop j))) := fun j p hp => by
    have := parsL_small _ _ p hp
    rw [List.length_drop, len_toList] at this
    omega
  clear hW0 hnew hTR
  have hsz4 : ∀ W, Gr (w.heap.size + 1) W0 W → w.heap.size < W.heap.size := fun W h => by
    have h1 := HR0.out.lt
    have h2 := h.size
    omega
  by_cases hT : T = []
  · have HN : Hid (parseL s.data.toList true = none) := by
      unfold Hid parseL
      simp only [HTR.out]
      rw [if_pos hT]
    have hte : (foldS T).isEmpty = true := by rw [hT]; rfl
    clear hT
    go_enter Tryz.func43, Tryz.ntmps43
    go_wp2_with fail
    rw [← HW0.out]
    with_reducible refine HNm.out.mono ?_
    rintro e w1 ⟨rfl, k1, hR1, hk1, hD1, hG1⟩
    have HR1 := Lib.hid hR1
    have HG1 := Lib.hid hG1
    have HRow1 := Lib.hid (hG1.row hRB HRow0.out)
    have HD1 := Lib.hid hD1
    clear hR1 hG1 hD1 HRow0 HNm HW0 HR0
    unfold tokV
    rw [hte]
    go_wp2_with (refine wpList_store_row' rfl 70 (.tmp 4) (.tmp 26) rfl w.heap.size #[.string ⟨#[]⟩, .string ⟨#[]⟩, .slice none 0 0] rfl rfl 70 _ HRow1.out (by kernel_rfl) rfl (by kernel_rfl) ?_; intro WE hWE)
    (try simp only [Exit.inBlock, Exit.then])
    have hrow := setRow_heap _ w.heap.size _ #[.string ⟨#[]⟩, .string ⟨#[]⟩, .slice none 0 0] _ _ HRow1.out
    rw [← hWE.out] at hrow
    refine bodyPost_ret (results_row_tmp (P := Tryz.prog) Tryz.results43 _ _ w.heap.size 70 _ (0, 0) _ rfl hrow Tryz.underlying70 rfl rfl) rfl ?_
    refine ⟨[], [], .slice none 0 0, [], false, rfl, World.ownsRow_nil _ _ _ _, by rw [hWE.out]; exact below_setRow (HLow.out _ HG1.out) (Nat.le_refl _) _, ?_⟩
    rw [HN.out]
    exact ⟨rfl, rfl, rfl, rfl⟩
  · have hte : (foldS T).isEmpty = false := by unfold foldS; cases T with | nil => exact absurd rfl hT | cons a b => rfl
    have HTne := Lib.hid hT
    clear hT
    go_enter Tryz.func43, Tryz.ntmps43
    go_wp2_with fail
    rw [← HW0.out]
    with_reducible refine HNm.out.mono ?_
    rintro e w1 ⟨rfl, k1, hR1, hk1, hD1, hG1⟩
    have HR1 := Lib.hid hR1
    have HG1 := Lib.hid hG1
    have HRow1 := Lib.hid (hG1.row hRB HRow0.out)
    have HD1 := Lib.hid hD1
    clear hR1 hG1 hD1 HRow0 HNm HW0 HR0
    unfold tokV
    rw [hte]
    have HD1' : Hid (s.data.toList.drop k1 = R) := HD1.out
    have HSb1 := Lib.hid (HSb.out k1 w1 HR1.out hk1)
    rw [HD1'.out] at HSb1
    cases hsu : subL R with
    | none =>
      rw [hsu] at HSb1
      have HN : Hid (parseL s.data.toList true = none) := by
        unfold Hid parseL
        simp only [HTR.out]
        rw [if_neg HTne.out]
        simp only [hsu, if_true]
      clear hsu
      unfold subV at HSb1
      go_wp2_with fail
      with_reducible refine HSb1.out.mono ?_
      rintro e w2 ⟨rfl, k2, hR2, hk2, _, hG2⟩
      have HG2 := Lib.hid (HG1.out.trans hG2)
      have HRow2 := Lib.hid (hG2.row hRB HRow1.out)
      clear hR2 hG2 HSb1
      go_wp2_with (refine wpList_store_row' rfl 70 (.tmp 4) (.tmp 26) rfl w.heap.size #[.string ⟨#[]⟩, .string ⟨#[]⟩, .slice none 0 0] rfl rfl 70 _ HRow2.out (by kernel_rfl) rfl (by kernel_rfl) ?_; intro WE hWE)
      (try simp only [Exit.inBlock, Exit.then])
      have hrow := setRow_heap _ w.heap.size _ #[.string ⟨#[]⟩, .string ⟨#[]⟩, .slice none 0 0] _ _ HRow2.out
      rw [← hWE.out] at hrow
      refine bodyPost_ret (results_row_tmp (P := Tryz.prog) Tryz.results43 _ _ w.heap.size 70 _ (0, 0) _ rfl hrow Tryz.underlying70 rfl rfl) rfl ?_
      refine ⟨[], [], .slice none 0 0, [], false, rfl, World.ownsRow_nil _ _ _ _, by rw [hWE.out]; exact below_setRow (HLow.out _ HG2.out) (Nat.le_refl _) _, ?_⟩
      rw [HN.out]
      exact ⟨rfl, rfl, rfl, rfl⟩
    | some p =>
      obtain ⟨sv, R2⟩ := p
      rw [hsu] at HSb1
      have HN : Hid (parseL s.data.toList true = some ⟨foldS T, sv, joinL (parsL R2.length R2)⟩) := by
        unfold Hid parseL
        simp only [HTR.out]
        rw [if_neg HTne.out]
        simp only [hsu, if_true]
      clear hsu
      unfold subV at HSb1
      go_wp2_with fail
      with_reducible refine HSb1.out.mono ?_
      rintro e w2 ⟨rfl, k2, hR2, hk2, hD2, hG2⟩
      have HR2 := Lib.hid hR2
      have HG2 := Lib.hid (HG1.out.trans hG2)
      have HRow2 := Lib.hid (hG2.row hRB HRow1.out)
      have HD2 : Hid (s.data.toList.drop k2 = R2) := hD2 sv R2 rfl
      clear hR2 hG2 hD2 HSb1
      have HP1 := Lib.hid (HPs.out k2 _ HR2.out (by assumption))
      go_wp2_with fail
      with_reducible refine HP1.out.mono ?_
      rintro e w4 ⟨v, rfl, hown4, hpl4, hG4⟩
      have HG4 := Lib.hid (HG2.out.trans hG4)
      have HRow4 := Lib.hid (hG4.row hRB HRow2.out)
      have HPr4 := Lib.hid (prmAt_owned hown4)
      have HB4 := Lib.hid (HLow.out w4 HG4.out)
      have HJ := Lib.hid (joined_any v _ w4 HPr4.out (HSm.out k2) (by omega) (HE.out.below HB4.out))
      clear hown4 hG4 HP1 HPr4 hpl4
      go_wp2_with fail
      with_reducible refine HJ.out.mono ?_
      rintro e w5 ⟨u, rfl, hown5, hb5⟩
      have HW5 := Lib.hid hown5
      have HB5 := Lib.hid hb5
      have HRow5 := Lib.hid ((hb5.block w.heap.size (Array.getElem?_eq_some_iff.1 HRow4.out).1).trans HRow4.out)
      obtain ⟨uo, un, uc, rfl⟩ : ∃ a n c, u = .slice a n c := by
        rcases hown5.2 with ⟨h, _⟩ | ⟨g, cp, cur, h, _⟩
        · exact ⟨_, _, _, h⟩
        · exact ⟨_, _, _, h⟩
      clear hown5 hb5 HJ HRow4
      go_wp2_with (refine wpList_store_row' rfl 70 (.tmp 4) (.tmp 31) rfl w.heap.size #[.string ⟨(foldS T).toArray⟩, .string ⟨sv.toArray⟩, .slice uo un uc] rfl rfl 70 _ HRow5.out (by kernel_rfl) rfl (by kernel_rfl) ?_; intro WE hWE)
      (try simp only [Exit.inBlock, Exit.then])
      have hrow := setRow_heap _ w.heap.size _ #[.string ⟨(foldS T).toArray⟩, .string ⟨sv.toArray⟩, .slice uo un uc] _ _ HRow5.out
      rw [← hWE.out] at hrow
      refine bodyPost_ret (results_row_tmp (P := Tryz.prog) Tryz.results43 _ _ w.heap.size 70 _ (0, 0) _ rfl hrow Tryz.underlying70 rfl rfl) rfl ?_
      refine ⟨foldS T, sv, .slice uo un uc, joinL (parsL s.size (s.data.toList.drop k2)), true, rfl, ?_, ?_, ?_⟩
      · rw [hWE.out]
        have h1 : (w5.setRow w.heap.size #[.string ⟨(foldS T).toArray⟩, .string ⟨sv.toArray⟩, .slice uo un uc]).ownsRow w4.heap.size 161 2 (.slice uo un uc) _ _ :=
          HW5.out.kept (row := some w.heap.size) ⟨rfl, rfl, rfl, by rw [size_setRow]; exact Nat.le_refl _, fun k _ hk => setRow_other _ _ k _ (fun e => hk (by rw [e]))⟩ (by
            cases hv : (Value.slice uo un uc).ownBlock with
            | none => exact .inl rfl
            | some q =>
              refine .inr (fun e => ?_)
              have h2 := (HW5.out.lt q hv).1
              have h3 := Option.some.inj e
              have h4 := (Array.getElem?_eq_some_iff.1 HRow1.out).1
              have h5 := HG4.out.size
              have h6 := HB0.out.size
              have h7 : w.heap.size < w4.heap.size := hsz4 w4 HG4.out
              omega)
        exact own_base2 h1 HB4.out.size
      · rw [hWE.out]
        exact below_setRow (HB4.out.trans (HB5.out.mono HB4.out.size)) (Nat.le_refl _) _
      · rw [HN.out]
        have hr : s.data.toList.drop k2 = R2 := HD2.out
        refine ⟨rfl, rfl, rfl, ?_⟩
        rw [hr]
        show joinL (parsL s.size R2) = joinL (parsL R2.length R2)
        rw [parsL_same s.size R2.length R2 (by rw [← hr, List.length_drop, len_toList]; omega) (Nat.le_refl _)]

theorem parse_any (s : ByteArray) (two : Bool) (w : World) (hl : s.size ≤ 100000) (he : env w) :
    Calls Tryz.prog 43 #[.string s, .bool two] w (parsePost (parseL s.data.toList two) w) := by
  cases two
  · exact parse_false s w hl he
  · exact parse_true s w hl he
end Go.Proofs.YteallnjbpikhhaaGreatDoor
