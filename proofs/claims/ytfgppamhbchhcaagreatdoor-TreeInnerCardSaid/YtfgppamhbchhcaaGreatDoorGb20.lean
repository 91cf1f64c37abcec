/- Contracts of package params: a base's value. -/
import Derived.Test.YtfgppamhbchhcaaGreatDoorGb19
namespace Go.Proofs.YtfgppamhbchhcaaGreatDoor
open Go Go.RowKit

theorem dig_toNat {d : Nat} (h : d < 10) : (UInt8.ofNat (48 + d)).toNat = 48 + d := by
  rw [UInt8.toNat_ofNat']
  omega
theorem decDigits_all (u : Nat) : (Lib.decDigits u).all isDig = true := by
  induction u using Nat.strongRecOn with
  | _ u ih =>
    rw [Lib.decDigits]
    split
    · rename_i h
      rw [List.all_cons, List.all_nil, Bool.and_true, isDig_iff, dig_toNat h]
      omega
    · rename_i h
      have hm : u % 10 < 10 := Nat.mod_lt _ (by decide)
      rw [List.all_append, ih (u / 10) (by omega), Bool.true_and, List.all_cons, List.all_nil, Bool.and_true, isDig_iff, dig_toNat hm]
      omega
theorem numOf_decDigits (u : Nat) : numOf (Lib.decDigits u) = u := by
  induction u using Nat.strongRecOn with
  | _ u ih =>
    rw [Lib.decDigits]
    split
    · rename_i h
      have := numOf_snoc [] (UInt8.ofNat (48 + u))
      rw [List.nil_append, dig_toNat h] at this
      rw [this]
      simp [numOf]
    · rename_i h
      have hm : u % 10 < 10 := Nat.mod_lt _ (by decide)
      rw [numOf_snoc, ih (u / 10) (by omega), dig_toNat hm]
      omega
theorem decDigits_inj {a b : Nat} (h : Lib.decDigits a = Lib.decDigits b) : a = b := by rw [← numOf_decDigits a, ← numOf_decDigits b, h]
theorem decDigits_star (u : Nat) : ∀ c ∈ Lib.decDigits u, (c != 42) = true := by
  intro c hc
  have h := List.all_eq_true.1 (decDigits_all u) c hc
  have h2 := (isDig_iff c).1 h
  have : c ≠ 42 := fun e => by rw [e] at h2; revert h2; decide
  simpa using this
theorem take_digits (u : Nat) (t : List UInt8) (ht : t = [] ∨ t = [42]) : (Lib.decDigits u ++ t).takeWhile (fun c => c != 42) = Lib.decDigits u := by
  have h : ∀ (l t : List UInt8), (∀ c ∈ l, (c != 42) = true) → t = [] ∨ t = [42] → (l ++ t).takeWhile (fun c => c != 42) = l := by
    intro l t hl ht
    induction l with
    | nil => rcases ht with rfl | rfl <;> rfl
    | cons c l ih =>
      rw [List.cons_append, List.takeWhile_cons, if_pos (hl c (by simp)), ih (fun x hx => hl x (by simp [hx]))]
  exact h _ _ (decDigits_star u) ht
theorem nodup_len {α : Type} [DecidableEq α] : ∀ (l m : List α), l.Nodup → (∀ x ∈ l, x ∈ m) → l.length ≤ m.length := by
  intro l
  induction l with
  | nil => intro m _ _; exact Nat.zero_le _
  | cons x l ih =>
    intro m hd hs
    have hx : x ∈ m := hs x (by simp)
    have hd' := List.nodup_cons.1 hd
    have := ih (m.erase x) hd'.2 (fun y hy => by
      have hne : y ≠ x := fun e => hd'.1 (e ▸ hy)
      exact (List.mem_erase_of_ne hne).2 (hs y (by simp [hy])))
    rw [List.length_erase_of_mem hx] at this
    have hpos : 0 < m.length := List.length_pos_of_mem hx
    simp
    omega
theorem getV_mem {ps : List Prm} {nm v : List UInt8} (h : getV ps nm = some v) : nm ∈ ps.map (·.1) := by
  unfold getV at h
  cases hf : ps.find? (fun p => p.1 == nm) with
  | none => rw [hf] at h; cases h
  | some p =>
    have h1 := List.mem_of_find?_eq_some hf
    have h2 := List.find?_some hf
    have h3 : p.1 = nm := by simpa using h2
    rw [← h3]
    exact List.mem_map_of_mem h1
/-- No more pieces than parameters. -/
theorem pieces_few (ps : List Prm) (b : List UInt8) (n : Nat) (h : ∀ k, k < n → (pieceL ps b k).isSome = true) : n ≤ ps.length := by
  have hname : ∀ k, k < n → ∃ t, (t = [] ∨ t = [42]) ∧ b ++ [42] ++ Lib.decDigits k ++ t ∈ ps.map (·.1) := by
    intro k hk
    have := h k hk
    unfold pieceL at this
    split at this
    · next v hv =>
      exact ⟨[], .inl rfl, by rw [List.append_nil]; exact getV_mem hv⟩
    · cases hg : getV ps (b ++ [42] ++ Lib.decDigits k ++ [42]) with
      | none => rw [hg] at this; cases this
      | some v => exact ⟨[42], .inr rfl, getV_mem hg⟩
  have hex : ∃ f : Nat → List UInt8, ∀ k, k < n → f k ∈ ps.map (·.1) ∧ ∃ t, (t = [] ∨ t = [42]) ∧ f k = b ++ [42] ++ Lib.decDigits k ++ t := by
    refine ⟨fun k => if hk : k < n then b ++ [42] ++ Lib.decDigits k ++ (hname k hk).choose else [], fun k hk => ?_⟩
    simp only [hk, dif_pos]
    have := (hname k hk).choose_spec
    exact ⟨this.2, _, this.1, rfl⟩
  obtain ⟨f, hf⟩ := hex
  have hinj : ∀ i j, i < n → j < n → f i = f j → i = j := by
    intro i j hi hj e
    obtain ⟨_, t1, ht1, e1⟩ := hf i hi
    obtain ⟨_, t2, ht2, e2⟩ := hf j hj
    rw [e1, e2, List.append_assoc, List.append_assoc (b ++ [42])] at e
    have e3 := List.append_cancel_left e
    have e4 := congrArg (List.takeWhile (fun c => c != 42)) e3
    rw [take_digits i t1 ht1, take_digits j t2 ht2] at e4
    exact decDigits_inj e4
  have hl := nodup_len ((List.range n).map f) (ps.map (·.1)) (by
    rw [List.nodup_iff_pairwise_ne, List.pairwise_map]
    refine List.Pairwise.imp_of_mem ?_ (List.nodup_iff_pairwise_ne.1 List.nodup_range)
    intro i j hi hj hne e
    exact hne (hinj i j (List.mem_range.1 hi) (List.mem_range.1 hj) e)) (by
    intro x hx
    obtain ⟨k, hk, rfl⟩ := List.mem_map.1 hx
    exact (hf k (List.mem_range.1 hk)).1)
  simpa using hl
theorem pieceL_small {ps : List Prm} (h : smallP ps) {b v : List UInt8} {n : Nat} (hv : pieceL ps b n = some v) : v.length ≤ 1000000 := by
  unfold pieceL at hv
  split at hv
  · next x hx => cases hv; exact getV_small h hx
  · cases hg : getV ps (b ++ [42] ++ Lib.decDigits n ++ [42]) with
    | none => rw [hg] at hv; cases hv
    | some x =>
      rw [hg] at hv
      have h1 := getV_small h hg
      have hv := Option.some.inj hv
      rw [← hv]
      have h2 := opn_len (if n = 0 then bareL x else x)
      have h3 := bareL_len x
      split at h2 <;> simp_all <;> omega
theorem pcsL_end {ps : List Prm} {b : List UInt8} {f n : Nat} (h : pieceL ps b n = none) : pcsL ps b f n = [] := by
  cases f with
  | zero => rfl
  | succ f => show (match pieceL ps b n with | none => [] | some v => v ++ pcsL ps b f (n + 1)) = []; rw [h]
theorem pcsL_step {ps : List Prm} {b v : List UInt8} {f n : Nat} (h : pieceL ps b n = some v) : pcsL ps b (f + 1) n = v ++ pcsL ps b f (n + 1) := by
  show (match pieceL ps b n with | none => [] | some v => v ++ pcsL ps b f (n + 1)) = _
  rw [h]

set_option maxRecDepth 100000 in
set_option maxHeartbeats 4000000 in
theorem given_any (v : Value) (bm : Nat) (ps : List Prm) (Bs : ByteArray) (w : World) (hv : prmAt w v ps) (hm : MapIs w bm ps) (hps : smallP ps) (hpl : ps.length ≤ 100000) (hb : Bs.size ≤ 1000000) (he : env w) :
    Calls Tryz.prog 72 #[.agg #[v, .map (some bm)], .string Bs] w fun e w' => e = .returned (getOV (toldL ps Bs.data.toList)) ∧ Below w.heap.size w w' := by
  obtain ⟨Ns, hNs⟩ : ∃ N : ByteArray, N = Bs ++ ⟨#[42]⟩ := ⟨_, rfl⟩
  have hSl : Ns.data.toList = Bs.data.toList ++ [42] := by rw [hNs, cat_toList]
  have hSs : Ns.size ≤ 1000100 := by rw [← len_toList, hNs, cat_toList]; simp; omega
  have HN2 : Hid (Bs ++ ⟨#[42]⟩ = Ns) := hNs.symm
  have HE := Lib.hid he
  have HV := Lib.hid hv
  have HM := Lib.hid hm
  have HP1 := Lib.hid (fun W h1 h2 => prPlainB v bm ps Bs W h1 h2 (by omega))
  have HP2 := Lib.hid (fun W h1 h2 => prPlainB v bm ps Ns W h1 h2 (by omega))
  have HPc := Lib.hid (fun n W h1 h2 hn h => piece_any v bm ps Bs n W h1 h2 hps hb hn h)
  rw [hSl] at HP2
  obtain ⟨L, hL⟩ : ∃ l, l = Bs.data.toList := ⟨_, rfl⟩
  rw [← hL] at HP1 HP2 HPc ⊢
  have HTo : Hid (toldL ps L = match getV ps L with | some v => some v | none => match getV ps (L ++ [42]) with | some v => some (opn (bareL v)) | none => if (pieceL ps L 0).isSome then some (pcsL ps L (ps.length + 1) 0) else none) := rfl
  obtain ⟨ao, cap, rfl, _, _, _⟩ := hv
  clear hSl hNs he hm hL
  go_enter Tryz.func72, Tryz.ntmps72
  go_wp2_with fail
  have HB0 : Hid (Below w.heap.size w (w.alloc (.cells #[.slice ao ps.length cap, .map (some bm)] 132))) := (Below.refl _ _).alloc (Nat.le_refl _) _
  have HP1' := Lib.hid (HP1.out _ (prmAt.below HV.out HB0.out) (MapIs.below HM.out HB0.out))
  clear HP1
  cases h1 : getV ps L with
  | some x =>
    rw [h1] at HP1' HTo
    clear h1
    with_reducible refine HP1'.out.mono ?_
    rintro e w1 ⟨rfl, hb1⟩
    have HB1 := Lib.hid (HB0.out.trans (hb1.mono (by simp)))
    clear hb1
    unfold getOV
    go_wp2_with fail
    go_ret2
    exact ⟨by rw [HTo.out]; rfl, HB1.out⟩
  | none =>
    rw [h1] at HP1' HTo
    clear h1
    with_reducible refine HP1'.out.mono ?_
    rintro e w1 ⟨rfl, hb1⟩
    have HB1 := Lib.hid (HB0.out.trans (hb1.mono (by simp)))
    obtain ⟨c0, c1⟩ := box2_cells hb1
    have hlt1 : w.heap.size < w1.heap.size := World.block_lt_of_cell? _ _ c0
    clear hb1 HP1'
    unfold getOV
    have HP2' := Lib.hid (HP2.out w1 (prmAt.below HV.out HB1.out) (MapIs.below HM.out HB1.out))
    clear HP2
    go_wp2_with fail
    rw [HN2.out]
    cases h2 : getV ps (L ++ [42]) with
    | some x =>
      rw [h2] at HP2' HTo
      have hx := getV_small hps h2
      have HOp := Lib.hid (fun W h => opened_l (bareL x) W (by have := bareL_len x; omega) h)
      have HBm := Lib.hid (fun W => behindMarks_l x W (by omega))
      clear h2
      with_reducible refine HP2'.out.mono ?_
      rintro e w2 ⟨rfl, hb2⟩
      have HB2 := Lib.hid (HB1.out.trans (hb2.mono HB1.out.size))
      clear hb2 c0 c1
      unfold getOV
      go_wp2_with fail
      with_reducible refine (HBm.out _).mono ?_
      rintro e w4 ⟨rfl, hb4⟩
      have HB4 := Lib.hid (HB2.out.trans (hb4.mono HB2.out.size))
      clear hb4
      go_wp2_with fail
      with_reducible refine (HOp.out _ ?h2).mono ?_
      case h2 => exact (env.below HE.out HB4.out).2
      rintro e w5 ⟨rfl, hb5⟩
      have HB5 := Lib.hid (HB4.out.trans (hb5.mono HB4.out.size))
      clear hb5
      go_wp2_with fail
      go_ret2
      exact ⟨by rw [HTo.out]; rfl, HB5.out⟩
    | none =>
      rw [h2] at HP2' HTo
      clear h2
      with_reducible refine HP2'.out.mono ?_
      rintro e w2 ⟨rfl, hb2⟩
      have HB2 := Lib.hid (HB1.out.trans (hb2.mono HB1.out.size))
      replace c0 := (hb2.cell (p := ⟨w.heap.size, 0, none⟩) hlt1).trans c0
      replace c1 := (hb2.cell (p := ⟨w.heap.size, 1, none⟩) hlt1).trans c1
      have hlt2 : w.heap.size < w2.heap.size := World.block_lt_of_cell? _ _ c0
      have C0 := Lib.hid c0
      have C1 := Lib.hid c1
      have HWS := Lib.hid (fun bs (s : ByteArray) W h hlen hB => Tryz.Builder_WriteString_k w2.heap.size w2.heap.size bs s W h hlen hB)
      have HSt := Lib.hid (fun l W h hB => Tryz.Builder_String_any_k w2.heap.size w2.heap.size l W h hB)
      clear hb2 c0 c1 HB1 HP2'
      unfold getOV
      go_wp2_with fail
      go_loopg [11] ps.length (fun g v11 wr => ∃ (n : Nat) (acc : List UInt8), g = ps.length - n ∧ n ≤ ps.length ∧ v11 = .int .i64 (n : Int) ∧ acc.length ≤ n * 1000000 ∧ Hid (Lib.IsBuilderF 147 5 w2.heap.size w2.heap.size (Lib.byteCells acc) wr) ∧ Hid (Below w2.heap.size w2 wr) ∧
        Hid (∀ k, k < n → (pieceL ps L k).isSome = true) ∧ Hid (pcsL ps L (ps.length + 1) 0 = acc ++ pcsL ps L (ps.length + 1 - n) n))
      case atStart => exact ⟨0, [], by omega, by omega, rfl, by simp, builder_new w2, (Below.refl _ _).alloc (Nat.le_refl _) _, fun k hk => by omega, rfl⟩
      case round =>
        obtain ⟨n, acc, rfl, hn, rfl, hal, HBu, HBr, HAll, HS⟩ := hrel
        have c0 := (HBr.out.cell (p := ⟨w.heap.size, 0, none⟩) hlt2).trans C0.out
        have c1 := (HBr.out.cell (p := ⟨w.heap.size, 1, none⟩) hlt2).trans C1.out
        have HBw : Hid (Below w.heap.size w wr) := HB2.out.trans (HBr.out.mono HB2.out.size)
        have HP := Lib.hid (HPc.out n wr (prmAt.below HV.out HBw.out) (MapIs.below HM.out HBw.out) (by omega) (env.below HE.out HBw.out))
        cases h3 : pieceL ps L n with
        | none =>
          rw [h3] at HP
          have HSt1 := Lib.hid (fun W h hB => HSt.out acc W h hB)
          have HR : Hid (Ending.returned (.tuple #[.string ⟨acc.toArray⟩, .bool (decide ((0 : Int) < (n : Int)))]) = .returned (getOV (toldL ps L))) := by
            unfold Hid
            rw [HTo.out]
            by_cases h0 : n = 0
            · subst h0
              rw [h3]
              have : acc = [] := by
                have := HS.out
                simp at hal
                exact hal
              rw [this]
              rfl
            · rw [HAll.out 0 (by omega), HS.out, pcsL_end h3, List.append_nil, decide_eq_true (by omega)]
              rfl
          clear h3 hal
          go_wp2_with fail
          with_reducible refine HP.out.mono ?_
          rintro e w3 ⟨rfl, hb3⟩
          have HBu3 := Lib.hid (builder_below HBu.out hb3)
          have HB3 := Lib.hid (HBr.out.trans (hb3.mono HBr.out.size))
          clear hb3 c0 c1
          unfold getOV
          go_wp2_with fail
          with_reducible refine (HSt1.out _ HBu3.out HB3.out.size).mono ?_
          rintro e w4 ⟨rfl, _, hb4, _⟩
          have HB4 := Lib.hid (HB3.out.trans hb4)
          clear hb4
          go_wp2_with fail
          go_ret2
          refine ⟨Eq.trans ?_ HR.out, HB2.out.trans (HB4.out.mono HB2.out.size)⟩
          by_cases h0 : n = 0
          · subst h0; rfl
          · show Ending.returned (.tuple #[.string ⟨acc.toArray⟩, .bool (decide (0 < n))]) = _
            rw [decide_eq_true (by omega), decide_eq_true (by omega)]
        | some x =>
          rw [h3] at HP
          have hxs := pieceL_small hps h3
          have hn1 : n + 1 ≤ ps.length := pieces_few ps L (n + 1) (fun k hk => by
            by_cases e : k = n
            · rw [e, h3]; rfl
            · exact HAll.out k (by omega))
          have HAll' : Hid (∀ k, k < n + 1 → (pieceL ps L k).isSome = true) := fun k hk => by
            by_cases e : k = n
            · rw [e, h3]; rfl
            · exact HAll.out k (by omega)
          have HSx : Hid (pcsL ps L (ps.length + 1 - n) n = x ++ pcsL ps L (ps.length + 1 - (n + 1)) (n + 1)) := by
            unfold Hid
            rw [show ps.length + 1 - n = (ps.length + 1 - (n + 1)) + 1 by omega, pcsL_step h3]
          clear h3
          go_wp2_with fail
          with_reducible refine HP.out.mono ?_
          rintro e w3 ⟨rfl, hb3⟩
          have HBu3 := Lib.hid (builder_below HBu.out hb3)
          have HB3 := Lib.hid (HBr.out.trans (hb3.mono HBr.out.size))
          have HW3 := Lib.hid (HWS.out (Lib.byteCells acc) ⟨x.toArray⟩ w3 HBu3.out (by rw [byteCells_len, toArr_size]; omega) HB3.out.size)
          clear hb3 c0 c1
          unfold getOV
          go_wp2_with fail
          with_reducible refine HW3.out.mono ?_
          rintro e w4 ⟨rfl, hbu4, hb4, _⟩
          have HB4 := Lib.hid (HB3.out.trans hb4)
          have HBu4 := Lib.hid (Or.inr hbu4 : Lib.IsBuilderF 147 5 w2.heap.size w2.heap.size _ w4)
          clear hb4 hbu4
          go_wp2_with fail
          go_roundg (ps.length - (n + 1))
          case measure => omega
          case rel =>
            refine ⟨n + 1, acc ++ x, rfl, by omega, by go_num, by simp; omega, ?_, HB4.out, HAll'.out, ?_⟩
            · unfold Hid
              rw [byteCells_app, ← strCells_bytes x]
              exact HBu4.out
            · unfold Hid
              rw [HS.out, HSx.out, List.append_assoc]
end Go.Proofs.YtfgppamhbchhcaaGreatDoor
