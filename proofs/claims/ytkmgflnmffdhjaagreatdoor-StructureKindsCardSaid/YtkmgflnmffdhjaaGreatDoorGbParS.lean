/- Contracts of package params: joined. -/
import Derived.Test.YtkmgflnmffdhjaaGreatDoorGbParR
namespace Go.Proofs.YtkmgflnmffdhjaaGreatDoor
open Go Go.RowKit Go.Maps

theorem idx_snoc (ps : List Prm) (k : Nat) (h : k < ps.length) (nm : List UInt8) : idx (ps.take (k + 1)) nm = (idx (ps.take k) nm).or (if (ps[k]).1 == nm then some k else none) := by
  unfold idx
  rw [List.take_succ_eq_append_getElem h, List.findIdx?_append]
  congr 1
  by_cases e : ((ps[k]).1 == nm) = true
  · simp [List.findIdx?_cons, e]
    omega
  · have e' : ((ps[k]).1 == nm) = false := by simpa using e
    simp [List.findIdx?_cons, e']
theorem MapIs.gr {W W' : World} {bm B : Nat} {ps : List Prm} (h : MapIs W bm ps) (hb : Gr B W W') (hne : bm ≠ B) : MapIs W' bm ps := by
  obtain ⟨n, D, h1, h2, h3⟩ := h
  exact ⟨n, D, h1, h2.kept hb (fun e => hne (Option.some.inj e)), h3⟩
theorem isKey (l : List UInt8) : WideAt.IsKeyLit (.string l) := by trivial
theorem wf_k (k : Nat) (h : k ≤ 1000000000) : (Lit.int .i64 (k : Int)).wf = true := WalkArith.wf_i64 (by omega)
theorem elemK (k : Nat) (h : k ≤ 1000000000) : plainElem (H := Unit) Tryz.prog 3 (.int .i64 (k : Int)) = some (.lit (.int .i64 (k : Int)), []) := plainElem_int Tryz.underlying3 (wf_k k h)
theorem idx_snoc_none {ps : List Prm} {k : Nat} (h : k < ps.length) {nm : List UInt8} (hn : nm ≠ (ps[k]).1) : idx (ps.take (k + 1)) nm = idx (ps.take k) nm := by
  rw [idx_snoc ps k h, if_neg (by simpa using Ne.symm hn)]
  cases idx (ps.take k) nm <;> rfl
theorem idx_snoc_some {ps : List Prm} {k i : Nat} (h : k < ps.length) {nm : List UInt8} (hi : idx (ps.take k) nm = some i) : idx (ps.take (k + 1)) nm = some i := by
  rw [idx_snoc ps k h, hi]
  rfl
theorem idx_snoc_new {ps : List Prm} {k : Nat} (h : k < ps.length) (hi : idx (ps.take k) (ps[k]).1 = none) : idx (ps.take (k + 1)) (ps[k]).1 = some k := by
  rw [idx_snoc ps k h, hi, if_pos (by simp)]
  rfl
/-- What a map tells, in words of data. -/
def MapD (D : DataW Unit) (ps : List Prm) : Prop := ∀ nm, Maps.has D (.string nm) = (idx ps nm).isSome ∧ ∀ i, idx ps nm = some i → D.atKey (.string nm) (.lit (.int .i64 0)) = .lit (.int .i64 (i : Int))
theorem MapD.skip {D : DataW Unit} {ps : List Prm} {k : Nat} (h : MapD D (ps.take k)) (hk : k < ps.length) (hh : Maps.has D (.string (ps[k]).1) = true) : MapD D (ps.take (k + 1)) := by
  have h1 := (h (ps[k]).1).1
  rw [hh] at h1
  obtain ⟨i, hi⟩ := Option.isSome_iff_exists.1 h1.symm
  intro nm
  by_cases e : nm = (ps[k]).1
  · subst e
    rw [idx_snoc_some hk hi, ← hi]
    exact h _
  · rw [idx_snoc_none hk e]
    exact h nm
theorem MapD.put {D : DataW Unit} {ps : List Prm} {k : Nat} (h : MapD D (ps.take k)) (hk : k < ps.length) (hm : IsMap D) (hh : Maps.has D (.string (ps[k]).1) = false) : MapD (D.put (.string (ps[k]).1) (.lit (.int .i64 (k : Int)))) (ps.take (k + 1)) := by
  have h1 := (h (ps[k]).1).1
  rw [hh] at h1
  have hi : idx (ps.take k) (ps[k]).1 = none := by
    cases e : idx (ps.take k) (ps[k]).1 with
    | none => rfl
    | some x => rw [e] at h1; cases h1
  intro nm
  by_cases e : nm = (ps[k]).1
  · subst e
    rw [idx_snoc_new hk hi]
    refine ⟨has_put_same hm (isKey _) _, fun i hi => ?_⟩
    cases hi
    exact atKey_put_same hm (isKey _) _ _
  · have hne : (Lit.string nm) ≠ Lit.string (ps[k]).1 := fun h => e (Lit.string.inj h)
    rw [idx_snoc_none hk e, has_put_other hne]
    refine ⟨(h nm).1, fun i hi => ?_⟩
    rw [atKey_put_other hne]
    exact (h nm).2 i hi
theorem own_base2 {w : World} {base base' n size : Nat} {e : TypeId} {v : Value} {xs : List Value} (h : w.ownsRow base e size v n xs) (hb : base' ≤ base) : w.ownsRow base' e size v n xs := by
  refine ⟨h.1, ?_⟩
  rcases h.2 with h2 | ⟨g, cap, cur, hv, hg, r⟩
  · exact .inl h2
  · exact .inr ⟨g, cap, cur, hv, Nat.le_trans hb hg, r⟩
theorem prmAt.gr {W W' : World} {v : Value} {ps : List Prm} {w : World} {B : Nat} (h : prmAt w v ps) (hw : Below w.heap.size w W) (hB : w.heap.size ≤ B) (hg : Gr B W W') : prmAt W' v ps :=
  h.below (Below.grown hw hg hw.size (by intro k hk; cases hk; exact hB))

set_option maxRecDepth 100000 in
set_option maxHeartbeats 4000000 in
theorem joined_any (v : Value) (ps : List Prm) (w : World) (hv : prmAt w v ps) (hps : smallP ps) (hpl : ps.length ≤ 100000) (he : env w) :
    Calls Tryz.prog 35 #[v] w fun e w' => ∃ u, e = .returned u ∧ w'.ownsRow w.heap.size 71 2 u (joinL ps).length (prmCells (joinL ps)) ∧ Below w.heap.size w w' := by
  have HV := Lib.hid hv
  have HE := Lib.hid he
  obtain ⟨ao, cap, rfl, hcl, hcm, hcell⟩ := hv
  unfold maxLen at hcm
  clear he hcell
  obtain ⟨i0, hi, hz⟩ := Option.map_eq_some_iff.1 Tryz.infoPrm
  simp only [Prod.mk.injEq] at hz
  obtain ⟨hz0, hz1, hz2⟩ := hz
  have hmm := @run_makeMap Tryz.prog
  go_enter Tryz.func35, Tryz.ntmps35
  go_wp2_with fail
  obtain ⟨W0, hW0⟩ : ∃ W0, W0 = (w.alloc (.map #[] 0)).alloc (.cells #[.slice ao ps.length cap, .map (some w.heap.size)] 135) := ⟨_, rfl⟩
  rw [← hW0]
  have HB0 : Hid (Below w.heap.size w W0) := by rw [hW0]; exact ((Below.refl _ _).alloc (Nat.le_refl _) _).alloc (by simp) _
  have HO0 : Hid (W0.ownsMap (H := Unit) Tryz.prog 9 (plainElem Tryz.prog 3) w.heap.size 0 (.map [])) := by rw [hW0]; exact (World.ownsMap_made _ _ _ _).alloc _
  have HR0 : Hid (W0.heap[w.heap.size + 1]? = some (.cells #[.slice ao ps.length cap, .map (some w.heap.size)] 135 (0, 0))) := by
    unfold Hid
    rw [hW0]
    have := heap_alloc_new (w.alloc (.map #[] 0)) (.cells #[.slice ao ps.length cap, .map (some w.heap.size)] 135)
    simpa using this
  obtain ⟨bm, hbm⟩ : ∃ bm, bm = w.heap.size := ⟨_, rfl⟩
  rw [← hbm] at HO0 HR0 ⊢
  have hbw : w.heap.size ≤ bm := by omega
  clear hW0 hbm
  go_loopg [24] ps.length (fun g v24 wr => ∃ (k n : Nat) (D : DataW Unit), g = ps.length - k ∧ k ≤ ps.length ∧ v24 = .int .i64 (k : Int) ∧ n ≤ k ∧ Hid (wr.ownsMap Tryz.prog 9 (plainElem Tryz.prog 3) bm n D) ∧ Hid (MapD D (ps.take k)) ∧ Hid (Gr bm W0 wr))
  case atStart => exact ⟨0, 0, .map [], by omega, by omega, rfl, Nat.le_refl _, HO0.out, fun nm => ⟨rfl, fun i h => by cases h⟩, Gr.refl _ _⟩
  case round =>
    obtain ⟨k, n, D, rfl, hk, rfl, hnk, HO, HD, HG⟩ := hrel
    by_cases hlt : k < ps.length
    · have hpr := prmAt.gr HV.out HB0.out hbw HG.out
      obtain ⟨_, _, e0, _, _, hc⟩ := hpr
      cases e0
      rcases hc with h0 | ⟨g, rfl, hg, hcc⟩
      · rw [h0] at hlt
        simp at hlt
      · obtain ⟨d0, d1⟩ := hcc k hlt
        have hrow := HG.out.row (g := bm + 1) (by omega) HR0.out
        have hrl : bm + 1 < wr.heap.size := (Array.getElem?_eq_some_iff.1 hrow).1
        have r0 : wr.cell? ⟨bm + 1, 0, none⟩ = some (.slice (some ⟨g, 0, none⟩) ps.length cap) := by simp [World.cell?, hrow]
        have r1 : wr.cell? ⟨bm + 1, 1, none⟩ = some (.map (some bm)) := by simp [World.cell?, hrow]
        have hsm := (hps ps[k] (List.getElem_mem hlt)).1
        have HK := Lib.hid (keyStr (ps[k]).1 (by omega))
        have hma : ¬ bm + 1 = wr.heap.size := by omega
        obtain ⟨nm, hnm⟩ : ∃ nm, nm = (ps[k]).1 := ⟨_, rfl⟩
        have HNm := Lib.hid hnm
        rw [← hnm] at d0 HK hsm
        obtain ⟨vl, hvl⟩ : ∃ vl, vl = (ps[k]).2 := ⟨_, rfl⟩
        rw [← hvl] at d1
        have hA : Below wr.heap.size wr (wr.alloc (.cells #[.string ⟨nm.toArray⟩, .string ⟨vl.toArray⟩] 71)) := (Below.refl _ _).alloc (Nat.le_refl _) _
        have s1 := (hA.cell (p := ⟨bm + 1, 1, none⟩) hrl).trans r1
        have HA := Lib.hid hA
        clear hcc hrow hnm hvl hA r0
        rcases Bool.eq_false_or_eq_true (Maps.has D (.string nm)) with hh | hh
        · have HH := Lib.hid hh
          clear hh
          go_wp2_with (at_lookup; refine wpList_lookup_own_ok_int _ rfl _ _ 133 rfl 9 3 .i64 keyLaw Tryz.underlying133 Tryz.underlying3 (zeroInt _) bm n D rfl (HO.out.alloc _) _ _ rfl HK.out ?_; intro c hat hwc; rw [HH.out])
          go_roundg (ps.length - (k + 1))
          case measure => omega
          case rel =>
            refine ⟨k + 1, n, D, rfl, by omega, by go_num, by omega, HO.out.alloc _, ?_, HG.out.below HA.out⟩
            exact HD.out.skip hlt (by rw [← HNm.out]; exact HH.out)
        · have HH := Lib.hid hh
          have HEl := Lib.hid (elemK k (by omega))
          clear hh
          go_wp2_with (first
            | (at_lookup; refine wpList_lookup_own_ok_int _ rfl _ _ 133 rfl 9 3 .i64 keyLaw Tryz.underlying133 Tryz.underlying3 (zeroInt _) bm n D rfl (HO.out.alloc _) _ _ rfl HK.out ?_; intro c hat hwc; rw [HH.out])
            | (at_mapUpdate; refine wpList_mapUpdate_own _ rfl _ _ _ 133 rfl 9 3 keyLaw Tryz.underlying133 (plainElem Tryz.prog 3) bm n D rfl (HO.out.alloc _) (by unfold maxLen; omega) _ _ _ rfl rfl HK.out _ [] HEl.out ?_; intro w4 hown4 hgrow4))
          have HG4 := Lib.hid ((HG.out.below HA.out).trans hgrow4)
          have HO4 := Lib.hid hown4
          clear hgrow4 hown4
          go_roundg (ps.length - (k + 1))
          case measure => omega
          case rel =>
            refine ⟨k + 1, n + 1, _, rfl, by omega, by go_num, by omega, HO4.out, ?_, HG4.out⟩
            have := HD.out.put hlt HO.out.isMap (by rw [← HNm.out]; exact HH.out)
            unfold Hid
            rw [← HNm.out] at this
            exact this
    · have hkl : k = ps.length := by omega
      subst hkl
      have HM : Hid (MapIs wr bm ps) := by
        refine ⟨n, D, hnk, HO.out, ?_⟩
        have := HD.out
        rw [List.take_length] at this
        exact this
      have hrow := HG.out.row (g := bm + 1) (by omega) HR0.out
      have HBw : Hid (Below w.heap.size w wr) := Below.grown HB0.out HG.out HB0.out.size (by intro k hk; cases hk; exact hbw)
      have HRow := Lib.hid hrow
      have hrl : bm + 1 < wr.heap.size := (Array.getElem?_eq_some_iff.1 hrow).1
      clear hrow HD HO HG HR0 HO0 HB0 hnk
      obtain ⟨tm, htm⟩ : ∃ tm, tm = wr.heap.size := ⟨_, rfl⟩
      obtain ⟨W2, hW2⟩ : ∃ W2, W2 = wr.alloc (.map #[] 0) := ⟨_, rfl⟩
      have HB2 : Hid (Below w.heap.size w W2) := by rw [hW2]; exact HBw.out.alloc HBw.out.size _
      have hA2 : Below wr.heap.size wr W2 := by rw [hW2]; exact (Below.refl _ _).alloc (Nat.le_refl _) _
      have HM2 := Lib.hid (HM.out.below hA2)
      have HRow2 : Hid (W2.heap[bm + 1]? = _) := Lib.hid ((hA2.block (bm + 1) hrl).trans HRow.out)
      have HT2 : Hid (W2.ownsMap (H := Unit) Tryz.prog 9 unitElem tm 0 (.map [])) := by rw [hW2, htm]; exact World.ownsMap_made _ _ _ _
      have hs2 : W2.heap.size = tm + 1 := by rw [hW2, htm]; simp
      have HW2 : Hid (wr.alloc (.map #[] 0) = W2) := hW2.symm
      have hbt : bm + 1 < tm := by omega
      have HTm : Hid (wr.heap.size = tm) := htm.symm
      have hwt : w.heap.size ≤ tm := by omega
      clear hW2 htm HM HRow hA2 HBw hrl
      go_wp2_with fail
      rw [HW2.out, HTm.out]
      clear HW2 HTm
      go_loopg [8, 48] ps.length (fun g v8 v48 wr => ∃ (k n : Nat) (D : DataW Unit) (acc : List Prm), g = ps.length - k ∧ k ≤ ps.length ∧ v48 = .int .i64 (k : Int) ∧ n ≤ k ∧ acc.length ≤ k ∧ wr.ownsRow W2.heap.size 71 2 v8 acc.length (prmCells acc) ∧
        Hid (wr.ownsMap Tryz.prog 9 unitElem tm n D) ∧ Hid (∀ nm, nm ≠ [] → Maps.has D (.string nm) = decide (nm ∈ (ps.take k).map (fun p => baseL p.1))) ∧ Hid (Gr tm W2 wr) ∧ Hid (joinL ps = acc ++ joinA ps ((ps.take k).map (fun p => baseL p.1)).reverse (ps.drop k)))
      case atStart => exact ⟨0, 0, .map [], [], by omega, by omega, rfl, Nat.le_refl _, Nat.le_refl _, World.ownsRow_nil _ _ _ _, HT2.out, fun nm _ => by rfl, Gr.refl _ _, rfl⟩
      case round =>
        obtain ⟨k, n, D, acc, rfl, hk, rfl, hnk, hak, hown, HO, HD, HG, HJ⟩ := hrel
        have HOw := Lib.hid hown
        have HBq : Hid (Below w.heap.size w wr) := Below.grown HB2.out HG.out HB2.out.size (by intro k hk; cases hk; exact hwt)
        clear hown
        by_cases hlt : k < ps.length
        · have hpr := prmAt.gr HV.out HB2.out hwt HG.out
          obtain ⟨_, _, e0, _, _, hc⟩ := hpr
          cases e0
          rcases hc with h0 | ⟨g, rfl, hg, hcc⟩
          · rw [h0] at hlt
            simp at hlt
          · obtain ⟨d0, d1⟩ := hcc k hlt
            have hsm := (hps ps[k] (List.getElem_mem hlt)).1
            have HStep : Hid (ps.drop k = ps[k] :: ps.drop (k + 1)) := List.drop_eq_getElem_cons hlt
            have HTake : Hid ((ps.take (k + 1)).map (fun p => baseL p.1) = (ps.take k).map (fun p => baseL p.1) ++ [baseL (ps[k]).1]) := by
              unfold Hid
              rw [List.take_succ_eq_append_getElem hlt, List.map_append]
              rfl
            obtain ⟨p, hp⟩ : ∃ p, p = ps[k] := ⟨_, rfl⟩
            have HP := Lib.hid hp
            rw [← hp] at d0 d1 HStep HTake hsm
            obtain ⟨nm, vl⟩ := p
            obtain ⟨T, hT⟩ : ∃ T : ByteArray, T = ⟨(baseL nm).toArray⟩ := ⟨_, rfl⟩
            have hTl : T.data.toList = baseL nm := by rw [hT]
            have hbl : (baseL nm).length ≤ 1000000 := Nat.le_trans (List.takeWhile_sublist _).length_le hsm
            have hTs : T.size ≤ 1000000 := by rw [hT]; exact hbl
            have HK : Hid (keyOf Tryz.prog 9 (.string T) = some (.string (baseL nm))) := by rw [hT]; exact keyStr (baseL nm) (by omega)
            have HCu := Lib.hid (fun W => cut_any ⟨nm.toArray⟩ W (by rw [toArr_size]; exact Nat.le_trans hsm (by omega)))
            have eT : (⟨(baseL (⟨nm.toArray⟩ : ByteArray).data.toList).toArray⟩ : ByteArray) = T := hT.symm
            rw [eT] at HCu
            have hA : Below wr.heap.size wr (wr.alloc (.cells #[.string ⟨nm.toArray⟩, .string ⟨vl.toArray⟩] 71)) := (Below.refl _ _).alloc (Nat.le_refl _) _
            have HA := Lib.hid hA
            have HTl := Lib.hid hTl
            clear hcc hp hA hT eT hTl
            go_wp2_with fail
            with_reducible refine (HCu.out _).mono ?_
            rintro e w3 ⟨a, b, rfl, hb3⟩
            have HB3 : Hid (Below wr.heap.size wr w3) := HA.out.trans (hb3.mono (by simp))
            have HO3 := Lib.hid (HO.out.kept (row := none) ⟨HB3.out.os, HB3.out.tape, HB3.out.output, HB3.out.size, fun k hk _ => HB3.out.block k hk⟩ (by simp))
            have hz69 : (zeroValue 140).run Tryz.prog w3 = .ok (.agg #[]) w3 := by kernel_rfl
            have HZ := Lib.hid hz69
            clear hb3 hz69 d0 d1
            have HG3 := Lib.hid (HG.out.below HB3.out)
            have HW3 := Lib.hid (ownsRow_below HOw.out HB3.out)
            have hT1 : (baseL nm = [] ∧ T.toList.isEmpty = true ∧ (T.toList == []) = true) ∨ (baseL nm ≠ [] ∧ T.toList.isEmpty = false ∧ (T.toList == []) = false) := by
              by_cases e : baseL nm = []
              · left
                have hsz : T.size = 0 := by rw [← len_toList, HTl.out, e]; rfl
                have h1 := (toList_nil_iff T).2 hsz
                exact ⟨e, by rw [h1]; rfl, by rw [h1]; rfl⟩
              · right
                have hsz : T.size ≠ 0 := fun h => e (by rw [← HTl.out]; exact List.eq_nil_of_length_eq_zero (by rw [len_toList]; exact h))
                have h1 : T.toList ≠ [] := fun h => hsz ((toList_nil_iff T).1 h)
                exact ⟨e, by cases hx : T.toList with | nil => exact absurd hx h1 | cons a b => rfl, by simpa using h1⟩
            have HJs : Hid (∀ pre, joinA ps pre (ps.drop k) = if baseL nm = [] ∨ baseL nm ∈ pre then joinA ps (baseL nm :: pre) (ps.drop (k + 1)) else match toldL ps (baseL nm) with | some v => (baseL nm, v) :: joinA ps (baseL nm :: pre) (ps.drop (k + 1)) | none => joinA ps (baseL nm :: pre) (ps.drop (k + 1))) := fun pre => by
              rw [HStep.out]
              rfl
            have HRev : Hid (((ps.take (k + 1)).map (fun p => baseL p.1)).reverse = baseL nm :: ((ps.take k).map (fun p => baseL p.1)).reverse) := by
              unfold Hid
              rw [HTake.out, List.reverse_append]
              rfl
            obtain ⟨Lk, hLk⟩ : ∃ l, l = (ps.take k).map (fun p => baseL p.1) := ⟨_, rfl⟩
            rw [← hLk] at HD HJ HRev HTake
            have HA4 : Hid (Below w3.heap.size w3 (w3.alloc (.cells #[] 140))) := (Below.refl _ _).alloc (Nat.le_refl _) _
            clear hLk HCu HP HStep
            rcases Bool.eq_false_or_eq_true (Maps.has D (.string (baseL nm))) with hh | hh
            · have HH := Lib.hid hh
              have HJ' : Hid (joinL ps = acc ++ joinA ps (baseL nm :: Lk.reverse) (ps.drop (k + 1))) := by
                unfold Hid
                rw [HJ.out, HJs.out, if_pos]
                by_cases e : baseL nm = []
                · exact .inl e
                · right
                  have := HD.out (baseL nm) e
                  rw [HH.out] at this
                  rw [List.mem_reverse]
                  exact of_decide_eq_true this.symm
              have HD' : Hid (∀ nm', nm' ≠ [] → Maps.has D (.string nm') = decide (nm' ∈ Lk ++ [baseL nm])) := by
                intro nm' hne
                rw [HD.out nm' hne]
                by_cases e : nm' = baseL nm
                · have h1 := HD.out nm' hne
                  rw [e, HH.out, ← e] at h1
                  rw [← h1, eq_comm, decide_eq_true_eq]
                  simp [e]
                · simp [e]
              clear hh hT1
              go_wp2_with (at_lookup; refine wpList_lookup_own_unit _ rfl _ _ 137 rfl 9 140 keyLaw Tryz.underlying137 HZ.out tm n D rfl HO3.out _ _ rfl HK.out ?_; rw [HH.out])
              go_roundg (ps.length - (k + 1))
              case measure => omega
              case rel => exact ⟨k + 1, n, D, acc, rfl, by omega, by go_num, by omega, by omega, HW3.out.alloc _, HO3.out.alloc _, by rw [HTake.out]; exact HD'.out, HG3.out.below HA4.out, by rw [HRev.out]; exact HJ'.out⟩
            · have HH := Lib.hid hh
              rcases hT1 with ⟨hbe, hte, hte2⟩ | ⟨hbe, hte, hte2⟩
              · have HJ' : Hid (joinL ps = acc ++ joinA ps (baseL nm :: Lk.reverse) (ps.drop (k + 1))) := by
                  unfold Hid
                  rw [HJ.out, HJs.out, if_pos (.inl hbe)]
                have HD' : Hid (∀ nm', nm' ≠ [] → Maps.has D (.string nm') = decide (nm' ∈ Lk ++ [baseL nm])) := by
                  intro nm' hne
                  rw [HD.out nm' hne, hbe]
                  simp [hne]
                clear hh
                go_wp2_with (at_lookup; refine wpList_lookup_own_unit _ rfl _ _ 137 rfl 9 140 keyLaw Tryz.underlying137 HZ.out tm n D rfl HO3.out _ _ rfl HK.out ?_; rw [HH.out])
                go_roundg (ps.length - (k + 1))
                case measure => omega
                case rel => exact ⟨k + 1, n, D, acc, rfl, by omega, by go_num, by omega, by omega, HW3.out.alloc _, HO3.out.alloc _, by rw [HTake.out]; exact HD'.out, HG3.out.below HA4.out, by rw [HRev.out]; exact HJ'.out⟩
              · have HBe := Lib.hid hbe
                have HNot : Hid (¬ (baseL nm = [] ∨ baseL nm ∈ Lk.reverse)) := by
                  intro h
                  rcases h with h | h
                  · exact HBe.out h
                  · have := HD.out (baseL nm) HBe.out
                    rw [HH.out] at this
                    rw [List.mem_reverse] at h
                    rw [decide_eq_true h] at this
                    cases this
                have HD' : Hid (∀ nm', nm' ≠ [] → Maps.has (D.put (.string (baseL nm)) (.agg [])) (.string nm') = decide (nm' ∈ Lk ++ [baseL nm])) := by
                  intro nm' hne
                  by_cases e : nm' = baseL nm
                  · rw [e, has_put_same HO.out.isMap (isKey _), eq_comm, decide_eq_true_eq]
                    simp
                  · rw [has_put_other (fun h => e (Lit.string.inj h)), HD.out nm' hne]
                    simp [e]
                have HGv := Lib.hid (fun W h1 h2 h3 => given_any (.slice (some ⟨g, 0, none⟩) ps.length cap) bm ps T W h1 h2 hps hpl hTs h3)
                rw [HTl.out] at HGv
                clear hh hbe
                go_wp2_with (first
                  | (at_lookup; refine wpList_lookup_own_unit _ rfl _ _ 137 rfl 9 140 keyLaw Tryz.underlying137 HZ.out tm n D rfl HO3.out _ _ rfl HK.out ?_; rw [HH.out])
                  | (at_mapUpdate; refine wpList_mapUpdate_own _ rfl _ _ _ 137 rfl 9 140 keyLaw Tryz.underlying137 unitElem tm n D rfl (HO3.out.alloc _) (by unfold maxLen; omega) _ _ _ rfl rfl HK.out _ [] unitElem_mk ?_; intro w5 hown5 hgrow5
                     have HG5 := Lib.hid ((HG3.out.below HA4.out).trans hgrow5)
                     have hrow5 := HG5.out.row (g := bm + 1) (by omega) HRow2.out
                     have r0 : w5.cell? ⟨bm + 1, 0, none⟩ = some (.slice (some ⟨g, 0, none⟩) ps.length cap) := by simp [World.cell?, hrow5]
                     have r1 : w5.cell? ⟨bm + 1, 1, none⟩ = some (.map (some bm)) := by simp [World.cell?, hrow5]))
                have HO5 := Lib.hid hown5
                have HW5 := Lib.hid (ownsRow_gr (HW3.out.alloc (.cells #[] 140)) hgrow5 (by omega))
                have HB5 : Hid (Below w.heap.size w w5) := Below.grown HB2.out HG5.out HB2.out.size (by intro k hk; cases hk; exact hwt)
                have HGv5 := Lib.hid (HGv.out w5 (HV.out.below HB5.out) (HM2.out.gr HG5.out (by omega)) (env.below HE.out HB5.out))
                clear hown5 hgrow5 hrow5 r0 r1 HGv
                with_reducible refine HGv5.out.mono ?_
                rintro e w6 ⟨rfl, hb6⟩
                have HG6 := Lib.hid (HG5.out.below hb6)
                have HW6 := Lib.hid (ownsRow_below HW5.out hb6)
                have HO6 := Lib.hid (HO5.out.kept (row := none) ⟨hb6.os, hb6.tape, hb6.output, hb6.size, fun k hk _ => hb6.block k hk⟩ (by simp))
                have hsz6 := HG6.out.size
                clear hb6 HGv5 HW5 HO5 HG5
                cases hto : toldL ps (baseL nm) with
                | none =>
                  have HJ' : Hid (joinL ps = acc ++ joinA ps (baseL nm :: Lk.reverse) (ps.drop (k + 1))) := by
                    unfold Hid
                    rw [HJ.out, HJs.out, if_neg HNot.out, hto]
                  clear hto
                  unfold getOV
                  go_wp2_with fail
                  go_roundg (ps.length - (k + 1))
                  case measure => omega
                  case rel => exact ⟨k + 1, n + 1, _, acc, rfl, by omega, by go_num, by omega, by omega, HW6.out, HO6.out, by rw [HTake.out]; exact HD'.out, HG6.out, by rw [HRev.out]; exact HJ'.out⟩
                | some x =>
                  have HJ' : Hid (joinL ps = (acc ++ [(baseL nm, x)]) ++ joinA ps (baseL nm :: Lk.reverse) (ps.drop (k + 1))) := by
                    unfold Hid
                    rw [HJ.out, HJs.out, if_neg HNot.out, hto, List.append_assoc]
                    rfl
                  clear hto
                  have HC1 : Hid (∀ q u, [Value.string T, .string ⟨x.toArray⟩][q]? = some u → (w6.alloc (.cells #[.string T, .string ⟨x.toArray⟩] 71)).cell? ((⟨w6.heap.size, 0, none⟩ : Addr).add q) = some u) := cells_two_new w6 71 (.string T) (.string ⟨x.toArray⟩)
                  unfold getOV
                  go_wp2_with (at_builtin; refine wpList_append_own _ rfl _ _ 58 rfl W2.heap.size 71 i0 (.agg #[.string ⟨#[]⟩, .string ⟨#[]⟩]) 2 32 Tryz.underlying58 hi hz0 hz1 hz2 rfl (by decide) _ acc.length (prmCells acc) rfl (HW6.out.alloc _) ⟨w6.heap.size, 0, none⟩ 1 1 [.string T, .string ⟨x.toArray⟩] rfl rfl HC1.out (by simp [Value.oneCell']) (by unfold maxLen; omega) (by omega) (by simp; omega) ?_; intro v7 w7 hown7 hgrow7 _)
                  have HA7 : Below w6.heap.size w6 (w6.alloc (.cells #[.string T, .string ⟨x.toArray⟩] 71)) := (Below.refl _ _).alloc (Nat.le_refl _) _
                  have HG7 := Lib.hid (Gr.own (HG6.out.below HA7) hgrow7 (fun q hq => (HW6.out.lt q hq).1))
                  have HO7 := Lib.hid ((HO6.out.alloc (.cells #[.string T, .string ⟨x.toArray⟩] 71)).kept hgrow7 (by
                    intro e
                    have := (HW6.out.lt tm e.symm).1
                    omega))
                  have HW7 := Lib.hid hown7
                  clear hown7 hgrow7 HA7 HC1
                  go_roundg (ps.length - (k + 1))
                  case measure => omega
                  case rel =>
                    refine ⟨k + 1, n + 1, _, acc ++ [(baseL nm, x)], rfl, by omega, by go_num, by omega, by simp; omega, own_cast2 HW7.out (by simp) ?_, HO7.out, by rw [HTake.out]; exact HD'.out, HG7.out, by rw [HRev.out]; exact HJ'.out⟩
                    rw [prmCells_app, prmCells_one]
                    have : T = ⟨(baseL nm).toArray⟩ := bytes_eq (by rw [HTl.out])
                    rw [this]
        · have hkl : k = ps.length := by omega
          subst hkl
          have HF : Hid (joinL ps = acc) := by
            unfold Hid
            rw [HJ.out, List.drop_length]
            show acc ++ [] = acc
            rw [List.append_nil]
          go_wp2_with fail
          go_ret
          refine ⟨_, rfl, ?_, HBq.out⟩
          rw [HF.out]
          exact own_base2 HOw.out HB2.out.size
end Go.Proofs.YtkmgflnmffdhjaaGreatDoor
