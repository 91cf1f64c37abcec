/- Contracts of package tiles: isLaid, of a tree of any make. -/
import Derived.Test.YtedminjnnhlknaaGreatDoorGbTjD
import Derived.Test.YtedminjnnhlknaaGreatDoorGbTiJ
namespace Go.Proofs.YtedminjnnhlknaaGreatDoor
open Go Go.RowKit Go.Shelf
attribute [local go_sem] Oper.semAt_some

theorem chain_ok {n : Nat} : ∀ {l : List Tl} {a : Nat}, okT n a l → endT a l = n → chainT a n l
  | [], _, _, h => h
  | _ :: _, _, h, k => ⟨h.1, h.2.1, chain_ok h.2.2.2 k⟩
set_option maxRecDepth 100000 in
set_option maxHeartbeats 4000000 in
theorem isLaidB_any {S : Nat → Prop} (t : Tr) (hg : goodT t) (hcb : countT t ≤ 1000) (n : Nat) (kd h1 h2 b1 b2 e1 e2 : Int) (ka ca : Option Addr) (kn kc cn cc : Nat) (w : World) (hu : treeAt S w t (.agg #[.int .i64 kd, .int .i64 h1, .int .i64 h2, .int .i64 b1, .int .i64 b2, .slice ka kn kc, .slice ca cn cc, .int .i64 e1, .int .i64 e2])) :
    Calls Tryz.prog 40 #[.agg #[.int .i64 kd, .int .i64 h1, .int .i64 h2, .int .i64 b1, .int .i64 b2, .slice ka kn kc, .slice ca cn cc, .int .i64 e1, .int .i64 e2], .int .i64 (n : Int)] w fun e w' => ∃ bb : Bool, e = .returned (.bool bb) ∧ (bb = true ↔ chainT 0 n (tilesT t)) ∧ Below w.heap.size w w' := by
  have HU := Lib.hid hu
  clear hu
  have HE := Lib.hid (fun W => teachI_any kd h1 h2 b1 b2 e1 e2 ka ca kn kc cn cc W)
  refine (callsIn_wide (n := 3)).1 ?_
  refine callsIn_of_wp_marks Tryz.func40 rfl trivial ?_ rfl
  simp only [Tryz.ntmps40, List.size_toArray, List.length_cons, List.length_nil, Nat.reduceAdd, Nat.reduceSub, Array.replicate_succ, Array.replicate_zero, List.push_toArray, List.append_toArray, List.nil_append, List.cons_append]
  gi_wp2
  refine ⟨trivial, ?_⟩
  with_reducible refine (callsIn_wide.2 (HE.out _)).mono ?_
  rintro e w1 ⟨rfl, rfl⟩
  gi_wp2
  have HSe := Lib.hid (on_new4 w (.cells #[.int .i64 kd, .int .i64 h1, .int .i64 h2, .int .i64 b1, .int .i64 b2, .slice ka kn kc, .slice ca cn cc, .int .i64 e1, .int .i64 e2] 31) (.cells #[.int .i64 (n : Int)] 3) (.cells #[.bool false] 4) (.cells #[.int .i64 kd, .int .i64 h1, .int .i64 h2, .int .i64 b1, .int .i64 b2, .slice ka kn kc, .slice ca cn cc, .int .i64 e1, .int .i64 e2] 31) (.int .i64 0) 3 rfl)
  have bV := (((Boxed.new (w.alloc (.cells #[.int .i64 kd, .int .i64 h1, .int .i64 h2, .int .i64 b1, .int .i64 b2, .slice ka kn kc, .slice ca cn cc, .int .i64 e1, .int .i64 e2] 31)) 3 (.int .i64 (n : Int))).alloc (.cells #[.bool false] 4)).alloc (.cells #[.int .i64 0] 3)).alloc (.cells #[.int .i64 kd, .int .i64 h1, .int .i64 h2, .int .i64 b1, .int .i64 b2, .slice ka kn kc, .slice ca cn cc, .int .i64 e1, .int .i64 e2] 31)
  have bR := ((Boxed.new ((w.alloc (.cells #[.int .i64 kd, .int .i64 h1, .int .i64 h2, .int .i64 b1, .int .i64 b2, .slice ka kn kc, .slice ca cn cc, .int .i64 e1, .int .i64 e2] 31)).alloc (.cells #[.int .i64 (n : Int)] 3)) 4 (.bool false)).alloc (.cells #[.int .i64 0] 3)).alloc (.cells #[.int .i64 kd, .int .i64 h1, .int .i64 h2, .int .i64 b1, .int .i64 b2, .slice ka kn kc, .slice ca cn cc, .int .i64 e1, .int .i64 e2] 31)
  have bN := (Boxed.new (((w.alloc (.cells #[.int .i64 kd, .int .i64 h1, .int .i64 h2, .int .i64 b1, .int .i64 b2, .slice ka kn kc, .slice ca cn cc, .int .i64 e1, .int .i64 e2] 31)).alloc (.cells #[.int .i64 (n : Int)] 3)).alloc (.cells #[.bool false] 4)) 3 (.int .i64 0)).alloc (.cells #[.int .i64 kd, .int .i64 h1, .int .i64 h2, .int .i64 b1, .int .i64 b2, .slice ka kn kc, .slice ca cn cc, .int .i64 e1, .int .i64 e2] 31)
  have hp := heap_alloc_new ((((w.alloc (.cells #[.int .i64 kd, .int .i64 h1, .int .i64 h2, .int .i64 b1, .int .i64 b2, .slice ka kn kc, .slice ca cn cc, .int .i64 e1, .int .i64 e2] 31)).alloc (.cells #[.int .i64 (n : Int)] 3)).alloc (.cells #[.bool false] 4)).alloc (.cells #[.int .i64 0] 3)) (.cells #[.int .i64 kd, .int .i64 h1, .int .i64 h2, .int .i64 b1, .int .i64 b2, .slice ka kn kc, .slice ca cn cc, .int .i64 e1, .int .i64 e2] 31)
  obtain ⟨W0, hW0⟩ : ∃ W0, ((((w.alloc (.cells #[.int .i64 kd, .int .i64 h1, .int .i64 h2, .int .i64 b1, .int .i64 b2, .slice ka kn kc, .slice ca cn cc, .int .i64 e1, .int .i64 e2] 31)).alloc (.cells #[.int .i64 (n : Int)] 3)).alloc (.cells #[.bool false] 4)).alloc (.cells #[.int .i64 0] 3)).alloc (.cells #[.int .i64 kd, .int .i64 h1, .int .i64 h2, .int .i64 b1, .int .i64 b2, .slice ka kn kc, .slice ca cn cc, .int .i64 e1, .int .i64 e2] 31) = W0 := ⟨_, rfl⟩
  have hsz : W0.heap.size = w.heap.size + 5 := by rw [← hW0]; simp
  simp only [World.size_alloc] at bN bR bV hp
  rw [hW0] at HSe bN bR bV hp ⊢
  clear hW0
  refine wpIn_rangeFunc_ownH rfl (by omega) (gf := 98) (lb := #[.pointer (some ⟨w.heap.size + 1 + 1 + 1 + 1, 0, none⟩)]) rfl trivial (enters_of Tryz.func98 (by kernel_rfl) rfl)
    (teach_stops 2 (w.heap.size + 1 + 1 + 1) (w.heap.size + 1 + 1 + 1 + 1) w W0 t S hg (by omega) kd h1 h2 b1 b2 e1 e2 ka ca kn kc cn cc HU.out hp HSe.out) (fun h k => h.trans k) (KeepK.turn (by omega) (by omega)) (Below.refl _ _) (fun _ => rfl)
    (fun pre W => Boxed W (w.heap.size + 1 + 1 + 1) 3 (.int .i64 (endT 0 pre : Int)) ∧ Boxed W (w.heap.size + 1) 3 (.int .i64 (n : Int)) ∧ Boxed W (w.heap.size + 1 + 1) 4 (.bool false) ∧ Below w.heap.size w W ∧ okT n 0 pre)
    (fun c pre W => c = .ret ∧ Boxed W (w.heap.size + 1 + 1) 4 (.bool false) ∧ Below w.heap.size w W ∧ ¬ okT n 0 pre)
    (OwnFrom.and (Own.from (boxed_own _ _ _) _) (OwnFrom.and (Own.from (boxed_own _ _ _) _) (OwnFrom.and (Own.from (boxed_own _ _ _) _) (OwnFrom.and (ownFrom_below (Nat.le_refl _) (by omega)) (fun _ _ _ _ hs _ _ => hs)))))
    (fun _ => OwnFrom.and (fun _ _ _ _ hs _ _ => hs) (OwnFrom.and (Own.from (boxed_own _ _ _) _) (OwnFrom.and (ownFrom_below (Nat.le_refl _) (by omega)) (fun _ _ _ _ hs _ _ => hs))))
    ⟨bN, bV, bR, HSe.out.below, trivial⟩
    (fun x a' W => ∃ Bx, W.heap[Bx]? = some (.cells #[.int .i64 (x.1 : Int), .int .i64 (x.2.1 : Int), .int .i64 (x.2.2 : Int)] 145 (0, 0)) ∧ a' = Act.mk #[.agg #[.int .i64 kd, .int .i64 h1, .int .i64 h2, .int .i64 b1, .int .i64 b2, .slice ka kn kc, .slice ca cn cc, .int .i64 e1, .int .i64 e2], .int .i64 (n : Int), .pointer (some ⟨w.heap.size, 0, none⟩), .pointer (some ⟨w.heap.size + 1, 0, none⟩), .pointer (some ⟨w.heap.size + 1 + 1, 0, none⟩), .pointer (some ⟨w.heap.size + 1 + 1 + 1, 0, none⟩), .pointer (some ⟨Bx, 0, none⟩), .agg #[.int .i64 kd, .int .i64 h1, .int .i64 h2, .int .i64 b1, .int .i64 b2, .slice ka kn kc, .slice ca cn cc, .int .i64 e1, .int .i64 e2],
        .func (.func 98) #[] #[.pointer (some ⟨w.heap.size + 1 + 1 + 1 + 1, 0, none⟩)], tlV x, undef, undef, undef, undef, undef, undef, undef, undef, undef, undef, undef, undef, undef, undef, undef, undef, undef, undef] [])
    (fun x a' _ X Y row hs hg hr => by
      obtain ⟨Bx, h2, h3⟩ := hs
      refine ⟨Bx, (hg.block Bx (Array.getElem?_eq_some_iff.1 h2).1 (fun e => ?_)).trans h2, h3⟩
      obtain ⟨_, o, ho, hc⟩ := hr Bx e.symm
      rw [h2] at ho
      cases ho
      cases hc)
    ?assign ?body ?done ?stop
  case assign =>
    rintro lp pre x W K ⟨hb, hv, hr, hB, hok⟩ hK
    simp only [tlV]
    gi_wp2
    refine hK _ _ ((KeepsOthers.alloc _ _).from _) (KeepK.grow hB.size hb.lt (below_new _ _)) ⟨hb.alloc _, hv.alloc _, hr.alloc _, hB.alloc hB.size _, hok⟩ ⟨W.heap.size, heap_alloc_new W _, ?_⟩
    simp [tlV]
  case body =>
    rintro lp pre x a' W _ _ ⟨hb, hv, hr, hB, hok⟩ ⟨Bx, hBx, rfl⟩ hlt
    obtain ⟨k, f, tb⟩ := x
    have hc1 := hb.cell
    have hf1 := hb.frozen
    have hc2 := hv.cell
    have hc3 := hr.cell
    have hf3 := hr.frozen
    have x0 : W.cell? ⟨Bx, 0, none⟩ = some (.int .i64 (k : Int)) := by simp [World.cell?, hBx]
    have x1 : W.cell? ⟨Bx, 1, none⟩ = some (.int .i64 (f : Int)) := by simp [World.cell?, hBx]
    have x2 : W.cell? ⟨Bx, 2, none⟩ = some (.int .i64 (tb : Int)) := by simp [World.cell?, hBx]
    have HS := Lib.hid (okT_snoc n pre 0 (k, f, tb))
    have HEn := Lib.hid (endT_snoc pre 0 (k, f, tb))
    have HI := Lib.hid (And.intro hb (And.intro hv (And.intro hr (And.intro hB hok))))
    obtain ⟨at0, hat⟩ : ∃ at0, at0 = endT 0 pre := ⟨_, rfl⟩
    rw [← hat] at hc1 HS HI
    clear hat hb hv hr hB hok
    by_cases hf : f = at0
    · subst hf
      have t1 : ((f : Int) != (f : Int)) = false := bne_no rfl
      have HW := Lib.hid (within_any (f : Int) (tb : Int) (n : Int) W)
      have HBx := Lib.hid hBx
      clear hBx
      by_cases hin : f ≤ tb ∧ tb ≤ n
      · have HT : Hid (withinB (f : Int) (tb : Int) (n : Int) = true) := withinB_yes ⟨by omega, by omega, by omega⟩
        gi_wp2
        refine ⟨trivial, ?_⟩
        refine (CallsIn.inRound lp (callsIn_wide.2 HW.out)).mono ?_
        rintro e w5 ⟨rfl, hb5⟩
        rw [HT.out]
        have HQ : Hid (KeepsOthers W w5) := .of_grownBy (below_grown hb5) (fun _ _ e => by cases e)
        have HK5 : Hid (KeepK w.heap.size (w.heap.size + 1 + 1 + 1) W w5) := KeepK.grow HI.out.2.2.2.1.size HI.out.1.lt hb5
        have hb' : Boxed w5 (w.heap.size + 1 + 1 + 1) 3 (.int .i64 (f : Int)) := HI.out.1.kept (below_grown hb5) (by simp)
        have hv' : Boxed w5 (w.heap.size + 1) 3 (.int .i64 (n : Int)) := HI.out.2.1.kept (below_grown hb5) (by simp)
        have hr' : Boxed w5 (w.heap.size + 1 + 1) 4 (.bool false) := HI.out.2.2.1.kept (below_grown hb5) (by simp)
        have hB' : Below w.heap.size w w5 := HI.out.2.2.2.1.trans (hb5.mono HI.out.2.2.2.1.size)
        have hX5 : w5.heap[Bx]? = some (.cells #[.int .i64 (k : Int), .int .i64 (f : Int), .int .i64 (tb : Int)] 145 (0, 0)) := (hb5.block Bx (Array.getElem?_eq_some_iff.1 HBx.out).1).trans HBx.out
        have y2 : w5.cell? ⟨Bx, 2, none⟩ = some (.int .i64 (tb : Int)) := by simp [World.cell?, hX5]
        have d1 := hb'.cell
        have d2 := hb'.frozen
        have HI5 := Lib.hid (And.intro hb' (And.intro hv' (And.intro hr' hB')))
        clear hb5 x0 x1 x2 hc1 hf1 hc2 hc3 hf3 hX5 hb' hv' hr' hB'
        have HOk : Hid (okT n 0 (pre ++ [(k, f, tb)])) := HS.out.2 ⟨HI.out.2.2.2.2, by trivial, hin⟩
        gi_wp2
        refine ⟨(HQ.out.trans (KeepsOthers.setCell _ _ _)).from _, HK5.out.trans (keep_set HI5.out.1 (by omega) rfl), ?_, HI5.out.2.1.other (by omega) _, HI5.out.2.2.1.other (by omega) _, HI5.out.2.2.2.setCell (p := ⟨w.heap.size + 1 + 1 + 1, 0, none⟩) (by simp; omega) _, HOk.out⟩
        rw [HEn.out]
        exact HI5.out.1.set _
      · have HT : Hid (withinB (f : Int) (tb : Int) (n : Int) = false) := withinB_no (by omega)
        have HX : Hid (¬ okT n 0 (pre ++ [(k, f, tb)])) := fun h => hin (by have := HS.out.1 h; exact ⟨this.2.2.1, this.2.2.2⟩)
        gi_wp2
        refine ⟨trivial, ?_⟩
        refine (CallsIn.inRound lp (callsIn_wide.2 HW.out)).mono ?_
        rintro e w5 ⟨rfl, hb5⟩
        rw [HT.out]
        have HQ : Hid (KeepsOthers W w5) := .of_grownBy (below_grown hb5) (fun _ _ e => by cases e)
        have hr' : Boxed w5 (w.heap.size + 1 + 1) 4 (.bool false) := HI.out.2.2.1.kept (below_grown hb5) (by simp)
        have hB' : Below w.heap.size w w5 := HI.out.2.2.2.1.trans (hb5.mono HI.out.2.2.2.1.size)
        have HRB := Lib.hid (And.intro hr' hB')
        have d1 := hr'.cell
        have d2 := hr'.frozen
        clear hb5 x0 x1 x2 hc1 hf1 hc2 hc3 hf3 hr' hB'
        gi_wp2
        exact ⟨(HQ.out.trans (KeepsOthers.setCell _ _ _)).from _, rfl, HRB.out.1.set _, HRB.out.2.setCell (p := ⟨w.heap.size + 1 + 1, 0, none⟩) (by simp; omega) _, HX.out⟩
    · have t1 : ((f : Int) != (at0 : Int)) = true := by simp; omega
      have HX : Hid (¬ okT n 0 (pre ++ [(k, f, tb)])) := fun h => hf (HS.out.1 h).2.1
      clear hBx
      gi_wp2
      refine ⟨trivial, ?_⟩
      gi_wp2
      exact ⟨(KeepsOthers.setCell _ _ _).from _, rfl, HI.out.2.2.1.set _, HI.out.2.2.2.1.setCell (p := ⟨w.heap.size + 1 + 1, 0, none⟩) (by simp; omega) _, HX.out⟩
  case done =>
    rintro D ys W hD rfl ⟨hb, hv, hr, hB, hok⟩ hK
    have HOk := Lib.hid hok
    clear hok
    obtain ⟨z, hz⟩ : ∃ z, z = endT 0 (tilesT t) := ⟨_, rfl⟩
    rw [← hz] at hb
    have HZ := Lib.hid hz
    clear hz
    have hc0 := hb.cell
    have hc2 := hv.cell
    have hc1 := hr.cell
    have hf1 := hr.frozen
    obtain ⟨bb, hbb⟩ : ∃ bb, ((z : Int) == (n : Int)) = bb := ⟨_, rfl⟩
    have HIff : Hid (bb = true ↔ chainT 0 n (tilesT t)) := by
      unfold Hid
      rw [← hbb]
      constructor
      · intro h
        have h2 : (z : Int) = (n : Int) := by simpa using h
        exact chain_ok HOk.out (by rw [← HZ.out]; omega)
      · intro h
        have h2 := (chainT_ok h).2
        rw [← HZ.out] at h2
        rw [h2]
        simp
    have hr2 := hr.set (.bool bb)
    have hK2 := (KeepsOthers.setCell W (⟨w.heap.size + 1 + 1, 0, none⟩ : Addr) (.bool bb)).same D _ hK rfl
    gi_wp2
    refine ⟨by simp, .inl ⟨_, _, rfl, run_takeDeferred hK2, ?_⟩⟩
    refine ⟨_, results_cell_bool rfl _ _ (w.heap.size + 1 + 1) bb rfl (boxed_put hr2 _ hK2), bb, rfl, HIff.out, ?_⟩
    exact (hB.setCell (p := ⟨w.heap.size + 1 + 1, 0, none⟩) (by simp; omega) _).trans (belowK_b (w := w) (Nat.le_refl _) _ D _ _ (by omega) hK2 rfl rfl)
  case stop =>
    rintro D c pre W hD ⟨r, hr0⟩ ⟨rfl, hr, hB, hno⟩ hK
    have hgt : ¬ chainT 0 n (tilesT t) := fun h => by
      have h2 := (chainT_ok h).1
      rw [← hr0] at h2
      exact hno (okT_front n pre r 0 h2)
    gi_wp2
    refine ⟨by simp, .inl ⟨_, _, rfl, run_takeDeferred hK, ?_⟩⟩
    refine ⟨_, results_cell_bool rfl _ _ (w.heap.size + 1 + 1) false rfl (boxed_put hr _ hK), false, rfl, ⟨fun h => (by cases h), fun h => absurd h hgt⟩, ?_⟩
    exact hB.trans (belowK_b (w := w) (Nat.le_refl _) _ D _ _ (by omega) hK rfl rfl)
end Go.Proofs.YtedminjnnhlknaaGreatDoor

/- Contracts of package tiles: Check, of a tree of any make. -/
namespace Go.Proofs.YtedminjnnhlknaaGreatDoor
open Go Go.RowKit

theorem isBigB_no {S : Nat → Prop} (t : Tr) (hcb : countT t ≤ 1000000) (hd : deepT t ≤ 32) (h : ¬ 1000 < countT t) (kd h1 h2 b1 b2 e1 e2 : Int) (ka ca : Option Addr) (kn kc cn cc : Nat) (w : World) (hu : treeAt S w t (.agg #[.int .i64 kd, .int .i64 h1, .int .i64 h2, .int .i64 b1, .int .i64 b2, .slice ka kn kc, .slice ca cn cc, .int .i64 e1, .int .i64 e2])) : Calls Tryz.prog 37 #[.agg #[.int .i64 kd, .int .i64 h1, .int .i64 h2, .int .i64 b1, .int .i64 b2, .slice ka kn kc, .slice ca cn cc, .int .i64 e1, .int .i64 e2]] w fun e w' => e = .returned (.bool false) ∧ Below w.heap.size w w' :=
  (isBigB_any t hcb hd kd h1 h2 b1 b2 e1 e2 ka ca kn kc cn cc w hu).mono (by
    rintro e w' ⟨bb, rfl, hbb, hb⟩
    cases bb
    · exact ⟨rfl, hb⟩
    · exact absurd (hbb.1 rfl) h)
theorem isBigB_yes {S : Nat → Prop} (t : Tr) (hcb : countT t ≤ 1000000) (hd : deepT t ≤ 32) (h : 1000 < countT t) (kd h1 h2 b1 b2 e1 e2 : Int) (ka ca : Option Addr) (kn kc cn cc : Nat) (w : World) (hu : treeAt S w t (.agg #[.int .i64 kd, .int .i64 h1, .int .i64 h2, .int .i64 b1, .int .i64 b2, .slice ka kn kc, .slice ca cn cc, .int .i64 e1, .int .i64 e2])) : Calls Tryz.prog 37 #[.agg #[.int .i64 kd, .int .i64 h1, .int .i64 h2, .int .i64 b1, .int .i64 b2, .slice ka kn kc, .slice ca cn cc, .int .i64 e1, .int .i64 e2]] w fun e w' => e = .returned (.bool true) ∧ Below w.heap.size w w' :=
  (isBigB_any t hcb hd kd h1 h2 b1 b2 e1 e2 ka ca kn kc cn cc w hu).mono (by
    rintro e w' ⟨bb, rfl, hbb, hb⟩
    cases bb
    · exact absurd (hbb.2 h) (by decide)
    · exact ⟨rfl, hb⟩)
theorem areFormedB_no {S : Nat → Prop} (t : Tr) (hcb : countT t ≤ 1000000) (hd : deepT t ≤ 32) (h : ¬ goodT t) (kd h1 h2 b1 b2 e1 e2 : Int) (ka ca : Option Addr) (kn kc cn cc : Nat) (w : World) (hu : treeAt S w t (.agg #[.int .i64 kd, .int .i64 h1, .int .i64 h2, .int .i64 b1, .int .i64 b2, .slice ka kn kc, .slice ca cn cc, .int .i64 e1, .int .i64 e2])) : Calls Tryz.prog 39 #[.agg #[.int .i64 kd, .int .i64 h1, .int .i64 h2, .int .i64 b1, .int .i64 b2, .slice ka kn kc, .slice ca cn cc, .int .i64 e1, .int .i64 e2]] w fun e w' => e = .returned (.bool false) ∧ Below w.heap.size w w' :=
  (areFormedB_any t hcb hd kd h1 h2 b1 b2 e1 e2 ka ca kn kc cn cc w hu).mono (by
    rintro e w' ⟨bb, rfl, hbb, hb⟩
    cases bb
    · exact ⟨rfl, hb⟩
    · exact absurd (hbb.1 rfl) h)
theorem areFormedB_yes {S : Nat → Prop} (t : Tr) (hcb : countT t ≤ 1000000) (hd : deepT t ≤ 32) (h : goodT t) (kd h1 h2 b1 b2 e1 e2 : Int) (ka ca : Option Addr) (kn kc cn cc : Nat) (w : World) (hu : treeAt S w t (.agg #[.int .i64 kd, .int .i64 h1, .int .i64 h2, .int .i64 b1, .int .i64 b2, .slice ka kn kc, .slice ca cn cc, .int .i64 e1, .int .i64 e2])) : Calls Tryz.prog 39 #[.agg #[.int .i64 kd, .int .i64 h1, .int .i64 h2, .int .i64 b1, .int .i64 b2, .slice ka kn kc, .slice ca cn cc, .int .i64 e1, .int .i64 e2]] w fun e w' => e = .returned (.bool true) ∧ Below w.heap.size w w' :=
  (areFormedB_any t hcb hd kd h1 h2 b1 b2 e1 e2 ka ca kn kc cn cc w hu).mono (by
    rintro e w' ⟨bb, rfl, hbb, hb⟩
    cases bb
    · exact absurd (hbb.2 h) (by decide)
    · exact ⟨rfl, hb⟩)
theorem isLaidB_no {S : Nat → Prop} (t : Tr) (hg : goodT t) (hcb : countT t ≤ 1000) (n : Nat) (h : ¬ chainT 0 n (tilesT t)) (kd h1 h2 b1 b2 e1 e2 : Int) (ka ca : Option Addr) (kn kc cn cc : Nat) (w : World) (hu : treeAt S w t (.agg #[.int .i64 kd, .int .i64 h1, .int .i64 h2, .int .i64 b1, .int .i64 b2, .slice ka kn kc, .slice ca cn cc, .int .i64 e1, .int .i64 e2])) : Calls Tryz.prog 40 #[.agg #[.int .i64 kd, .int .i64 h1, .int .i64 h2, .int .i64 b1, .int .i64 b2, .slice ka kn kc, .slice ca cn cc, .int .i64 e1, .int .i64 e2], .int .i64 (n : Int)] w fun e w' => e = .returned (.bool false) ∧ Below w.heap.size w w' :=
  (isLaidB_any t hg hcb n kd h1 h2 b1 b2 e1 e2 ka ca kn kc cn cc w hu).mono (by
    rintro e w' ⟨bb, rfl, hbb, hb⟩
    cases bb
    · exact ⟨rfl, hb⟩
    · exact absurd (hbb.1 rfl) h)
set_option maxRecDepth 100000 in
set_option maxHeartbeats 4000000 in
theorem checkB_big {S : Nat → Prop} (t : Tr) (hcb : countT t ≤ 1000000) (hd : deepT t ≤ 32) (hbg : 1000 < countT t) (n : Int) (kd h1 h2 b1 b2 e1 e2 : Int) (ka ca : Option Addr) (kn kc cn cc : Nat) (w : World) (hu : treeAt S w t (.agg #[.int .i64 kd, .int .i64 h1, .int .i64 h2, .int .i64 b1, .int .i64 b2, .slice ka kn kc, .slice ca cn cc, .int .i64 e1, .int .i64 e2])) :
    Calls Tryz.prog 16 #[.agg #[.int .i64 kd, .int .i64 h1, .int .i64 h2, .int .i64 b1, .int .i64 b2, .slice ka kn kc, .slice ca cn cc, .int .i64 e1, .int .i64 e2], .int .i64 n] w fun e w' => e = .returned (.int .i64 13) ∧ Below w.heap.size w w' := by
  have HU := Lib.hid (fun W (hb : Below w.heap.size w W) => isBigB_yes t hcb hd hbg kd h1 h2 b1 b2 e1 e2 ka ca kn kc cn cc W (treeAt_below hu hb))
  have hB := below_new w (.cells #[.int .i64 kd, .int .i64 h1, .int .i64 h2, .int .i64 b1, .int .i64 b2, .slice ka kn kc, .slice ca cn cc, .int .i64 e1, .int .i64 e2] 31)
  have hl := heap_alloc_new w (.cells #[.int .i64 kd, .int .i64 h1, .int .i64 h2, .int .i64 b1, .int .i64 b2, .slice ka kn kc, .slice ca cn cc, .int .i64 e1, .int .i64 e2] 31)
  obtain ⟨X, hX⟩ : ∃ X, X = w.alloc (.cells #[.int .i64 kd, .int .i64 h1, .int .i64 h2, .int .i64 b1, .int .i64 b2, .slice ka kn kc, .slice ca cn cc, .int .i64 e1, .int .i64 e2] 31) := ⟨_, rfl⟩
  rw [← hX] at hB hl
  have HX := Lib.hid hX
  have HB := Lib.hid hB
  have HL := Lib.hid hl
  clear hX hB hl hu
  go_enter Tryz.func16, Tryz.ntmps16
  go_wp2_with fail
  rw [← HX.out]
  with_reducible refine (HU.out _ ?h1).mono ?_
  case h1 => exact HB.out
  rintro e w2 ⟨rfl, hb2⟩
  have HB2 := Lib.hid (HB.out.trans (hb2.mono HB.out.size))
  clear hb2 HU
  go_wp2_with fail
  go_ret
  exact ⟨rfl, HB2.out⟩
set_option maxRecDepth 100000 in
set_option maxHeartbeats 4000000 in
theorem checkB_bytes {S : Nat → Prop} (t : Tr) (hcb : countT t ≤ 1000000) (hd : deepT t ≤ 32) (hbg : ¬ 1000 < countT t) (n : Int) (kd h1 h2 b1 b2 e1 e2 : Int) (hn : ¬ (h1 = 0 ∧ b2 = n)) (ka ca : Option Addr) (kn kc cn cc : Nat) (w : World) (hu : treeAt S w t (.agg #[.int .i64 kd, .int .i64 h1, .int .i64 h2, .int .i64 b1, .int .i64 b2, .slice ka kn kc, .slice ca cn cc, .int .i64 e1, .int .i64 e2])) :
    Calls Tryz.prog 16 #[.agg #[.int .i64 kd, .int .i64 h1, .int .i64 h2, .int .i64 b1, .int .i64 b2, .slice ka kn kc, .slice ca cn cc, .int .i64 e1, .int .i64 e2], .int .i64 n] w fun e w' => e = .returned (.int .i64 11) ∧ Below w.heap.size w w' := by
  have HU := Lib.hid (fun W (hb : Below w.heap.size w W) => isBigB_no t hcb hd hbg kd h1 h2 b1 b2 e1 e2 ka ca kn kc cn cc W (treeAt_below hu hb))
  have HT := Lib.hid (fun W => tbytesI_any kd h1 h2 b1 b2 e1 e2 ka ca kn kc cn cc W)
  have ks : ∀ W, (binOp .neq 27 (.agg #[.int .i64 h1, .int .i64 b2]) (.agg #[.int .i64 0, .int .i64 n])).run Tryz.prog W = .ok (.bool true) W := fun W => by
    rw [span_neq]
    have : (h1 == 0 && b2 == n) = false := by
      cases hh : (h1 == 0 && b2 == n) with
      | false => rfl
      | true => exact absurd (by simpa using hh) hn
    rw [this]
    rfl
  have hB := below_new w (.cells #[.int .i64 kd, .int .i64 h1, .int .i64 h2, .int .i64 b1, .int .i64 b2, .slice ka kn kc, .slice ca cn cc, .int .i64 e1, .int .i64 e2] 31)
  have hl := heap_alloc_new w (.cells #[.int .i64 kd, .int .i64 h1, .int .i64 h2, .int .i64 b1, .int .i64 b2, .slice ka kn kc, .slice ca cn cc, .int .i64 e1, .int .i64 e2] 31)
  obtain ⟨X, hX⟩ : ∃ X, X = w.alloc (.cells #[.int .i64 kd, .int .i64 h1, .int .i64 h2, .int .i64 b1, .int .i64 b2, .slice ka kn kc, .slice ca cn cc, .int .i64 e1, .int .i64 e2] 31) := ⟨_, rfl⟩
  rw [← hX] at hB hl
  have HX := Lib.hid hX
  have HB := Lib.hid hB
  have HL := Lib.hid hl
  clear hX hB hl hu hn
  go_enter Tryz.func16, Tryz.ntmps16
  go_wp2_with fail
  rw [← HX.out]
  with_reducible refine (HU.out _ ?h1).mono ?_
  case h1 => exact HB.out
  rintro e w2 ⟨rfl, hb2⟩
  have HB2 := Lib.hid (HB.out.trans (hb2.mono HB.out.size))
  have hl2 : w2.heap[w.heap.size]? = some (.cells #[.int .i64 kd, .int .i64 h1, .int .i64 h2, .int .i64 b1, .int .i64 b2, .slice ka kn kc, .slice ca cn cc, .int .i64 e1, .int .i64 e2] 31 (0, 0)) := (hb2.block _ (Array.getElem?_eq_some_iff.1 HL.out).1).trans HL.out
  have c0 : w2.cell? ⟨w.heap.size, 0, none⟩ = some (.int .i64 kd) := by simp [World.cell?, hl2]
  have c1 : w2.cell? ⟨w.heap.size, 1, none⟩ = some (.int .i64 h1) := by simp [World.cell?, hl2]
  have c2 : w2.cell? ⟨w.heap.size, 2, none⟩ = some (.int .i64 h2) := by simp [World.cell?, hl2]
  have c3 : w2.cell? ⟨w.heap.size, 3, none⟩ = some (.int .i64 b1) := by simp [World.cell?, hl2]
  have c4 : w2.cell? ⟨w.heap.size, 4, none⟩ = some (.int .i64 b2) := by simp [World.cell?, hl2]
  have c5 : w2.cell? ⟨w.heap.size, 5, none⟩ = some (.slice ka kn kc) := by simp [World.cell?, hl2]
  have c6 : w2.cell? ⟨w.heap.size, 6, none⟩ = some (.slice ca cn cc) := by simp [World.cell?, hl2]
  have c7 : w2.cell? ⟨w.heap.size, 7, none⟩ = some (.int .i64 e1) := by simp [World.cell?, hl2]
  have c8 : w2.cell? ⟨w.heap.size, 8, none⟩ = some (.int .i64 e2) := by simp [World.cell?, hl2]
  clear hb2 hl2 HU
  go_wp2_with fail
  with_reducible refine (HT.out _).mono ?_
  rintro e w3 ⟨rfl, hb3⟩
  have HB3 := Lib.hid (HB2.out.trans (hb3.mono HB2.out.size))
  clear hb3 c0 c1 c2 c3 c4 c5 c6 c7 c8
  go_wp2_with fail
  go_ret
  exact ⟨rfl, HB3.out⟩
set_option maxRecDepth 100000 in
set_option maxHeartbeats 4000000 in
theorem checkB_form {S : Nat → Prop} (t : Tr) (L : Nat) (hcb : countT t ≤ 1000) (hd : deepT t ≤ 32) (hng : ¬ goodT t) (kd h2 b1 e1 e2 : Int) (ka ca : Option Addr) (kn kc cn cc : Nat) (w : World) (hu : treeAt S w t (.agg #[.int .i64 kd, .int .i64 0, .int .i64 h2, .int .i64 b1, .int .i64 (L : Int), .slice ka kn kc, .slice ca cn cc, .int .i64 e1, .int .i64 e2])) :
    Calls Tryz.prog 16 #[.agg #[.int .i64 kd, .int .i64 0, .int .i64 h2, .int .i64 b1, .int .i64 (L : Int), .slice ka kn kc, .slice ca cn cc, .int .i64 e1, .int .i64 e2], .int .i64 (L : Int)] w fun e w' => e = .returned (.int .i64 11) ∧ Below w.heap.size w w' := by
  have HU := Lib.hid (fun W (hb : Below w.heap.size w W) => isBigB_no t (by omega) hd (by omega) kd 0 h2 b1 (L : Int) e1 e2 ka ca kn kc cn cc W (treeAt_below hu hb))
  have HF := Lib.hid (fun W (hb : Below w.heap.size w W) => areFormedB_no t (by omega) hd hng kd 0 h2 b1 (L : Int) e1 e2 ka ca kn kc cn cc W (treeAt_below hu hb))
  have HT := Lib.hid (fun W => tbytesI_any kd 0 h2 b1 (L : Int) e1 e2 ka ca kn kc cn cc W)
  have ks : ∀ W, (binOp .neq 27 (.agg #[.int .i64 0, .int .i64 (L : Int)]) (.agg #[.int .i64 0, .int .i64 (L : Int)])).run Tryz.prog W = .ok (.bool false) W := fun W => by
    rw [span_neq]
    simp
  have hB := below_new w (.cells #[.int .i64 kd, .int .i64 0, .int .i64 h2, .int .i64 b1, .int .i64 (L : Int), .slice ka kn kc, .slice ca cn cc, .int .i64 e1, .int .i64 e2] 31)
  have hl := heap_alloc_new w (.cells #[.int .i64 kd, .int .i64 0, .int .i64 h2, .int .i64 b1, .int .i64 (L : Int), .slice ka kn kc, .slice ca cn cc, .int .i64 e1, .int .i64 e2] 31)
  obtain ⟨X, hX⟩ : ∃ X, X = w.alloc (.cells #[.int .i64 kd, .int .i64 0, .int .i64 h2, .int .i64 b1, .int .i64 (L : Int), .slice ka kn kc, .slice ca cn cc, .int .i64 e1, .int .i64 e2] 31) := ⟨_, rfl⟩
  rw [← hX] at hB hl
  have HX := Lib.hid hX
  have HB := Lib.hid hB
  have HL := Lib.hid hl
  clear hX hB hl hu
  go_enter Tryz.func16, Tryz.ntmps16
  go_wp2_with fail
  rw [← HX.out]
  with_reducible refine (HU.out _ ?h1).mono ?_
  case h1 => exact HB.out
  rintro e w2 ⟨rfl, hb2⟩
  have HB2 := Lib.hid (HB.out.trans (hb2.mono HB.out.size))
  have HL2 : Hid (w2.heap[w.heap.size]? = some (.cells #[.int .i64 kd, .int .i64 0, .int .i64 h2, .int .i64 b1, .int .i64 (L : Int), .slice ka kn kc, .slice ca cn cc, .int .i64 e1, .int .i64 e2] 31 (0, 0))) := (hb2.block _ (Array.getElem?_eq_some_iff.1 HL.out).1).trans HL.out
  have hl := HL2.out
  have c0 : w2.cell? ⟨w.heap.size, 0, none⟩ = some (.int .i64 kd) := by simp [World.cell?, hl]
  have c1 : w2.cell? ⟨w.heap.size, 1, none⟩ = some (.int .i64 0) := by simp [World.cell?, hl]
  have c2 : w2.cell? ⟨w.heap.size, 2, none⟩ = some (.int .i64 h2) := by simp [World.cell?, hl]
  have c3 : w2.cell? ⟨w.heap.size, 3, none⟩ = some (.int .i64 b1) := by simp [World.cell?, hl]
  have c4 : w2.cell? ⟨w.heap.size, 4, none⟩ = some (.int .i64 (L : Int)) := by simp [World.cell?, hl]
  have c5 : w2.cell? ⟨w.heap.size, 5, none⟩ = some (.slice ka kn kc) := by simp [World.cell?, hl]
  have c6 : w2.cell? ⟨w.heap.size, 6, none⟩ = some (.slice ca cn cc) := by simp [World.cell?, hl]
  have c7 : w2.cell? ⟨w.heap.size, 7, none⟩ = some (.int .i64 e1) := by simp [World.cell?, hl]
  have c8 : w2.cell? ⟨w.heap.size, 8, none⟩ = some (.int .i64 e2) := by simp [World.cell?, hl]
  clear hb2 hl
  go_wp2_with fail
  with_reducible refine (HT.out _).mono ?_
  clear c0 c1 c2 c3 c4 c5 c6 c7 c8
  rintro e w3 ⟨rfl, hb3⟩
  have HB3 := Lib.hid (HB2.out.trans (hb3.mono HB2.out.size))
  have HL3 : Hid (w3.heap[w.heap.size]? = some (.cells #[.int .i64 kd, .int .i64 0, .int .i64 h2, .int .i64 b1, .int .i64 (L : Int), .slice ka kn kc, .slice ca cn cc, .int .i64 e1, .int .i64 e2] 31 (0, 0))) := (hb3.block _ (Array.getElem?_eq_some_iff.1 HL2.out).1).trans HL2.out
  have hl := HL3.out
  have c0 : w3.cell? ⟨w.heap.size, 0, none⟩ = some (.int .i64 kd) := by simp [World.cell?, hl]
  have c1 : w3.cell? ⟨w.heap.size, 1, none⟩ = some (.int .i64 0) := by simp [World.cell?, hl]
  have c2 : w3.cell? ⟨w.heap.size, 2, none⟩ = some (.int .i64 h2) := by simp [World.cell?, hl]
  have c3 : w3.cell? ⟨w.heap.size, 3, none⟩ = some (.int .i64 b1) := by simp [World.cell?, hl]
  have c4 : w3.cell? ⟨w.heap.size, 4, none⟩ = some (.int .i64 (L : Int)) := by simp [World.cell?, hl]
  have c5 : w3.cell? ⟨w.heap.size, 5, none⟩ = some (.slice ka kn kc) := by simp [World.cell?, hl]
  have c6 : w3.cell? ⟨w.heap.size, 6, none⟩ = some (.slice ca cn cc) := by simp [World.cell?, hl]
  have c7 : w3.cell? ⟨w.heap.size, 7, none⟩ = some (.int .i64 e1) := by simp [World.cell?, hl]
  have c8 : w3.cell? ⟨w.heap.size, 8, none⟩ = some (.int .i64 e2) := by simp [World.cell?, hl]
  clear hb3 hl
  go_wp2_with fail
  with_reducible refine (HF.out _ HB3.out).mono ?_
  clear c0 c1 c2 c3 c4 c5 c6 c7 c8
  rintro e w4 ⟨rfl, hb4⟩
  have HB4 := Lib.hid (HB3.out.trans (hb4.mono HB3.out.size))
  clear hb4
  go_wp2_with fail
  go_ret
  exact ⟨rfl, HB4.out⟩
set_option maxRecDepth 100000 in
set_option maxHeartbeats 4000000 in
theorem checkB_laid {S : Nat → Prop} (t : Tr) (L : Nat) (hg : goodT t) (hcb : countT t ≤ 1000) (hd : deepT t ≤ 32) (hch : ¬ chainT 0 L (tilesT t)) (kd h2 b1 e1 e2 : Int) (ka ca : Option Addr) (kn kc cn cc : Nat) (w : World) (hu : treeAt S w t (.agg #[.int .i64 kd, .int .i64 0, .int .i64 h2, .int .i64 b1, .int .i64 (L : Int), .slice ka kn kc, .slice ca cn cc, .int .i64 e1, .int .i64 e2])) :
    Calls Tryz.prog 16 #[.agg #[.int .i64 kd, .int .i64 0, .int .i64 h2, .int .i64 b1, .int .i64 (L : Int), .slice ka kn kc, .slice ca cn cc, .int .i64 e1, .int .i64 e2], .int .i64 (L : Int)] w fun e w' => e = .returned (.int .i64 11) ∧ Below w.heap.size w w' := by
  have HU := Lib.hid (fun W (hb : Below w.heap.size w W) => isBig_any t hg hcb hd kd 0 h2 b1 (L : Int) e1 e2 ka ca kn kc cn cc W (treeAt_below hu hb))
  have HF := Lib.hid (fun W (hb : Below w.heap.size w W) => areFormed_any t hg hcb hd kd 0 h2 b1 (L : Int) e1 e2 ka ca kn kc cn cc W (treeAt_below hu hb))
  have HLd := Lib.hid (fun W (hb : Below w.heap.size w W) => isLaidB_no t hg hcb L hch kd 0 h2 b1 (L : Int) e1 e2 ka ca kn kc cn cc W (treeAt_below hu hb))
  have HT := Lib.hid (fun W => tbytesI_any kd 0 h2 b1 (L : Int) e1 e2 ka ca kn kc cn cc W)
  have ks : ∀ W, (binOp .neq 27 (.agg #[.int .i64 0, .int .i64 (L : Int)]) (.agg #[.int .i64 0, .int .i64 (L : Int)])).run Tryz.prog W = .ok (.bool false) W := fun W => by
    rw [span_neq]
    simp
  have hB := below_new w (.cells #[.int .i64 kd, .int .i64 0, .int .i64 h2, .int .i64 b1, .int .i64 (L : Int), .slice ka kn kc, .slice ca cn cc, .int .i64 e1, .int .i64 e2] 31)
  have hl := heap_alloc_new w (.cells #[.int .i64 kd, .int .i64 0, .int .i64 h2, .int .i64 b1, .int .i64 (L : Int), .slice ka kn kc, .slice ca cn cc, .int .i64 e1, .int .i64 e2] 31)
  obtain ⟨X, hX⟩ : ∃ X, X = w.alloc (.cells #[.int .i64 kd, .int .i64 0, .int .i64 h2, .int .i64 b1, .int .i64 (L : Int), .slice ka kn kc, .slice ca cn cc, .int .i64 e1, .int .i64 e2] 31) := ⟨_, rfl⟩
  rw [← hX] at hB hl
  have HX := Lib.hid hX
  have HB := Lib.hid hB
  have HL := Lib.hid hl
  clear hX hB hl hu
  go_enter Tryz.func16, Tryz.ntmps16
  go_wp2_with fail
  rw [← HX.out]
  with_reducible refine (HU.out _ ?h1).mono ?_
  case h1 => exact HB.out
  rintro e w2 ⟨rfl, hb2⟩
  have HB2 := Lib.hid (HB.out.trans (hb2.mono HB.out.size))
  have HL2 : Hid (w2.heap[w.heap.size]? = some (.cells #[.int .i64 kd, .int .i64 0, .int .i64 h2, .int .i64 b1, .int .i64 (L : Int), .slice ka kn kc, .slice ca cn cc, .int .i64 e1, .int .i64 e2] 31 (0, 0))) := (hb2.block _ (Array.getElem?_eq_some_iff.1 HL.out).1).trans HL.out
  have hl := HL2.out
  have c0 : w2.cell? ⟨w.heap.size, 0, none⟩ = some (.int .i64 kd) := by simp [World.cell?, hl]
  have c1 : w2.cell? ⟨w.heap.size, 1, none⟩ = some (.int .i64 0) := by simp [World.cell?, hl]
  have c2 : w2.cell? ⟨w.heap.size, 2, none⟩ = some (.int .i64 h2) := by simp [World.cell?, hl]
  have c3 : w2.cell? ⟨w.heap.size, 3, none⟩ = some (.int .i64 b1) := by simp [World.cell?, hl]
  have c4 : w2.cell? ⟨w.heap.size, 4, none⟩ = some (.int .i64 (L : Int)) := by simp [World.cell?, hl]
  have c5 : w2.cell? ⟨w.heap.size, 5, none⟩ = some (.slice ka kn kc) := by simp [World.cell?, hl]
  have c6 : w2.cell? ⟨w.heap.size, 6, none⟩ = some (.slice ca cn cc) := by simp [World.cell?, hl]
  have c7 : w2.cell? ⟨w.heap.size, 7, none⟩ = some (.int .i64 e1) := by simp [World.cell?, hl]
  have c8 : w2.cell? ⟨w.heap.size, 8, none⟩ = some (.int .i64 e2) := by simp [World.cell?, hl]
  clear hb2 hl
  go_wp2_with fail
  with_reducible refine (HT.out _).mono ?_
  clear c0 c1 c2 c3 c4 c5 c6 c7 c8
  rintro e w3 ⟨rfl, hb3⟩
  have HB3 := Lib.hid (HB2.out.trans (hb3.mono HB2.out.size))
  have HL3 : Hid (w3.heap[w.heap.size]? = some (.cells #[.int .i64 kd, .int .i64 0, .int .i64 h2, .int .i64 b1, .int .i64 (L : Int), .slice ka kn kc, .slice ca cn cc, .int .i64 e1, .int .i64 e2] 31 (0, 0))) := (hb3.block _ (Array.getElem?_eq_some_iff.1 HL2.out).1).trans HL2.out
  have hl := HL3.out
  have c0 : w3.cell? ⟨w.heap.size, 0, none⟩ = some (.int .i64 kd) := by simp [World.cell?, hl]
  have c1 : w3.cell? ⟨w.heap.size, 1, none⟩ = some (.int .i64 0) := by simp [World.cell?, hl]
  have c2 : w3.cell? ⟨w.heap.size, 2, none⟩ = some (.int .i64 h2) := by simp [World.cell?, hl]
  have c3 : w3.cell? ⟨w.heap.size, 3, none⟩ = some (.int .i64 b1) := by simp [World.cell?, hl]
  have c4 : w3.cell? ⟨w.heap.size, 4, none⟩ = some (.int .i64 (L : Int)) := by simp [World.cell?, hl]
  have c5 : w3.cell? ⟨w.heap.size, 5, none⟩ = some (.slice ka kn kc) := by simp [World.cell?, hl]
  have c6 : w3.cell? ⟨w.heap.size, 6, none⟩ = some (.slice ca cn cc) := by simp [World.cell?, hl]
  have c7 : w3.cell? ⟨w.heap.size, 7, none⟩ = some (.int .i64 e1) := by simp [World.cell?, hl]
  have c8 : w3.cell? ⟨w.heap.size, 8, none⟩ = some (.int .i64 e2) := by simp [World.cell?, hl]
  clear hb3 hl
  go_wp2_with fail
  with_reducible refine (HF.out _ HB3.out).mono ?_
  clear c0 c1 c2 c3 c4 c5 c6 c7 c8
  rintro e w4 ⟨rfl, hb4⟩
  have HB4 := Lib.hid (HB3.out.trans (hb4.mono HB3.out.size))
  have HL4 : Hid (w4.heap[w.heap.size]? = some (.cells #[.int .i64 kd, .int .i64 0, .int .i64 h2, .int .i64 b1, .int .i64 (L : Int), .slice ka kn kc, .slice ca cn cc, .int .i64 e1, .int .i64 e2] 31 (0, 0))) := (hb4.block _ (Array.getElem?_eq_some_iff.1 HL3.out).1).trans HL3.out
  have hl := HL4.out
  have c0 : w4.cell? ⟨w.heap.size, 0, none⟩ = some (.int .i64 kd) := by simp [World.cell?, hl]
  have c1 : w4.cell? ⟨w.heap.size, 1, none⟩ = some (.int .i64 0) := by simp [World.cell?, hl]
  have c2 : w4.cell? ⟨w.heap.size, 2, none⟩ = some (.int .i64 h2) := by simp [World.cell?, hl]
  have c3 : w4.cell? ⟨w.heap.size, 3, none⟩ = some (.int .i64 b1) := by simp [World.cell?, hl]
  have c4 : w4.cell? ⟨w.heap.size, 4, none⟩ = some (.int .i64 (L : Int)) := by simp [World.cell?, hl]
  have c5 : w4.cell? ⟨w.heap.size, 5, none⟩ = some (.slice ka kn kc) := by simp [World.cell?, hl]
  have c6 : w4.cell? ⟨w.heap.size, 6, none⟩ = some (.slice ca cn cc) := by simp [World.cell?, hl]
  have c7 : w4.cell? ⟨w.heap.size, 7, none⟩ = some (.int .i64 e1) := by simp [World.cell?, hl]
  have c8 : w4.cell? ⟨w.heap.size, 8, none⟩ = some (.int .i64 e2) := by simp [World.cell?, hl]
  clear hb4 hl
  go_wp2_with fail
  with_reducible refine (HLd.out _ HB4.out).mono ?_
  clear c0 c1 c2 c3 c4 c5 c6 c7 c8
  rintro e w5 ⟨rfl, hb5⟩
  have HB5 := Lib.hid (HB4.out.trans (hb5.mono HB4.out.size))
  clear hb5
  go_wp2_with fail
  go_ret
  exact ⟨rfl, HB5.out⟩
/-- What Check tells of a tree of any make that isn't too deep. -/
theorem checkB_any (t : Tr) (n : Nat) (hcb : countT t ≤ 1000000) (hd : deepT t ≤ 32) : ∃ c : Int,
    (∀ (S : Nat → Prop) (W : World) (k0 a1 a2 a3 a4 : Int) (ka : Option Addr) (kn kc : Nat) (ca : Option Addr) (cn cc : Nat) (a7 a8 : Int), treeAt S W t (.agg #[.int .i64 k0, .int .i64 a1, .int .i64 a2, .int .i64 a3, .int .i64 a4, .slice ka kn kc, .slice ca cn cc, .int .i64 a7, .int .i64 a8]) →
      Calls Tryz.prog 16 #[.agg #[.int .i64 k0, .int .i64 a1, .int .i64 a2, .int .i64 a3, .int .i64 a4, .slice ka kn kc, .slice ca cn cc, .int .i64 a7, .int .i64 a8], .int .i64 (n : Int)] W fun e w' => e = .returned (.int .i64 c) ∧ Below W.heap.size W w') ∧
    (c = 0 ↔ countT t ≤ 1000 ∧ goodT t ∧ t.hd.1 = 0 ∧ t.bd.2 = n ∧ chainT 0 n (tilesT t)) := by
  have key : ∀ {S : Nat → Prop} {W : World} {k0 a1 a2 a3 a4 : Int} {ka : Option Addr} {kn kc : Nat} {ca : Option Addr} {cn cc : Nat} {a7 a8 : Int}, treeAt S W t (.agg #[.int .i64 k0, .int .i64 a1, .int .i64 a2, .int .i64 a3, .int .i64 a4, .slice ka kn kc, .slice ca cn cc, .int .i64 a7, .int .i64 a8]) → a1 = (t.hd.1 : Int) ∧ a4 = (t.bd.2 : Int) := fun hu => by
    obtain ⟨_, _, _, _, _, _, _, he, _, _, _⟩ := treeAt_open hu
    simp only [Value.agg.injEq, Array.mk.injEq, List.cons.injEq, Value.int.injEq] at he
    exact ⟨he.2.1.2, he.2.2.2.2.1.2⟩
  by_cases h1 : 1000 < countT t
  · exact ⟨13, fun S W k0 a1 a2 a3 a4 ka kn kc ca cn cc a7 a8 hu => checkB_big t hcb hd h1 n k0 a1 a2 a3 a4 a7 a8 ka ca kn kc cn cc W hu, ⟨fun h => absurd h (by decide), fun h => absurd h.1 (by omega)⟩⟩
  by_cases h2 : t.hd.1 = 0 ∧ t.bd.2 = n
  · by_cases h3 : goodT t
    · by_cases h4 : chainT 0 n (tilesT t)
      · refine ⟨0, fun S W k0 a1 a2 a3 a4 ka kn kc ca cn cc a7 a8 hu => ?_, ⟨fun _ => ⟨by omega, h3, h2.1, h2.2, h4⟩, fun _ => rfl⟩⟩
        obtain ⟨e1, e2⟩ := key hu
        rw [h2.1] at e1
        rw [h2.2] at e2
        subst e1 e2
        exact check_yes t n h3 (by omega) hd h4 k0 a2 a3 a7 a8 ka ca kn kc cn cc W hu
      · refine ⟨11, fun S W k0 a1 a2 a3 a4 ka kn kc ca cn cc a7 a8 hu => ?_, ⟨fun h => absurd h (by decide), fun h => absurd h.2.2.2.2 h4⟩⟩
        obtain ⟨e1, e2⟩ := key hu
        rw [h2.1] at e1
        rw [h2.2] at e2
        subst e1 e2
        exact checkB_laid t n h3 (by omega) hd h4 k0 a2 a3 a7 a8 ka ca kn kc cn cc W hu
    · refine ⟨11, fun S W k0 a1 a2 a3 a4 ka kn kc ca cn cc a7 a8 hu => ?_, ⟨fun h => absurd h (by decide), fun h => absurd h.2.1 h3⟩⟩
      obtain ⟨e1, e2⟩ := key hu
      rw [h2.1] at e1
      rw [h2.2] at e2
      subst e1 e2
      exact checkB_form t n (by omega) hd h3 k0 a2 a3 a7 a8 ka ca kn kc cn cc W hu
  · refine ⟨11, fun S W k0 a1 a2 a3 a4 ka kn kc ca cn cc a7 a8 hu => ?_, ⟨fun h => absurd h (by decide), fun h => absurd ⟨h.2.2.1, h.2.2.2.1⟩ h2⟩⟩
    obtain ⟨e1, e2⟩ := key hu
    exact checkB_bytes t hcb hd h1 n k0 a1 a2 a3 a4 a7 a8 (by omega) ka ca kn kc cn cc W hu
end Go.Proofs.YtedminjnnhlknaaGreatDoor
