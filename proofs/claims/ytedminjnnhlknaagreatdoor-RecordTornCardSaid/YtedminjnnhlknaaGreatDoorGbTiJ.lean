/- Contracts of package tiles: isBig, areFormed. -/
import Derived.Test.YtedminjnnhlknaaGreatDoorGbTiG
namespace Go.Proofs.YtedminjnnhlknaaGreatDoor
open Go Go.RowKit Go.Shelf
attribute [local go_sem] Oper.semAt_some
theorem results_cell_bool {fn : Func} {p : Tmp} (h : fn.results = #[.cell p 4]) (tmps : Array Value) (w : World) (B : Nat) (v : Bool) (hp : tmps.getD p undef = .pointer (some ⟨B, 0, none⟩)) (hc : w.cell? ⟨B, 0, none⟩ = some (.bool v)) :
  (results fn tmps).run Tryz.prog w = .ok (.bool v) w := by
 have hp' : tmps[p]?.getD undef = .pointer (some ⟨B, 0, none⟩) := by simpa using hp
 simp [results, h, hp', asAddr, go_sem, hc]
theorem on_new3 (w : World) (P R Q : Obj) (v : Value) (t : TypeId) (hv : v.ownBlock = none) : On w (w.heap.size + 1 + 1) ((((w.alloc P).alloc R).alloc (.cells #[v] t)).alloc Q) := by
 have b1 := (Boxed.new ((w.alloc P).alloc R) t v).alloc Q
 simp only [World.size_alloc] at b1
 refine ⟨((((Below.refl _ w).alloc (Nat.le_refl _) _).alloc (by simp) _).alloc (by simp; omega) _).alloc (by simp; omega) _, by simp; omega, fun k hk => ?_⟩
 rw [boxed_owns b1, hv] at hk
 rcases hk with h | h
 ·subst h; exact b1.lt
 ·cases h
theorem boxed_put {W : World} {B D : Nat} {t : TypeId} {v : Value} (h : Boxed W B t v) (o : Obj) (hK : W.heap[D]? = some (.deferred (some []))) : (W.putObj D o).cell? ⟨B, 0, none⟩ = some v := by
 have hne : B ≠ D := by
  rintro rfl
  rw [show W.heap[B]? = _ from h] at hK
  cases hK
 exact (World.cell?_of_block (a := ⟨B, 0, none⟩) (World.putObj_heap_other hne)).trans h.cell
set_option maxRecDepth 100000 in
set_option maxHeartbeats 4000000 in
theorem isBig_any {S : Nat → Prop} (t : Tr) (hg : goodT t) (hcb : countT t ≤ 1000) (hd : deepT t ≤ 32) (kd h1 h2 b1 b2 e1 e2 : Int) (ka ca : Option Addr) (kn kc cn cc : Nat) (w : World) (hu : treeAt S w t (.agg #[.int .i64 kd, .int .i64 h1, .int .i64 h2, .int .i64 b1, .int .i64 b2, .slice ka kn kc, .slice ca cn cc, .int .i64 e1, .int .i64 e2])) :
  Calls Tryz.prog 37 #[.agg #[.int .i64 kd, .int .i64 h1, .int .i64 h2, .int .i64 b1, .int .i64 b2, .slice ka kn kc, .slice ca cn cc, .int .i64 e1, .int .i64 e2]] w fun e w' => e = .returned (.bool false) ∧ Below w.heap.size w w' := by
 have HU := Lib.hid hu
 clear hu
 have HE := Lib.hid (fun W => tpartsI_any kd h1 h2 b1 b2 e1 e2 ka ca kn kc cn cc W)
 refine (callsIn_wide (n := 3)).1 ?_
 refine callsIn_of_wp_marks Tryz.func37 rfl trivial ?_ rfl
 simp only [Tryz.ntmps37, List.size_toArray, List.length_cons, List.length_nil, Nat.reduceAdd, Nat.reduceSub, Array.replicate_succ, Array.replicate_zero, List.push_toArray, List.append_toArray, List.nil_append, List.cons_append]
 gi_wp2
 refine ⟨trivial, ?_⟩
 with_reducible refine (callsIn_wide.2 (HE.out _)).mono ?_
 rintro e w1 ⟨rfl, rfl⟩
 gi_wp2
 have HSe := Lib.hid (on_new3 w (.cells #[.int .i64 kd, .int .i64 h1, .int .i64 h2, .int .i64 b1, .int .i64 b2, .slice ka kn kc, .slice ca cn cc, .int .i64 e1, .int .i64 e2] 31) (.cells #[.bool false] 4) (.cells #[.int .i64 kd, .int .i64 h1, .int .i64 h2, .int .i64 b1, .int .i64 b2, .slice ka kn kc, .slice ca cn cc, .int .i64 e1, .int .i64 e2] 31) (.int .i64 0) 3 rfl)
 have bR := ((Boxed.new (w.alloc (.cells #[.int .i64 kd, .int .i64 h1, .int .i64 h2, .int .i64 b1, .int .i64 b2, .slice ka kn kc, .slice ca cn cc, .int .i64 e1, .int .i64 e2] 31)) 4 (.bool false)).alloc (.cells #[.int .i64 0] 3)).alloc (.cells #[.int .i64 kd, .int .i64 h1, .int .i64 h2, .int .i64 b1, .int .i64 b2, .slice ka kn kc, .slice ca cn cc, .int .i64 e1, .int .i64 e2] 31)
 have bN := (Boxed.new ((w.alloc (.cells #[.int .i64 kd, .int .i64 h1, .int .i64 h2, .int .i64 b1, .int .i64 b2, .slice ka kn kc, .slice ca cn cc, .int .i64 e1, .int .i64 e2] 31)).alloc (.cells #[.bool false] 4)) 3 (.int .i64 0)).alloc (.cells #[.int .i64 kd, .int .i64 h1, .int .i64 h2, .int .i64 b1, .int .i64 b2, .slice ka kn kc, .slice ca cn cc, .int .i64 e1, .int .i64 e2] 31)
 have hp := heap_alloc_new (((w.alloc (.cells #[.int .i64 kd, .int .i64 h1, .int .i64 h2, .int .i64 b1, .int .i64 b2, .slice ka kn kc, .slice ca cn cc, .int .i64 e1, .int .i64 e2] 31)).alloc (.cells #[.bool false] 4)).alloc (.cells #[.int .i64 0] 3)) (.cells #[.int .i64 kd, .int .i64 h1, .int .i64 h2, .int .i64 b1, .int .i64 b2, .slice ka kn kc, .slice ca cn cc, .int .i64 e1, .int .i64 e2] 31)
 obtain ⟨W0, hW0⟩ : ∃ W0, (((w.alloc (.cells #[.int .i64 kd, .int .i64 h1, .int .i64 h2, .int .i64 b1, .int .i64 b2, .slice ka kn kc, .slice ca cn cc, .int .i64 e1, .int .i64 e2] 31)).alloc (.cells #[.bool false] 4)).alloc (.cells #[.int .i64 0] 3)).alloc (.cells #[.int .i64 kd, .int .i64 h1, .int .i64 h2, .int .i64 b1, .int .i64 b2, .slice ka kn kc, .slice ca cn cc, .int .i64 e1, .int .i64 e2] 31) = W0 := ⟨_, rfl⟩
 have hsz : W0.heap.size = w.heap.size + 4 := by rw [← hW0]; simp
 simp only [World.size_alloc] at bN bR hp
 rw [hW0] at HSe bN bR hp ⊢
 clear hW0
 refine wpIn_rangeFunc_ownF rfl (by omega) (gf := 95) (lb := #[.pointer (some ⟨w.heap.size + 1 + 1 + 1, 0, none⟩)]) rfl trivial (enters_of Tryz.func95 (by kernel_rfl) rfl)
  (tparts_stops 2 (w.heap.size + 1 + 1) (w.heap.size + 1 + 1 + 1) w W0 t hg (by omega) hd kd h1 h2 b1 b2 e1 e2 ka ca kn kc cn cc HU.out hp HSe.out) (fun h k => h.trans k) (KeepK.turn (by omega) (by omega)) (Below.refl _ _) (fun _ => rfl)
  (fun pre W => Boxed W (w.heap.size + 1 + 1) 3 (.int .i64 (pre.length : Int)) ∧ Boxed W (w.heap.size + 1) 4 (.bool false) ∧ Below w.heap.size w W)
  (fun _ _ _ => False)
  (OwnFrom.and (Own.from (boxed_own _ _ _) _) (OwnFrom.and (Own.from (boxed_own _ _ _) _) (ownFrom_below (Nat.le_refl _) (by omega))))
  (fun _ _ _ _ _ hs _ _ => hs)
  ⟨bN, bR, HSe.out.below⟩
  (fun x => Act.mk #[.agg #[.int .i64 kd, .int .i64 h1, .int .i64 h2, .int .i64 b1, .int .i64 b2, .slice ka kn kc, .slice ca cn cc, .int .i64 e1, .int .i64 e2], .pointer (some ⟨w.heap.size, 0, none⟩), .pointer (some ⟨w.heap.size + 1, 0, none⟩), .pointer (some ⟨w.heap.size + 1 + 1, 0, none⟩), .int .i64 (x.1.1 : Int), .agg #[.int .i64 kd, .int .i64 h1, .int .i64 h2, .int .i64 b1, .int .i64 b2, .slice ka kn kc, .slice ca cn cc, .int .i64 e1, .int .i64 e2],
    .func (.func 95) #[] #[.pointer (some ⟨w.heap.size + 1 + 1 + 1, 0, none⟩)], .int .i64 (x.1.1 : Int), x.1.2.2, undef, undef, undef, undef, undef, undef, undef, undef] []) ?assign ?body ?done ?stop
 case assign =>
  intro lp x W K hK
  simp only [encA]
  gi_wp2
  simpa using hK
 case body =>
  rintro lp pre x W ⟨hb, hr, hB⟩ hlt
  have hc1 := hb.cell
  have hf1 := hb.frozen
  have hd1 := x.2.2.2
  obtain ⟨dd, hdd⟩ : ∃ dd, dd = x.1.1 := ⟨_, rfl⟩
  rw [← hdd] at hd1 ⊢
  clear hdd
  have n1 : ¬ (1000 : Int) < (pre.length : Int) + 1 := by omega
  have n2 : ¬ (32 : Int) < (dd : Int) := by omega
  gi_wp2
  refine ⟨KeepsOthers.setCell _ _ _, keep_set hb (by omega) rfl, ?_, hr.other (by omega) _, hB.setCell (p := ⟨w.heap.size + 1 + 1, 0, none⟩) (by simp; omega) _⟩
  have := hb.set (.int .i64 ((pre.length : Int) + 1))
  simpa using this
 case done =>
  rintro D ys W hD _ ⟨hb, hr, hB⟩ hK
  have hc1 := hr.cell
  have hf1 := hr.frozen
  have hr2 := hr.set (.bool false)
  have hK2 := (KeepsOthers.setCell W (⟨w.heap.size + 1, 0, none⟩ : Addr) (.bool false)).same D _ hK rfl
  gi_wp2
  refine ⟨by simp, .inl ⟨_, _, rfl, run_takeDeferred hK2, ?_⟩⟩
  refine ⟨_, results_cell_bool rfl _ _ (w.heap.size + 1) false rfl (boxed_put hr2 _ hK2), rfl, ?_⟩
  exact (hB.setCell (p := ⟨w.heap.size + 1, 0, none⟩) (by simp) _).trans (belowK_b (w := w) (Nat.le_refl _) _ D _ _ (by omega) hK2 rfl rfl)
 case stop =>
  rintro D c pre W _ _ h _
  exact h.elim
set_option maxRecDepth 100000 in
set_option maxHeartbeats 4000000 in
theorem areFormed_any {S : Nat → Prop} (t : Tr) (hg : goodT t) (hcb : countT t ≤ 1000) (hd : deepT t ≤ 32) (kd h1 h2 b1 b2 e1 e2 : Int) (ka ca : Option Addr) (kn kc cn cc : Nat) (w : World) (hu : treeAt S w t (.agg #[.int .i64 kd, .int .i64 h1, .int .i64 h2, .int .i64 b1, .int .i64 b2, .slice ka kn kc, .slice ca cn cc, .int .i64 e1, .int .i64 e2])) :
  Calls Tryz.prog 39 #[.agg #[.int .i64 kd, .int .i64 h1, .int .i64 h2, .int .i64 b1, .int .i64 b2, .slice ka kn kc, .slice ca cn cc, .int .i64 e1, .int .i64 e2]] w fun e w' => e = .returned (.bool true) ∧ Below w.heap.size w w' := by
 have HU := Lib.hid hu
 clear hu
 have HE := Lib.hid (fun W => tpartsI_any kd h1 h2 b1 b2 e1 e2 ka ca kn kc cn cc W)
 refine (callsIn_wide (n := 3)).1 ?_
 refine callsIn_of_wp_marks Tryz.func39 rfl trivial ?_ rfl
 simp only [Tryz.ntmps39, List.size_toArray, List.length_cons, List.length_nil, Nat.reduceAdd, Nat.reduceSub, Array.replicate_succ, Array.replicate_zero, List.push_toArray, List.append_toArray, List.nil_append, List.cons_append]
 gi_wp2
 refine ⟨trivial, ?_⟩
 with_reducible refine (callsIn_wide.2 (HE.out _)).mono ?_
 rintro e w1 ⟨rfl, rfl⟩
 gi_wp2
 have HSe := Lib.hid (on_new w (.cells #[.int .i64 kd, .int .i64 h1, .int .i64 h2, .int .i64 b1, .int .i64 b2, .slice ka kn kc, .slice ca cn cc, .int .i64 e1, .int .i64 e2] 31) (.cells #[.int .i64 kd, .int .i64 h1, .int .i64 h2, .int .i64 b1, .int .i64 b2, .slice ka kn kc, .slice ca cn cc, .int .i64 e1, .int .i64 e2] 31) (.bool false) 4 rfl)
 have bR := (Boxed.new (w.alloc (.cells #[.int .i64 kd, .int .i64 h1, .int .i64 h2, .int .i64 b1, .int .i64 b2, .slice ka kn kc, .slice ca cn cc, .int .i64 e1, .int .i64 e2] 31)) 4 (.bool false)).alloc (.cells #[.int .i64 kd, .int .i64 h1, .int .i64 h2, .int .i64 b1, .int .i64 b2, .slice ka kn kc, .slice ca cn cc, .int .i64 e1, .int .i64 e2] 31)
 have hp := heap_alloc_new ((w.alloc (.cells #[.int .i64 kd, .int .i64 h1, .int .i64 h2, .int .i64 b1, .int .i64 b2, .slice ka kn kc, .slice ca cn cc, .int .i64 e1, .int .i64 e2] 31)).alloc (.cells #[.bool false] 4)) (.cells #[.int .i64 kd, .int .i64 h1, .int .i64 h2, .int .i64 b1, .int .i64 b2, .slice ka kn kc, .slice ca cn cc, .int .i64 e1, .int .i64 e2] 31)
 obtain ⟨W0, hW0⟩ : ∃ W0, ((w.alloc (.cells #[.int .i64 kd, .int .i64 h1, .int .i64 h2, .int .i64 b1, .int .i64 b2, .slice ka kn kc, .slice ca cn cc, .int .i64 e1, .int .i64 e2] 31)).alloc (.cells #[.bool false] 4)).alloc (.cells #[.int .i64 kd, .int .i64 h1, .int .i64 h2, .int .i64 b1, .int .i64 b2, .slice ka kn kc, .slice ca cn cc, .int .i64 e1, .int .i64 e2] 31) = W0 := ⟨_, rfl⟩
 have hsz : W0.heap.size = w.heap.size + 3 := by rw [← hW0]; simp
 simp only [World.size_alloc] at bR hp
 rw [hW0] at HSe bR hp ⊢
 clear hW0
 refine wpIn_rangeFunc_ownH rfl (by omega) (gf := 95) (lb := #[.pointer (some ⟨w.heap.size + 1 + 1, 0, none⟩)]) rfl trivial (enters_of Tryz.func95 (by kernel_rfl) rfl)
  (tparts_stops 2 (w.heap.size + 1) (w.heap.size + 1 + 1) w W0 t hg (by omega) hd kd h1 h2 b1 b2 e1 e2 ka ca kn kc cn cc HU.out hp HSe.out) (fun h k => h.trans k) (KeepK.turn (by omega) (by omega)) (Below.refl _ _) (fun _ => rfl)
  (fun pre W => Boxed W (w.heap.size + 1) 4 (.bool false) ∧ Below w.heap.size w W)
  (fun _ _ _ => False)
  (OwnFrom.and (Own.from (boxed_own _ _ _) _) (ownFrom_below (Nat.le_refl _) (by omega)))
  (fun _ _ _ _ _ hs _ _ => hs)
  ⟨bR, HSe.out.below⟩
  (fun x a' W => ∃ Bx cs, x.1.2.2 = .agg cs ∧ W.heap[Bx]? = some (.cells cs 31 (0, 0)) ∧ a' = Act.mk #[.agg #[.int .i64 kd, .int .i64 h1, .int .i64 h2, .int .i64 b1, .int .i64 b2, .slice ka kn kc, .slice ca cn cc, .int .i64 e1, .int .i64 e2], .pointer (some ⟨w.heap.size, 0, none⟩), .pointer (some ⟨w.heap.size + 1, 0, none⟩), undef, .pointer (some ⟨Bx, 0, none⟩), .agg #[.int .i64 kd, .int .i64 h1, .int .i64 h2, .int .i64 b1, .int .i64 b2, .slice ka kn kc, .slice ca cn cc, .int .i64 e1, .int .i64 e2],
    .func (.func 95) #[] #[.pointer (some ⟨w.heap.size + 1 + 1, 0, none⟩)], .int .i64 (x.1.1 : Int), .agg cs, undef, undef, undef] [])
  (fun x a' _ X Y row hs hg hr => by
   obtain ⟨Bx, cs, h1, h2, h3⟩ := hs
   refine ⟨Bx, cs, h1, (hg.block Bx (Array.getElem?_eq_some_iff.1 h2).1 (fun e => ?_)).trans h2, h3⟩
   obtain ⟨_, o, ho, hc⟩ := hr Bx e.symm
   rw [h2] at ho
   cases ho
   cases hc)
  ?assign ?body ?done ?stop
 case assign =>
  rintro lp pre ⟨⟨dd, tt, uu⟩, htr, hfo, hdd⟩ W K ⟨hb, hB⟩ hK
  have htr2 : treeAt S w tt uu := htr
  obtain ⟨ka', kn', kc', ca', cn', cc', us, rfl, _, _, _⟩ := treeAt_open htr2
  simp only [encA]
  gi_wp2
  refine hK _ _ ((KeepsOthers.alloc _ _).from _) (KeepK.grow hB.size hb.lt (below_new _ _)) ⟨hb.alloc _, hB.alloc hB.size _⟩ ⟨W.heap.size, _, rfl, heap_alloc_new W _, ?_⟩
  simp
 case body =>
  rintro lp pre ⟨⟨dd, tt, uu⟩, htr, hfo, hdd⟩ a' W _ _ ⟨hb, hB⟩ ⟨Bx, cs, hcs, hBx, rfl⟩ hlt
  have htr2 : treeAt S w tt uu := htr
  have hfo2 : formed tt := hfo
  obtain ⟨ka', kn', kc', ca', cn', cc', us, rfl, _, _, _⟩ := treeAt_open htr2
  cases hcs
  have HF := Lib.hid (tformed_any w tt _ htr2 hfo2 W hB hB.size)
  have x0 : W.cell? ⟨Bx, 0, none⟩ = some (.int .i64 (tt.kind : Int)) := by simp [World.cell?, hBx]
  have x1 : W.cell? ⟨Bx, 1, none⟩ = some (.int .i64 (tt.hd.1 : Int)) := by simp [World.cell?, hBx]
  have x2 : W.cell? ⟨Bx, 2, none⟩ = some (.int .i64 (tt.hd.2 : Int)) := by simp [World.cell?, hBx]
  have x3 : W.cell? ⟨Bx, 3, none⟩ = some (.int .i64 (tt.bd.1 : Int)) := by simp [World.cell?, hBx]
  have x4 : W.cell? ⟨Bx, 4, none⟩ = some (.int .i64 (tt.bd.2 : Int)) := by simp [World.cell?, hBx]
  have x5 : W.cell? ⟨Bx, 5, none⟩ = some (.slice ka' kn' kc') := by simp [World.cell?, hBx]
  have x6 : W.cell? ⟨Bx, 6, none⟩ = some (.slice ca' cn' cc') := by simp [World.cell?, hBx]
  have x7 : W.cell? ⟨Bx, 7, none⟩ = some (.int .i64 (tt.e.1 : Int)) := by simp [World.cell?, hBx]
  have x8 : W.cell? ⟨Bx, 8, none⟩ = some (.int .i64 (tt.e.2 : Int)) := by simp [World.cell?, hBx]
  have HB := Lib.hid hB
  have hbl := hb.lt
  clear hBx htr2 hfo2 hB
  gi_wp2
  refine ⟨trivial, ?_⟩
  refine (CallsIn.inRound lp (callsIn_wide.2 HF.out)).mono ?_
  rintro e w5 ⟨rfl, hb5⟩
  have HQ : Hid (KeepsOthers W w5) := .of_grownBy (below_grown hb5) (fun _ _ e => by cases e)
  have HK5 : Hid (KeepK w.heap.size (w.heap.size + 1) W w5) := KeepK.grow HB.out.size hbl hb5
  have HR5 : Hid (Boxed w5 (w.heap.size + 1) 4 (.bool false)) := hb.kept (below_grown hb5) (by simp)
  have HB5 : Hid (Below w.heap.size w w5) := HB.out.trans (hb5.mono HB.out.size)
  clear hb5 x0 x1 x2 x3 x4 x5 x6 x7 x8
  gi_wp2
  exact ⟨HQ.out.from _, HK5.out, HR5.out, HB5.out⟩
 case done =>
  rintro D ys W hD _ ⟨hr, hB⟩ hK
  have hc1 := hr.cell
  have hf1 := hr.frozen
  have hr2 := hr.set (.bool true)
  have hK2 := (KeepsOthers.setCell W (⟨w.heap.size + 1, 0, none⟩ : Addr) (.bool true)).same D _ hK rfl
  gi_wp2
  refine ⟨by simp, .inl ⟨_, _, rfl, run_takeDeferred hK2, ?_⟩⟩
  refine ⟨_, results_cell_bool rfl _ _ (w.heap.size + 1) true rfl (boxed_put hr2 _ hK2), rfl, ?_⟩
  exact (hB.setCell (p := ⟨w.heap.size + 1, 0, none⟩) (by simp) _).trans (belowK_b (w := w) (Nat.le_refl _) _ D _ _ (by omega) hK2 rfl rfl)
 case stop =>
  rintro D c pre W _ _ h _
  exact h.elim
end Go.Proofs.YtedminjnnhlknaaGreatDoor

/- Contracts of package tiles: isLaid. -/
namespace Go.Proofs.YtedminjnnhlknaaGreatDoor
open Go Go.RowKit Go.Shelf
attribute [local go_sem] Oper.semAt_some
def okT (n : Nat) : Nat → List Tl → Prop
 | _, [] => True
 | a, x :: r => x.2.1 = a ∧ a ≤ x.2.2 ∧ x.2.2 ≤ n ∧ okT n x.2.2 r
def endT : Nat → List Tl → Nat
 | a, [] => a
 | _, x :: r => endT x.2.2 r
theorem endT_snoc : ∀ (l : List Tl) (a : Nat) (x : Tl), endT a (l ++ [x]) = x.2.2
 | [], _, _ => rfl
 | y :: r, _, x => endT_snoc r y.2.2 x
theorem okT_snoc (n : Nat) : ∀ (l : List Tl) (a : Nat) (x : Tl), okT n a (l ++ [x]) ↔ okT n a l ∧ x.2.1 = endT a l ∧ endT a l ≤ x.2.2 ∧ x.2.2 ≤ n
 | [], a, x => ⟨fun h => ⟨trivial, h.1, h.2.1, h.2.2.1⟩, fun h => ⟨h.2.1, h.2.2.1, h.2.2.2, trivial⟩⟩
 | y :: r, a, x => by
  have ih := okT_snoc n r y.2.2 x
  constructor
  ·rintro ⟨h1, h2, h3, h4⟩
   have := ih.1 h4
   exact ⟨⟨h1, h2, h3, this.1⟩, this.2⟩
  ·rintro ⟨⟨h1, h2, h3, h4⟩, h5⟩
   exact ⟨h1, h2, h3, ih.2 ⟨h4, h5⟩⟩
theorem okT_front (n : Nat) : ∀ (l r : List Tl) (a : Nat), okT n a (l ++ r) → okT n a l
 | [], _, _, _ => trivial
 | y :: l, r, _, h => ⟨h.1, h.2.1, h.2.2.1, okT_front n l r y.2.2 h.2.2.2⟩
theorem chainT_le : ∀ {l : List Tl} {a b : Nat}, chainT a b l → a ≤ b
 | [], _, _, h => Nat.le_of_eq h
 | _ :: _, _, _, h => Nat.le_trans h.2.1 (chainT_le h.2.2)
theorem chainT_ok : ∀ {l : List Tl} {a b : Nat}, chainT a b l → okT b a l ∧ endT a l = b
 | [], _, _, h => ⟨trivial, h⟩
 | x :: r, a, b, h => by
  have ih := chainT_ok h.2.2
  exact ⟨⟨h.1, h.2.1, chainT_le h.2.2, ih.1⟩, ih.2⟩
theorem on_new4 (w : World) (P R T Q : Obj) (v : Value) (t : TypeId) (hv : v.ownBlock = none) : On w (w.heap.size + 1 + 1 + 1) (((((w.alloc P).alloc R).alloc T).alloc (.cells #[v] t)).alloc Q) := by
 have b1 := (Boxed.new (((w.alloc P).alloc R).alloc T) t v).alloc Q
 simp only [World.size_alloc] at b1
 refine ⟨(((((Below.refl _ w).alloc (Nat.le_refl _) _).alloc (by simp) _).alloc (by simp; omega) _).alloc (by simp; omega) _).alloc (by simp; omega) _, by simp; omega, fun k hk => ?_⟩
 rw [boxed_owns b1, hv] at hk
 rcases hk with h | h
 ·subst h; exact b1.lt
 ·cases h
set_option maxRecDepth 100000 in
set_option maxHeartbeats 4000000 in
theorem isLaid_any {S : Nat → Prop} (t : Tr) (hg : goodT t) (hcb : countT t ≤ 1000) (n : Nat) (hch : chainT 0 n (tilesT t)) (kd h1 h2 b1 b2 e1 e2 : Int) (ka ca : Option Addr) (kn kc cn cc : Nat) (w : World) (hu : treeAt S w t (.agg #[.int .i64 kd, .int .i64 h1, .int .i64 h2, .int .i64 b1, .int .i64 b2, .slice ka kn kc, .slice ca cn cc, .int .i64 e1, .int .i64 e2])) :
  Calls Tryz.prog 40 #[.agg #[.int .i64 kd, .int .i64 h1, .int .i64 h2, .int .i64 b1, .int .i64 b2, .slice ka kn kc, .slice ca cn cc, .int .i64 e1, .int .i64 e2], .int .i64 (n : Int)] w fun e w' => e = .returned (.bool true) ∧ Below w.heap.size w w' := by
 have HU := Lib.hid hu
 clear hu
 have HE := Lib.hid (fun W => teachI_any kd h1 h2 b1 b2 e1 e2 ka ca kn kc cn cc W)
 have HCh := Lib.hid (chainT_ok hch)
 clear hch
 refine (callsIn_wide (n := 3)).1 ?_
 refine callsIn_of_wp_marks Tryz.func40 rfl trivial ?_ rfl
 simp only [Tryz.ntmps40, List.size_toArray, List.length_cons, List.length_nil, Nat.reduceAdd, Nat.reduceSub, Array.replicate_succ, Array.replicate_zero, List.push_toArray, List.append_toArray, List.nil_append, List.cons_append]
 gi_wp2
 refine ⟨trivial, ?_⟩
 with_reducible refine (callsIn_wide.2 (HE.out _)).mono ?_
 rintro e w1 ⟨rfl, rfl⟩
 gi_wp2
 have HSe := Lib.hid (on_new4 w (.cells #[.int .i64 kd, .int .i64 h1, .int .i64 h2, .int .i64 b1, .int .i64 b2, .slice ka kn kc, .slice ca cn cc, .int .i64 e1, .int .i64 e2] 31) (.cells #[.int .i64 (n : Int)] 3) (.cells #[.bool false] 4) (.cells #[.int .i64 kd, .int .i64 h1, .int .i64 h2, .int .i64 b1, .int .i64 b2, .slice ka kn kc, .slice ca cn cc, .int .i64 e1, .int .i64 e2] 31) (.int .i64 0) 3 rfl)
 have bV := (((Boxed.new (w.alloc (.cells #[.int .i64 kd, .int .i64 h1, .int .i64 h2, .int .i64 b1, .int .i64 b2, .slice ka kn kc, .slice ca cn cc, .int .i64 e1, .int .i64 e2] 31)) 3 (.int .i64 (n : Int))).alloc (.cells #[.bool false] 4)).alloc (.cells #[.int .i64 0] 3)).alloc (.cells #[.int .i64 kd, .int .i64 h1, .int .i64 h2, .int .i64 b1, .int .i64 b2, .slice ka kn kc, .slice ca cn cc, .int .i64 e1, .int .i64 e2] 31)
 have bR := ((Boxed.new ((w.alloc (.cells #[.int .i64 kd, .int .i64 h1, .int .i64 h2, .int .i64 b1, .int .i64 b2, .slice ka kn kc, .slice ca cn cc, .int .i64 e1, .int .i64 e2] 31)).alloc (.cells #[.int .i64 (n : Int)] 3)) 4 (.bool false)).alloc (.cells #[.int .i64 0] 3)).alloc (.cells #[.int .i64 kd, .int .i64 h1, .int .i64 h2, .int .i64 b1, .int .i64 b2, .slice ka kn kc, .slice ca cn cc, .int .i64 e1, .int .i64 e2] 31)
 have bN := (Boxed.new (((w.alloc (.cells #[.int .i64 kd, .int .i64 h1, .int .i64 h2, .int .i64 b1, .int .i64 b2, .slice ka kn kc, .slice ca cn cc, .int .i64 e1, .int .i64 e2] 31)).alloc (.cells #[.int .i64 (n : Int)] 3)).alloc (.cells #[.bool false] 4)) 3 (.int .i64 0)).alloc (.cells #[.int .i64 kd, .int .i64 h1, .int .i64 h2, .int .i64 b1, .int .i64 b2, .slice ka kn kc, .slice ca cn cc, .int .i64 e1, .int .i64 e2] 31)
 have hp := heap_alloc_new ((((w.alloc (.cells #[.int .i64 kd, .int .i64 h1, .int .i64 h2, .int .i64 b1, .int .i64 b2, .slice ka kn kc, .slice ca cn cc, .int .i64 e1, .int .i64 e2] 31)).alloc (.cells #[.int .i64 (n : Int)] 3)).alloc (.cells #[.bool false] 4)).alloc (.cells #[.int .i64 0] 3)) (.cells #[.int .i64 kd, .int .i64 h1, .int .i64 h2, .int .i64 b1, .int .i64 b2, .slice ka kn kc, .slice ca cn cc, .int .i64 e1, .int .i64 e2] 31)
 obtain ⟨W0, hW0⟩ : ∃ W0, ((((w.alloc (.cells #[.int .i64 kd, .int .i64 h1, .int .i64 h2, .int .i64 b1, .int .i64 b2, .slice ka kn kc, .slice ca cn cc, .int .i64 e1, .int .i64 e2] 31)).alloc (.cells #[.int .i64 (n : Int)] 3)).alloc (.cells #[.bool false] 4)).alloc (.cells #[.int .i64 0] 3)).alloc (.cells #[.int .i64 kd, .int .i64 h1, .int .i64 h2, .int .i64 b1, .int .i64 b2, .slice ka kn kc, .slice ca cn cc, .int .i64 e1, .int .i64 e2] 31) = W0 := ⟨_, rfl⟩
 have hsz : W0.heap.size = w.heap.size + 5 := by rw [← hW0]; simp
 simp only [World.size_alloc] at bN bR bV hp
 rw [hW0] at HSe bN bR bV hp ⊢
 clear hW0
 refine wpIn_rangeFunc_ownH rfl (by omega) (gf := 98) (lb := #[.pointer (some ⟨w.heap.size + 1 + 1 + 1 + 1, 0, none⟩)]) rfl trivial (enters_of Tryz.func98 (by kernel_rfl) rfl)
  (teach_stops 2 (w.heap.size + 1 + 1 + 1) (w.heap.size + 1 + 1 + 1 + 1) w W0 t S hg (by omega) kd h1 h2 b1 b2 e1 e2 ka ca kn kc cn cc HU.out hp HSe.out) (fun h k => h.trans k) (KeepK.turn (by omega) (by omega)) (Below.refl _ _) (fun _ => rfl)
  (fun pre W => Boxed W (w.heap.size + 1 + 1 + 1) 3 (.int .i64 (endT 0 pre : Int)) ∧ Boxed W (w.heap.size + 1) 3 (.int .i64 (n : Int)) ∧ Boxed W (w.heap.size + 1 + 1) 4 (.bool false) ∧ Below w.heap.size w W)
  (fun _ pre _ => ¬ okT n 0 pre)
  (OwnFrom.and (Own.from (boxed_own _ _ _) _) (OwnFrom.and (Own.from (boxed_own _ _ _) _) (OwnFrom.and (Own.from (boxed_own _ _ _) _) (ownFrom_below (Nat.le_refl _) (by omega)))))
  (fun _ _ _ _ _ hs _ _ => hs)
  ⟨bN, bV, bR, HSe.out.below⟩
  (fun x a' W => ∃ Bx, W.heap[Bx]? = some (.cells #[.int .i64 (x.1 : Int), .int .i64 (x.2.1 : Int), .int .i64 (x.2.2 : Int)] 145 (0, 0)) ∧ a' = Act.mk #[.agg #[.int .i64 kd, .int .i64 h1, .int .i64 h2, .int .i64 b1, .int .i64 b2, .slice ka kn kc, .slice ca cn cc, .int .i64 e1, .int .i64 e2], .int .i64 (n : Int), .pointer (some ⟨w.heap.size, 0, none⟩), .pointer (some ⟨w.heap.size + 1, 0, none⟩), .pointer (some ⟨w.heap.size + 1 + 1, 0, none⟩), .pointer (some ⟨w.heap.size + 1 + 1 + 1, 0, none⟩), .pointer (some ⟨Bx, 0, none⟩), .agg #[.int .i64 kd, .int .i64 h1, .int .i64 h2, .int .i64 b1, .int .i64 b2, .slice ka kn kc, .slice ca cn cc, .int .i64 e1, .int .i64 e2],
    .func (.func 98) #[] #[.pointer (some ⟨w.heap.size + 1 + 1 + 1 + 1, 0, none⟩)], tlV x, undef, undef, undef, undef, undef, undef, undef, undef, undef, undef, undef, undef, undef, undef, undef, undef, undef, undef] [])
  (fun x a' _ X Y row hs hg hr => by
   obtain ⟨Bx, h2, h3⟩ := hs
   refine ⟨Bx, (hg.block Bx (Array.getElem?_eq_some_iff.1 h2).1 (fun e => ?_)).trans h2, h3⟩
   obtain ⟨_, o, ho, hc⟩ := hr Bx e.symm
   rw [h2] at ho
   cases ho
   cases hc)
  ?assign ?body ?done ?stop
 case assign =>
  rintro lp pre x W K ⟨hb, hv, hr, hB⟩ hK
  simp only [tlV]
  gi_wp2
  refine hK _ _ ((KeepsOthers.alloc _ _).from _) (KeepK.grow hB.size hb.lt (below_new _ _)) ⟨hb.alloc _, hv.alloc _, hr.alloc _, hB.alloc hB.size _⟩ ⟨W.heap.size, heap_alloc_new W _, ?_⟩
  simp [tlV]
 case body =>
  rintro lp pre x a' W _ _ ⟨hb, hv, hr, hB⟩ ⟨Bx, hBx, rfl⟩ hlt
  obtain ⟨k, f, tb⟩ := x
  have hc1 := hb.cell
  have hf1 := hb.frozen
  have hc2 := hv.cell
  have hc3 := hr.cell
  have hf3 := hr.frozen
  have x0 : W.cell? ⟨Bx, 0, none⟩ = some (.int .i64 (k : Int)) := by simp [World.cell?, hBx]
  have x1 : W.cell? ⟨Bx, 1, none⟩ = some (.int .i64 (f : Int)) := by simp [World.cell?, hBx]
  have x2 : W.cell? ⟨Bx, 2, none⟩ = some (.int .i64 (tb : Int)) := by simp [World.cell?, hBx]
  have HS := Lib.hid (okT_snoc n pre 0 (k, f, tb))
  have HEn := Lib.hid (endT_snoc pre 0 (k, f, tb))
  have HI := Lib.hid (And.intro hb (And.intro hv (And.intro hr hB)))
  obtain ⟨at0, hat⟩ : ∃ at0, at0 = endT 0 pre := ⟨_, rfl⟩
  rw [← hat] at hc1 HS HI
  clear hat hb hv hr hB
  by_cases hf : f = at0
  ·subst hf
   have t1 : ((f : Int) != (f : Int)) = false := bne_no rfl
   have HW := Lib.hid (within_any (f : Int) (tb : Int) (n : Int) W)
   have HBx := Lib.hid hBx
   clear hBx
   by_cases hin : f ≤ tb ∧ tb ≤ n
   ·have HT : Hid (withinB (f : Int) (tb : Int) (n : Int) = true) := withinB_yes ⟨by omega, by omega, by omega⟩
    gi_wp2
    refine ⟨trivial, ?_⟩
    refine (CallsIn.inRound lp (callsIn_wide.2 HW.out)).mono ?_
    rintro e w5 ⟨rfl, hb5⟩
    rw [HT.out]
    have HQ : Hid (KeepsOthers W w5) := .of_grownBy (below_grown hb5) (fun _ _ e => by cases e)
    have HK5 : Hid (KeepK w.heap.size (w.heap.size + 1 + 1 + 1) W w5) := KeepK.grow HI.out.2.2.2.size HI.out.1.lt hb5
    have hb' : Boxed w5 (w.heap.size + 1 + 1 + 1) 3 (.int .i64 (f : Int)) := HI.out.1.kept (below_grown hb5) (by simp)
    have hv' : Boxed w5 (w.heap.size + 1) 3 (.int .i64 (n : Int)) := HI.out.2.1.kept (below_grown hb5) (by simp)
    have hr' : Boxed w5 (w.heap.size + 1 + 1) 4 (.bool false) := HI.out.2.2.1.kept (below_grown hb5) (by simp)
    have hB' : Below w.heap.size w w5 := HI.out.2.2.2.trans (hb5.mono HI.out.2.2.2.size)
    have hX5 : w5.heap[Bx]? = some (.cells #[.int .i64 (k : Int), .int .i64 (f : Int), .int .i64 (tb : Int)] 145 (0, 0)) := (hb5.block Bx (Array.getElem?_eq_some_iff.1 HBx.out).1).trans HBx.out
    have y2 : w5.cell? ⟨Bx, 2, none⟩ = some (.int .i64 (tb : Int)) := by simp [World.cell?, hX5]
    have d1 := hb'.cell
    have d2 := hb'.frozen
    have HI5 := Lib.hid (And.intro hb' (And.intro hv' (And.intro hr' hB')))
    clear hb5 x0 x1 x2 hc1 hf1 hc2 hc3 hf3 hX5 hb' hv' hr' hB'
    gi_wp2
    refine ⟨(HQ.out.trans (KeepsOthers.setCell _ _ _)).from _, HK5.out.trans (keep_set HI5.out.1 (by omega) rfl), ?_, HI5.out.2.1.other (by omega) _, HI5.out.2.2.1.other (by omega) _, HI5.out.2.2.2.setCell (p := ⟨w.heap.size + 1 + 1 + 1, 0, none⟩) (by simp; omega) _⟩
    rw [HEn.out]
    exact HI5.out.1.set _
   ·have HT : Hid (withinB (f : Int) (tb : Int) (n : Int) = false) := withinB_no (by omega)
    have HX : Hid (¬ okT n 0 (pre ++ [(k, f, tb)])) := fun h => hin (by have := HS.out.1 h; exact ⟨this.2.2.1, this.2.2.2⟩)
    gi_wp2
    refine ⟨trivial, ?_⟩
    refine (CallsIn.inRound lp (callsIn_wide.2 HW.out)).mono ?_
    rintro e w5 ⟨rfl, hb5⟩
    rw [HT.out]
    have HQ : Hid (KeepsOthers W w5) := .of_grownBy (below_grown hb5) (fun _ _ e => by cases e)
    have hr' : Boxed w5 (w.heap.size + 1 + 1) 4 (.bool false) := HI.out.2.2.1.kept (below_grown hb5) (by simp)
    have d1 := hr'.cell
    have d2 := hr'.frozen
    clear hb5 x0 x1 x2 hc1 hf1 hc2 hc3 hf3 hr'
    gi_wp2
    exact ⟨(HQ.out.trans (KeepsOthers.setCell _ _ _)).from _, HX.out⟩
  ·have t1 : ((f : Int) != (at0 : Int)) = true := by simp; omega
   have HX : Hid (¬ okT n 0 (pre ++ [(k, f, tb)])) := fun h => hf (HS.out.1 h).2.1
   clear hBx
   gi_wp2
   refine ⟨trivial, ?_⟩
   gi_wp2
   exact ⟨(KeepsOthers.setCell _ _ _).from _, HX.out⟩
 case done =>
  rintro D ys W hD rfl ⟨hb, hv, hr, hB⟩ hK
  rw [HCh.out.2] at hb
  have hc0 := hb.cell
  have hc2 := hv.cell
  have hc1 := hr.cell
  have hf1 := hr.frozen
  have hr2 := hr.set (.bool true)
  have hK2 := (KeepsOthers.setCell W (⟨w.heap.size + 1 + 1, 0, none⟩ : Addr) (.bool true)).same D _ hK rfl
  have hnn : ((n : Int) == (n : Int)) = true := by simp
  gi_wp2
  refine ⟨by simp, .inl ⟨_, _, rfl, run_takeDeferred hK2, ?_⟩⟩
  refine ⟨_, results_cell_bool rfl _ _ (w.heap.size + 1 + 1) true rfl (boxed_put hr2 _ hK2), rfl, ?_⟩
  exact (hB.setCell (p := ⟨w.heap.size + 1 + 1, 0, none⟩) (by simp; omega) _).trans (belowK_b (w := w) (Nat.le_refl _) _ D _ _ (by omega) hK2 rfl rfl)
 case stop =>
  rintro D c pre W _ hpre h _
  obtain ⟨r, hr⟩ := hpre
  have h2 := HCh.out.1
  rw [← hr] at h2
  exact (h (okT_front n pre r 0 h2)).elim
mutual
theorem tilesT_len : ∀ t : Tr, (tilesT t).length + 1 ≤ 6 * countT t
 | .mk k hd bd ks cs e => by
  have h1 := tilesM_len ks cs
  have h2 := tilesH_len ks
  have e1 : countT (.mk k hd bd ks cs e) = 1 + countK ks := rfl
  simp only [tilesT, List.length_cons]
  by_cases k1 : k = 1
  ·rw [if_pos k1]
   simp only [List.length_cons, List.length_append, List.length_nil]
   omega
  ·rw [if_neg k1]
   by_cases k2 : k = 2
   ·rw [if_pos k2]
    omega
   ·rw [if_neg k2]
    simp only [List.length_cons, List.length_nil]
    omega
theorem tilesM_len : ∀ (ks : List Tr) (cs : List Sp), (tilesM ks cs).length ≤ 6 * countK ks
 | [], _ => by rw [tilesM_nil]; exact Nat.zero_le _
 | t :: r, cs => by
  have h1 := tilesT_len t
  have e1 : countK (t :: r) = countT t + countK r := rfl
  cases cs with
  | nil => simp only [tilesM, List.length_nil]; omega
  | cons c cs =>
   have h2 := tilesM_len r cs
   rw [tilesM_cons]
   simp only [List.length_cons, List.length_append]
   omega
theorem tilesH_len : ∀ ks : List Tr, (tilesH ks).length ≤ 6 * countK ks
 | [] => by simp only [tilesH, List.length_nil]; omega
 | t :: r => by
  have h1 := tilesT_len t
  have e1 : countK (t :: r) = countT t + countK r := rfl
  simp only [tilesH]
  omega
end
theorem treeAt_below {S : Nat → Prop} {w w' : World} {t : Tr} {u : Value} (h : treeAt S w t u) (hb : Below w.heap.size w w') : treeAt S w' t u := treeAt.keep (fun q hS hq => ⟨hb.block q hq, hS⟩) _ _ h
theorem tbytesI_any (kd h1 h2 b1 b2 e1 e2 : Int) (ka ca : Option Addr) (kn kc cn cc : Nat) (w : World) :
  Calls Tryz.prog 38 #[.agg #[.int .i64 kd, .int .i64 h1, .int .i64 h2, .int .i64 b1, .int .i64 b2, .slice ka kn kc, .slice ca cn cc, .int .i64 e1, .int .i64 e2]] w
   fun e w' => e = .returned (.agg #[.int .i64 h1, .int .i64 b2]) ∧ Below w.heap.size w w' := by
 go_enter Tryz.func38, Tryz.ntmps38
 go_wp2
 (try simp only [Exit.inBlock, Exit.then])
 refine bodyPost_ret (results_cell_row (P := Tryz.prog) Tryz.results38 _ _ (w.heap.size + 1) 27 _ (0, 0) _ rfl (heap_alloc2_new _ _ _) Tryz.underlying27 rfl (by kernel_rfl)) rfl ?_
 exact ⟨rfl, (below_new _ _).alloc (by simp) _⟩
theorem span_neq (w : World) (a b c d : Int) : (binOp .neq 27 (.agg #[.int .i64 a, .int .i64 b]) (.agg #[.int .i64 c, .int .i64 d])).run Tryz.prog w = .ok (.bool (!(a == c && b == d))) w := by
 have h := span_eql w a b c d
 rw [run_eql_struct] at h
 rw [run_neq_struct]
 cases hr : (Op.equalIn 10000 27 (.agg #[.int .i64 a, .int .i64 b]) (.agg #[.int .i64 c, .int .i64 d])).run Tryz.prog w with
 | ok b' w' =>
  rw [hr] at h
  simp only [Result.andThen] at h ⊢
  cases h
  rfl
 | halt x w' =>
  rw [hr] at h
  simp only [Result.andThen] at h
  cases h
set_option maxRecDepth 100000 in
set_option maxHeartbeats 4000000 in
theorem check_no {S : Nat → Prop} (t : Tr) (L : Nat) (hg : goodT t) (hcb : countT t ≤ 1000) (hd : deepT t ≤ 32) (n : Int) (hn : ¬ n = (L : Int)) (kd h2 b1 e1 e2 : Int) (ka ca : Option Addr) (kn kc cn cc : Nat) (w : World) (hu : treeAt S w t (.agg #[.int .i64 kd, .int .i64 0, .int .i64 h2, .int .i64 b1, .int .i64 (L : Int), .slice ka kn kc, .slice ca cn cc, .int .i64 e1, .int .i64 e2])) :
  Calls Tryz.prog 16 #[.agg #[.int .i64 kd, .int .i64 0, .int .i64 h2, .int .i64 b1, .int .i64 (L : Int), .slice ka kn kc, .slice ca cn cc, .int .i64 e1, .int .i64 e2], .int .i64 n] w fun e w' => e = .returned (.int .i64 11) ∧ Below w.heap.size w w' := by
 have HU := Lib.hid (fun W (hb : Below w.heap.size w W) => isBig_any t hg hcb hd kd 0 h2 b1 (L : Int) e1 e2 ka ca kn kc cn cc W (treeAt_below hu hb))
 have HT := Lib.hid (fun W => tbytesI_any kd 0 h2 b1 (L : Int) e1 e2 ka ca kn kc cn cc W)
 have ks : ∀ W, (binOp .neq 27 (.agg #[.int .i64 0, .int .i64 (L : Int)]) (.agg #[.int .i64 0, .int .i64 n])).run Tryz.prog W = .ok (.bool true) W := fun W => by
  rw [span_neq]
  have : ((L : Int) == n) = false := beq_no fun e => hn e.symm
  rw [this]
  rfl
 have hB := below_new w (.cells #[.int .i64 kd, .int .i64 0, .int .i64 h2, .int .i64 b1, .int .i64 (L : Int), .slice ka kn kc, .slice ca cn cc, .int .i64 e1, .int .i64 e2] 31)
 have hl := heap_alloc_new w (.cells #[.int .i64 kd, .int .i64 0, .int .i64 h2, .int .i64 b1, .int .i64 (L : Int), .slice ka kn kc, .slice ca cn cc, .int .i64 e1, .int .i64 e2] 31)
 obtain ⟨X, hX⟩ : ∃ X, X = w.alloc (.cells #[.int .i64 kd, .int .i64 0, .int .i64 h2, .int .i64 b1, .int .i64 (L : Int), .slice ka kn kc, .slice ca cn cc, .int .i64 e1, .int .i64 e2] 31) := ⟨_, rfl⟩
 rw [← hX] at hB hl
 have HX := Lib.hid hX
 have HB := Lib.hid hB
 have HL := Lib.hid hl
 clear hX hB hl hu hn
 go_enter Tryz.func16, Tryz.ntmps16
 go_wp2_with fail
 rw [← HX.out]
 with_reducible refine (HU.out _ ?h1).mono ?_
 case h1 => exact HB.out
 rintro e w2 ⟨rfl, hb2⟩
 have HB2 := Lib.hid (HB.out.trans (hb2.mono HB.out.size))
 have hl2 : w2.heap[w.heap.size]? = some (.cells #[.int .i64 kd, .int .i64 0, .int .i64 h2, .int .i64 b1, .int .i64 (L : Int), .slice ka kn kc, .slice ca cn cc, .int .i64 e1, .int .i64 e2] 31 (0, 0)) := (hb2.block _ (Array.getElem?_eq_some_iff.1 HL.out).1).trans HL.out
 have c0 : w2.cell? ⟨w.heap.size, 0, none⟩ = some (.int .i64 kd) := by simp [World.cell?, hl2]
 have c1 : w2.cell? ⟨w.heap.size, 1, none⟩ = some (.int .i64 0) := by simp [World.cell?, hl2]
 have c2 : w2.cell? ⟨w.heap.size, 2, none⟩ = some (.int .i64 h2) := by simp [World.cell?, hl2]
 have c3 : w2.cell? ⟨w.heap.size, 3, none⟩ = some (.int .i64 b1) := by simp [World.cell?, hl2]
 have c4 : w2.cell? ⟨w.heap.size, 4, none⟩ = some (.int .i64 (L : Int)) := by simp [World.cell?, hl2]
 have c5 : w2.cell? ⟨w.heap.size, 5, none⟩ = some (.slice ka kn kc) := by simp [World.cell?, hl2]
 have c6 : w2.cell? ⟨w.heap.size, 6, none⟩ = some (.slice ca cn cc) := by simp [World.cell?, hl2]
 have c7 : w2.cell? ⟨w.heap.size, 7, none⟩ = some (.int .i64 e1) := by simp [World.cell?, hl2]
 have c8 : w2.cell? ⟨w.heap.size, 8, none⟩ = some (.int .i64 e2) := by simp [World.cell?, hl2]
 clear hb2 hl2 HU
 go_wp2_with fail
 with_reducible refine (HT.out _).mono ?_
 rintro e w3 ⟨rfl, hb3⟩
 have HB3 := Lib.hid (HB2.out.trans (hb3.mono HB2.out.size))
 clear hb3 c0 c1 c2 c3 c4 c5 c6 c7 c8
 go_wp2_with fail
 go_ret
 exact ⟨rfl, HB3.out⟩
set_option maxRecDepth 100000 in
set_option maxHeartbeats 4000000 in
theorem check_yes {S : Nat → Prop} (t : Tr) (L : Nat) (hg : goodT t) (hcb : countT t ≤ 1000) (hd : deepT t ≤ 32) (hch : chainT 0 L (tilesT t)) (kd h2 b1 e1 e2 : Int) (ka ca : Option Addr) (kn kc cn cc : Nat) (w : World) (hu : treeAt S w t (.agg #[.int .i64 kd, .int .i64 0, .int .i64 h2, .int .i64 b1, .int .i64 (L : Int), .slice ka kn kc, .slice ca cn cc, .int .i64 e1, .int .i64 e2])) :
  Calls Tryz.prog 16 #[.agg #[.int .i64 kd, .int .i64 0, .int .i64 h2, .int .i64 b1, .int .i64 (L : Int), .slice ka kn kc, .slice ca cn cc, .int .i64 e1, .int .i64 e2], .int .i64 (L : Int)] w fun e w' => e = .returned (.int .i64 0) ∧ Below w.heap.size w w' := by
 have HU := Lib.hid (fun W (hb : Below w.heap.size w W) => isBig_any t hg hcb hd kd 0 h2 b1 (L : Int) e1 e2 ka ca kn kc cn cc W (treeAt_below hu hb))
 have HF := Lib.hid (fun W (hb : Below w.heap.size w W) => areFormed_any t hg hcb hd kd 0 h2 b1 (L : Int) e1 e2 ka ca kn kc cn cc W (treeAt_below hu hb))
 have HLd := Lib.hid (fun W (hb : Below w.heap.size w W) => isLaid_any t hg hcb L hch kd 0 h2 b1 (L : Int) e1 e2 ka ca kn kc cn cc W (treeAt_below hu hb))
 have HT := Lib.hid (fun W => tbytesI_any kd 0 h2 b1 (L : Int) e1 e2 ka ca kn kc cn cc W)
 have ks : ∀ W, (binOp .neq 27 (.agg #[.int .i64 0, .int .i64 (L : Int)]) (.agg #[.int .i64 0, .int .i64 (L : Int)])).run Tryz.prog W = .ok (.bool false) W := fun W => by
  rw [span_neq]
  simp
 have hB := below_new w (.cells #[.int .i64 kd, .int .i64 0, .int .i64 h2, .int .i64 b1, .int .i64 (L : Int), .slice ka kn kc, .slice ca cn cc, .int .i64 e1, .int .i64 e2] 31)
 have hl := heap_alloc_new w (.cells #[.int .i64 kd, .int .i64 0, .int .i64 h2, .int .i64 b1, .int .i64 (L : Int), .slice ka kn kc, .slice ca cn cc, .int .i64 e1, .int .i64 e2] 31)
 obtain ⟨X, hX⟩ : ∃ X, X = w.alloc (.cells #[.int .i64 kd, .int .i64 0, .int .i64 h2, .int .i64 b1, .int .i64 (L : Int), .slice ka kn kc, .slice ca cn cc, .int .i64 e1, .int .i64 e2] 31) := ⟨_, rfl⟩
 rw [← hX] at hB hl
 have HX := Lib.hid hX
 have HB := Lib.hid hB
 have HL := Lib.hid hl
 clear hX hB hl hu
 go_enter Tryz.func16, Tryz.ntmps16
 go_wp2_with fail
 rw [← HX.out]
 with_reducible refine (HU.out _ ?h1).mono ?_
 case h1 => exact HB.out
 rintro e w2 ⟨rfl, hb2⟩
 have HB2 := Lib.hid (HB.out.trans (hb2.mono HB.out.size))
 have HL2 : Hid (w2.heap[w.heap.size]? = some (.cells #[.int .i64 kd, .int .i64 0, .int .i64 h2, .int .i64 b1, .int .i64 (L : Int), .slice ka kn kc, .slice ca cn cc, .int .i64 e1, .int .i64 e2] 31 (0, 0))) := (hb2.block _ (Array.getElem?_eq_some_iff.1 HL.out).1).trans HL.out
 have hl := HL2.out
 have c0 : w2.cell? ⟨w.heap.size, 0, none⟩ = some (.int .i64 kd) := by simp [World.cell?, hl]
 have c1 : w2.cell? ⟨w.heap.size, 1, none⟩ = some (.int .i64 0) := by simp [World.cell?, hl]
 have c2 : w2.cell? ⟨w.heap.size, 2, none⟩ = some (.int .i64 h2) := by simp [World.cell?, hl]
 have c3 : w2.cell? ⟨w.heap.size, 3, none⟩ = some (.int .i64 b1) := by simp [World.cell?, hl]
 have c4 : w2.cell? ⟨w.heap.size, 4, none⟩ = some (.int .i64 (L : Int)) := by simp [World.cell?, hl]
 have c5 : w2.cell? ⟨w.heap.size, 5, none⟩ = some (.slice ka kn kc) := by simp [World.cell?, hl]
 have c6 : w2.cell? ⟨w.heap.size, 6, none⟩ = some (.slice ca cn cc) := by simp [World.cell?, hl]
 have c7 : w2.cell? ⟨w.heap.size, 7, none⟩ = some (.int .i64 e1) := by simp [World.cell?, hl]
 have c8 : w2.cell? ⟨w.heap.size, 8, none⟩ = some (.int .i64 e2) := by simp [World.cell?, hl]
 clear hb2 hl
 go_wp2_with fail
 with_reducible refine (HT.out _).mono ?_
 clear c0 c1 c2 c3 c4 c5 c6 c7 c8
 rintro e w3 ⟨rfl, hb3⟩
 have HB3 := Lib.hid (HB2.out.trans (hb3.mono HB2.out.size))
 have HL3 : Hid (w3.heap[w.heap.size]? = some (.cells #[.int .i64 kd, .int .i64 0, .int .i64 h2, .int .i64 b1, .int .i64 (L : Int), .slice ka kn kc, .slice ca cn cc, .int .i64 e1, .int .i64 e2] 31 (0, 0))) := (hb3.block _ (Array.getElem?_eq_some_iff.1 HL2.out).1).trans HL2.out
 have hl := HL3.out
 have c0 : w3.cell? ⟨w.heap.size, 0, none⟩ = some (.int .i64 kd) := by simp [World.cell?, hl]
 have c1 : w3.cell? ⟨w.heap.size, 1, none⟩ = some (.int .i64 0) := by simp [World.cell?, hl]
 have c2 : w3.cell? ⟨w.heap.size, 2, none⟩ = some (.int .i64 h2) := by simp [World.cell?, hl]
 have c3 : w3.cell? ⟨w.heap.size, 3, none⟩ = some (.int .i64 b1) := by simp [World.cell?, hl]
 have c4 : w3.cell? ⟨w.heap.size, 4, none⟩ = some (.int .i64 (L : Int)) := by simp [World.cell?, hl]
 have c5 : w3.cell? ⟨w.heap.size, 5, none⟩ = some (.slice ka kn kc) := by simp [World.cell?, hl]
 have c6 : w3.cell? ⟨w.heap.size, 6, none⟩ = some (.slice ca cn cc) := by simp [World.cell?, hl]
 have c7 : w3.cell? ⟨w.heap.size, 7, none⟩ = some (.int .i64 e1) := by simp [World.cell?, hl]
 have c8 : w3.cell? ⟨w.heap.size, 8, none⟩ = some (.int .i64 e2) := by simp [World.cell?, hl]
 clear hb3 hl
 go_wp2_with fail
 with_reducible refine (HF.out _ HB3.out).mono ?_
 clear c0 c1 c2 c3 c4 c5 c6 c7 c8
 rintro e w4 ⟨rfl, hb4⟩
 have HB4 := Lib.hid (HB3.out.trans (hb4.mono HB3.out.size))
 have HL4 : Hid (w4.heap[w.heap.size]? = some (.cells #[.int .i64 kd, .int .i64 0, .int .i64 h2, .int .i64 b1, .int .i64 (L : Int), .slice ka kn kc, .slice ca cn cc, .int .i64 e1, .int .i64 e2] 31 (0, 0))) := (hb4.block _ (Array.getElem?_eq_some_iff.1 HL3.out).1).trans HL3.out
 have hl := HL4.out
 have c0 : w4.cell? ⟨w.heap.size, 0, none⟩ = some (.int .i64 kd) := by simp [World.cell?, hl]
 have c1 : w4.cell? ⟨w.heap.size, 1, none⟩ = some (.int .i64 0) := by simp [World.cell?, hl]
 have c2 : w4.cell? ⟨w.heap.size, 2, none⟩ = some (.int .i64 h2) := by simp [World.cell?, hl]
 have c3 : w4.cell? ⟨w.heap.size, 3, none⟩ = some (.int .i64 b1) := by simp [World.cell?, hl]
 have c4 : w4.cell? ⟨w.heap.size, 4, none⟩ = some (.int .i64 (L : Int)) := by simp [World.cell?, hl]
 have c5 : w4.cell? ⟨w.heap.size, 5, none⟩ = some (.slice ka kn kc) := by simp [World.cell?, hl]
 have c6 : w4.cell? ⟨w.heap.size, 6, none⟩ = some (.slice ca cn cc) := by simp [World.cell?, hl]
 have c7 : w4.cell? ⟨w.heap.size, 7, none⟩ = some (.int .i64 e1) := by simp [World.cell?, hl]
 have c8 : w4.cell? ⟨w.heap.size, 8, none⟩ = some (.int .i64 e2) := by simp [World.cell?, hl]
 clear hb4 hl
 go_wp2_with fail
 with_reducible refine (HLd.out _ HB4.out).mono ?_
 clear c0 c1 c2 c3 c4 c5 c6 c7 c8
 rintro e w5 ⟨rfl, hb5⟩
 have HB5 := Lib.hid (HB4.out.trans (hb5.mono HB4.out.size))
 clear hb5
 go_wp2_with fail
 go_ret
 exact ⟨rfl, HB5.out⟩
theorem check_any {S : Nat → Prop} (t : Tr) (L : Nat) (hg : goodT t) (hcb : countT t ≤ 1000) (hd : deepT t ≤ 32) (hch : chainT 0 L (tilesT t)) (n : Int) (kd h2 b1 e1 e2 : Int) (ka ca : Option Addr) (kn kc cn cc : Nat) (w : World) (hu : treeAt S w t (.agg #[.int .i64 kd, .int .i64 0, .int .i64 h2, .int .i64 b1, .int .i64 (L : Int), .slice ka kn kc, .slice ca cn cc, .int .i64 e1, .int .i64 e2])) :
  Calls Tryz.prog 16 #[.agg #[.int .i64 kd, .int .i64 0, .int .i64 h2, .int .i64 b1, .int .i64 (L : Int), .slice ka kn kc, .slice ca cn cc, .int .i64 e1, .int .i64 e2], .int .i64 n] w fun e w' => e = .returned (.int .i64 (if n = (L : Int) then 0 else 11)) ∧ Below w.heap.size w w' := by
 by_cases hn : n = (L : Int)
 ·rw [if_pos hn]
  subst hn
  exact check_yes t L hg hcb hd hch kd h2 b1 e1 e2 ka ca kn kc cn cc w hu
 ·rw [if_neg hn]
  exact check_no t L hg hcb hd n hn kd h2 b1 e1 e2 ka ca kn kc cn cc w hu
theorem parse13_any (v : Value) (l : List UInt8) (w : World) (hv : bytesArg w v l) (hbig : l.length ≤ 100000) (he : env w) :
  Calls Tryz.prog 7 #[v] w fun e w' => ∃ (kd h2 b1 e1 e2 : Int) (ka : Option Addr) (kn kc : Nat) (ca : Option Addr) (cn cc : Nat), e = .returned (.tuple #[.agg #[.int .i64 kd, .int .i64 0, .int .i64 h2, .int .i64 b1, .int .i64 (l.length : Int), .slice ka kn kc, .slice ca cn cc, .int .i64 e1, .int .i64 e2], .int .i64 0]) ∧
   treeAt (fun k => w.heap.size ≤ k) w' (treeS l) (.agg #[.int .i64 kd, .int .i64 0, .int .i64 h2, .int .i64 b1, .int .i64 (l.length : Int), .slice ka kn kc, .slice ca cn cc, .int .i64 e1, .int .i64 e2]) ∧ Below w.heap.size w w' := by
 refine (treeParse_any v l w hv hbig he).mono ?_
 rintro e w' ⟨ka, kn, kc, ca, cn, cc, rfl, ht, hb⟩
 obtain ⟨_, q1, q2, _⟩ := tree_Q l
 rw [q1, q2] at ht ⊢
 exact ⟨_, _, _, _, _, ka, kn, kc, ca, cn, cc, rfl, ht, hb⟩
end Go.Proofs.YtedminjnnhlknaaGreatDoor
