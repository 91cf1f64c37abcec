/- Contracts of package lines: Count. (Of the text of LinesE, apart, where that was pruned of it.) -/
import Derived.Test.YtkmgflnmffdhjaaGreatDoorGbLinesE
namespace Go.Proofs.YtkmgflnmffdhjaaGreatDoor
open Go Go.RowKit Go.Shelf
attribute [local go_sem] Oper.semAt_some

set_option maxRecDepth 100000 in
set_option maxHeartbeats 2000000 in
theorem count_any (v : Value) (l : List UInt8) (f t : Int) (w : World) (hv : bytesArg w v l) (hbig : l.length ≤ 1048576) :
    Calls Tryz.prog 62 #[v, .agg #[.int .i64 f, .int .i64 t]] w fun e w' => e = .returned (.int .i64 ((linesZ l f t).length : Int)) ∧ Below w.heap.size w w' := by
  have HV := Lib.hid hv
  obtain ⟨ao, cap, rfl, hc, hm, hs⟩ := hv
  clear hs
  refine (callsIn_wide (n := 3)).1 ?_
  refine callsIn_of_wp_marks Tryz.func62 rfl trivial ?_ rfl
  simp only [Tryz.ntmps62, List.size_toArray, List.length_cons, List.length_nil, Nat.reduceAdd, Nat.reduceSub, Array.replicate_succ, Array.replicate_zero, List.push_toArray, List.append_toArray, List.nil_append, List.cons_append]
  gi_wp2
  refine ⟨trivial, ?_⟩
  with_reducible refine (callsIn_wide.2 (each_any _ _ _ _ _ _ _ rfl)).mono ?_
  rintro e w1 ⟨rfl, rfl⟩
  gi_wp2
  have HSe := Lib.hid (seat_new w (.cells #[.int .i64 0] 3) (.slice ao l.length cap) 3 (.int .i64 0) f t rfl rfl)
  have bN := ((Boxed.new (w.alloc (.cells #[.int .i64 f, .int .i64 t] 25)) 3 (.int .i64 0)).alloc (.cells #[.slice ao l.length cap] 22)).alloc (.cells #[.int .i64 f, .int .i64 t] 25)
  obtain ⟨W0, hW0⟩ : ∃ W0, (((w.alloc (.cells #[.int .i64 f, .int .i64 t] 25)).alloc (.cells #[.int .i64 0] 3)).alloc (.cells #[.slice ao l.length cap] 22)).alloc (.cells #[.int .i64 f, .int .i64 t] 25) = W0 := ⟨_, rfl⟩
  have hsz : W0.heap.size = w.heap.size + 4 := by rw [← hW0]; simp
  simp only [World.size_alloc] at bN
  rw [hW0] at HSe bN ⊢
  clear hW0
  refine wpIn_rangeFunc_ownF rfl (by omega) (gf := 126) (lb := #[.pointer (some ⟨w.heap.size + 1 + 1 + 1, 0, none⟩), .pointer (some ⟨w.heap.size + 1 + 1, 0, none⟩)]) rfl trivial (enters_of Tryz.func126 (by kernel_rfl) rfl)
    (each_stops 2 (by omega) (w.heap.size + 1) (w.heap.size + 3) (w.heap.size + 2) w W0 (.slice ao l.length cap) l f t HV.out hbig HSe.out) (fun h k => h.trans k) (KeepK.turn (by omega) (by omega)) (Below.refl _ _) (fun _ => rfl)
    (fun pre W => Boxed W (w.heap.size + 1) 3 (.int .i64 (pre.length : Int)) ∧ Below w.heap.size w W)
    (fun _ _ _ => False)
    (OwnFrom.and (Own.from (boxed_own _ _ _) _) (ownFrom_below (Nat.le_refl _) (by omega)))
    (fun _ _ _ _ _ hs _ _ => hs)
    ⟨bN, HSe.out.below⟩
    (fun x => { tmps := #[.slice ao l.length cap, .agg #[.int .i64 f, .int .i64 t], undef, .pointer (some ⟨w.heap.size, 0, none⟩), .int .i64 0, .pointer (some ⟨w.heap.size + 1, 0, none⟩), .slice ao l.length cap, .agg #[.int .i64 f, .int .i64 t],
        .func (.func 126) #[] #[.pointer (some ⟨w.heap.size + 1 + 1 + 1, 0, none⟩), .pointer (some ⟨w.heap.size + 1 + 1, 0, none⟩)], lnV x, undef, undef, undef], defers := [] }) ?assign ?body ?done ?stop
  case assign =>
    intro lp x W K hK
    gi_wp2
    simpa using hK
  case body =>
    rintro lp pre x W ⟨hb, hB⟩ hlt
    have hc1 := hb.cell
    have hf1 := hb.frozen
    gi_wp2
    refine ⟨KeepsOthers.setCell _ _ _, keep_set hb (by omega) rfl, ?_, hB.setCell (p := ⟨w.heap.size + 1, 0, none⟩) (by simp) _⟩
    have := hb.set (.int .i64 ((pre.length : Int) + 1))
    simpa using this
  case done =>
    rintro D ys W hD rfl ⟨hb, hB⟩ hK
    have hc1 := hb.cell
    gi_wp2
    refine ⟨by simp, .inl ⟨_, _, rfl, run_takeDeferred hK, ?_⟩⟩
    exact ⟨_, results_tmp rfl _ _ _, rfl, hB.trans (belowK_b (w := w) (Nat.le_refl _) W D _ _ (by omega) hK rfl rfl)⟩
  case stop =>
    rintro D c pre W _ _ h _
    exact h.elim

end Go.Proofs.YtkmgflnmffdhjaaGreatDoor
