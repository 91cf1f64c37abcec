/- Layer 18: contracts of package wire: whole. -/
import Derived.Test.YtkkdplccneeaiaaGreatDoorGbWfD
import Derived.BigRegion
import Derived.Deep.RegionHeld
namespace Go.Proofs.YtkkdplccneeaiaaGreatDoor
open Go Go.RowKit

/-- What 'whole' answers. -/
def WhW (base B : Nat) (v : Value) (s : Fr) (w : World) (e : Ending) (w' : World) : Prop :=
  ∃ (g off : Nat) (v' : Value), v.ownBlock = some g ∧ e = .returned (.agg #[.int .i64 2, .slice (some ⟨g, off, none⟩) (s.line + (lineT s).length) (s.line + (lineT s).length)]) ∧ sliceAt w' (some ⟨g, off, none⟩) (s.l.take (s.line + (lineT s).length)) ∧
    B4 w' B 34 v' (.int .i64 0) (.int .i64 0) (.int .i64 0) ∧ v'.ownBlock = some g ∧ Wt w' base v' (s.l.drop (s.pos + 1)) ∧ Gr B w w'
theorem Wt.from_ {W : World} {base g off cap : Nat} {l : List UInt8} (h : Wt W base (.slice (some ⟨g, off, none⟩) l.length cap) l) (k : Nat) (hk : k ≤ l.length) : Wt W base (Lib.sliceFrom g off l.length cap k) (l.drop k) := by
  rcases h with ⟨h, _⟩ | ⟨g', off', cap', cur, e, h1, h2, h3, h4, h5, h6⟩
  · cases h
  · cases e
    unfold Lib.sliceFrom
    have e1 : l.length - k = (l.drop k).length := by rw [List.length_drop]
    split
    · next e2 =>
      right
      refine ⟨g, off, cap - k, cur, by rw [e1], h1, h2, by rw [List.length_drop]; omega, by omega, by omega, ?_⟩
      have : l.drop k = [] := List.drop_eq_nil_of_le (by omega)
      rw [this]
      rfl
    · right
      refine ⟨g, off + k, cap - k, cur, by rw [e1], h1, h2, by rw [List.length_drop]; omega, by omega, by omega, ?_⟩
      have := congrArg (List.drop k) h6
      rw [List.drop_take, List.drop_drop, ← List.map_drop] at this
      rw [List.length_drop]
      exact this
theorem lineT_len (s : Fr) (h : s.line ≤ s.pos) (h2 : s.pos < s.l.length) : s.line + (lineT s).length ≤ s.pos := by
  unfold lineT
  obtain ⟨h3, _⟩ := bareE_suffix ((s.l.drop s.line).take (s.pos - s.line))
  rw [h3]
  have e : ((s.l.drop s.line).take (s.pos - s.line)).length = s.pos - s.line := by rw [List.length_take, List.length_drop]; omega
  rw [e]
  split <;> omega
set_option maxRecDepth 100000 in
set_option maxHeartbeats 4000000 in
theorem wwhole_at (B base g off cap : Nat) (s : Fr) (w : World) (h : FrAt w base B (.slice (some ⟨g, off, none⟩) s.l.length cap) s) (hp : s.pos < s.l.length) (hc : s.l.length ≤ cap) (hm : cap ≤ maxLen) (w1 : World)
    (hb : B4 w1 B 34 (.slice (some ⟨g, off, none⟩) s.l.length cap) (.int .i64 (s.line : Int)) (.int .i64 ((s.pos : Int) + 1)) (.int .i64 ((s.size : Int) + 1))) (hq : w1.heap[g]? = w.heap[g]?) (hcap : ¬ cap = s.pos + 1) :
    Calls Tryz.prog 43 #[.pointer (some ⟨B, 0, none⟩)] w1 (WhW base B (.slice (some ⟨g, off, none⟩) s.l.length cap) s w1) := by
  have hle := h.le
  have hbg := h.big
  have hm2 := hm
  unfold maxLen at hm2
  have hml := lineT_len s h.le hp
  obtain ⟨M, hM⟩ : ∃ M, M = (lineT s).length := ⟨_, rfl⟩
  obtain ⟨E, hE⟩ : ∃ E, E = s.line + M := ⟨_, rfl⟩
  rw [← hM, ← hE] at hml
  have HEi : Hid ((s.line : Int) + (M : Int) = (E : Int)) := by unfold Hid; omega
  have hwt1 : Wt w1 base (.slice (some ⟨g, off, none⟩) s.l.length cap) s.l := h.wt.block (fun q hq' => by cases hq'; exact hq)
  have HWt := Lib.hid hwt1
  have hgw : g < w1.heap.size := (hwt1.lt g rfl).2
  have hgB : ¬ g = B := fun e => h.ne (by rw [e]; rfl)
  have HBx := Lib.hid hb
  have HTx : Hid (∀ W, Below w1.heap.size w1 W → Calls Tryz.prog 42 #[.pointer (some ⟨B, 0, none⟩)] W fun e w' => ∃ o c, e = .returned (.slice (some ⟨g, o, none⟩) M c) ∧ Below W.heap.size W w') := by
    intro W hW
    refine (wtext_any B base _ s w h hp W (hb.below hW) (fun q hq' => by cases hq'; exact (hW.block g hgw).trans hq)).mono ?_
    rintro e w' ⟨g', c, _, hg, _, o, he, _, _, hb'⟩
    cases hg
    exact ⟨o, c, by rw [he, hM], hb'⟩
  have hlt := hb.lt
  obtain ⟨c0, c1, c2, c3⟩ := hb.c
  have C1 := BW.cell c1
  have hp1 : (s.pos : Int) + 1 ≤ (s.l.length : Int) := by omega
  have hp2 : (s.l.length : Int) ≤ (cap : Int) := by omega
  have hE1 : (E : Int) ≤ (cap : Int) := by omega
  have hE2 : (s.line : Int) + (M : Int) ≤ (cap : Int) := by omega
  have hME : (s.line : Int) + (M : Int) ≤ 1000000000 := by omega
  have HM := Lib.hid hM
  have HE := Lib.hid hE
  clear hb hwt1 hM hE
  go_enter Tryz.func43, Tryz.ntmps43
  go_wp2_with fail
  have ha0 : Below w1.heap.size w1 (w1.alloc (.cells #[.int .i64 0, .slice none 0 0] 44)).drew := ((Below.refl w1.heap.size w1).alloc (Nat.le_refl _) _).drew
  have HA0 := Lib.hid ha0
  have HTx0 := Lib.hid (HTx.out _ ha0)
  have HK : Hid (∀ W, Below w1.heap.size w1 W → W.cell? ⟨B, 1, none⟩ = some (.int .i64 (s.line : Int))) := fun W hW => (hW.cell (p := ⟨B, 1, none⟩) hlt).trans c1
  have d1 := HK.out _ ha0
  clear ha0
  go_region_held (fun W' : World => W'.cell? ⟨B, 1, none⟩ = some (.int .i64 (s.line : Int))) (first | exact d1 | exact HK.out _ (by assumption) | exact e1)
    ((go_at_call 42; with_reducible refine HTx0.out.mono ?_; rintro e w2 ⟨o, cc, rfl, hb2⟩; have hb3 := HA0.out.trans (hb2.mono HA0.out.size); have e1 := HK.out _ hb3))
  have HB3 := Lib.hid hb3
  have HBx3 := Lib.hid (HBx.out.below hb3)
  have hsz : w1.heap.size < w2.heap.size := by have := hb2.size; simp at this; omega
  have HEv3 : Hid (B2 w2 w1.heap.size 44 (.int .i64 0) (.slice none 0 0)) := (B2.new w1 44 (.int .i64 0) (.slice none 0 0)).block (hb2.block w1.heap.size (by simp))
  clear hb2 hb3 c0 c1 c2 c3 d1 e1 C1
  obtain ⟨c0, c1, c2, c3⟩ := HBx3.out.c
  have f0 := HBx3.out.f 0
  have f1 := HBx3.out.f 1
  have f2 := HBx3.out.f 2
  have f3 := HBx3.out.f 3
  have v0 := HEv3.out.c0
  have v1 := HEv3.out.c1
  have g0 := HEv3.out.f 0
  have g1 := HEv3.out.f 1
  have hltB : B < w2.heap.size := by omega
  have hz1 : ¬ w1.heap.size = B := by omega
  have hz2 : ¬ B = w1.heap.size := by omega
  go_wp2_with fail
  go_region
  all_goals
    go_wp2_with fail
    (try simp only [Exit.inBlock, Exit.then])
    have HW4 := HBx3.out.all (.slice (some ⟨g, off + (s.pos + 1), none⟩) (s.l.length - (s.pos + 1)) (cap - (s.pos + 1))) (.int .i64 0) (.int .i64 0) (.int .i64 0)
    have hg4 : Gr B w1 ((((w2.setCell ⟨B, 0, none⟩ (.slice (some ⟨g, off + (s.pos + 1), none⟩) (s.l.length - (s.pos + 1)) (cap - (s.pos + 1)))).setCell ⟨B, 1, none⟩ (.int .i64 0)).setCell ⟨B, 2, none⟩ (.int .i64 0)).setCell ⟨B, 3, none⟩ (.int .i64 0)) := ((Gr.refl B w1).below HB3.out).four _ _ _ _
    have hg4' : Gr B w2 ((((w2.setCell ⟨B, 0, none⟩ (.slice (some ⟨g, off + (s.pos + 1), none⟩) (s.l.length - (s.pos + 1)) (cap - (s.pos + 1)))).setCell ⟨B, 1, none⟩ (.int .i64 0)).setCell ⟨B, 2, none⟩ (.int .i64 0)).setCell ⟨B, 3, none⟩ (.int .i64 0)) := (Gr.refl B w2).four _ _ _ _
    have HE4 := (HEv3.out.gr hg4' hz1)
    generalize hX : ((((w2.setCell ⟨B, 0, none⟩ (.slice (some ⟨g, off + (s.pos + 1), none⟩) (s.l.length - (s.pos + 1)) (cap - (s.pos + 1)))).setCell ⟨B, 1, none⟩ (.int .i64 0)).setCell ⟨B, 2, none⟩ (.int .i64 0)).setCell ⟨B, 3, none⟩ (.int .i64 0)) = X at HW4 hg4 HE4 ⊢
    have hE6 := ((HE4.set0 (.int .i64 2)).set1 (.slice (some ⟨g, off, none⟩) (s.line + M) (s.line + M)))
    have hg6 : Gr w1.heap.size X ((X.setCell ⟨w1.heap.size, 0, none⟩ (.int .i64 2)).setCell ⟨w1.heap.size, 1, none⟩ (.slice (some ⟨g, off, none⟩) (s.line + M) (s.line + M))) := ((Gr.refl _ _).set 0 _).set 1 _
    have hb6 : Below w1.heap.size X ((X.setCell ⟨w1.heap.size, 0, none⟩ (.int .i64 2)).setCell ⟨w1.heap.size, 1, none⟩ (.slice (some ⟨g, off, none⟩) (s.line + M) (s.line + M))) := ((Below.refl w1.heap.size X).setCell (p := ⟨w1.heap.size, 0, none⟩) (Nat.le_refl _) _).setCell (p := ⟨w1.heap.size, 1, none⟩) (Nat.le_refl _) _
    have HW6 := HW4.gr hg6 hz2
    have hG6 := hg4.low hb6
    generalize ((X.setCell ⟨w1.heap.size, 0, none⟩ (.int .i64 2)).setCell ⟨w1.heap.size, 1, none⟩ (.slice (some ⟨g, off, none⟩) (s.line + M) (s.line + M))) = Y at hE6 HW6 hG6 ⊢
    have hb7 : Below Y.heap.size Y (Y.alloc (.cells #[.int .i64 2, .slice (some ⟨g, off, none⟩) (s.line + M) (s.line + M)] 44)).drew := ((Below.refl _ _).alloc (Nat.le_refl _) _).drew
    have hE7 := hE6.below hb7
    have HW7 := HW6.below hb7
    have hG7 := hG6.below hb7
    generalize (Y.alloc (.cells #[.int .i64 2, .slice (some ⟨g, off, none⟩) (s.line + M) (s.line + M)] 44)).drew = Z at hE7 HW7 hG7 ⊢
    refine bodyPost_ret (results_cell_row (P := Tryz.prog) Tryz.results43 _ _ w1.heap.size 44 _ (0, 0) _ rfl hE7 Tryz.underlying44 rfl (by kernel_rfl)) rfl ?_
    have hgz : Z.heap[g]? = w1.heap[g]? := hG7.block g hgw (fun e => hgB (Option.some.inj e))
    have hw9 := (HWt.out.from_ (s.pos + 1) (by omega)).block (W' := Z) (fun q hq' => by
      unfold Lib.sliceFrom at hq'
      split at hq' <;> (cases hq'; exact hgz))
    unfold Lib.sliceFrom at hw9
    rw [if_neg hcap] at hw9
    obtain ⟨g', off', cap', e', _, _, _, _, hs1⟩ := HWt.out.at_ (fun e => by rw [e] at hp; simp at hp)
    cases e'
    refine ⟨g, off, (.slice (some ⟨g, off + (s.pos + 1), none⟩) (s.l.length - (s.pos + 1)) (cap - (s.pos + 1))), rfl, by rw [HM.out], ?_, HW7, rfl, hw9, hG7⟩
    rw [← HM.out, ← HE.out]
    exact hG7.slice hgB (hs1.take E)
set_option maxRecDepth 100000 in
set_option maxHeartbeats 4000000 in
theorem wwhole_end (B base g off cap : Nat) (s : Fr) (w : World) (h : FrAt w base B (.slice (some ⟨g, off, none⟩) s.l.length cap) s) (hp : s.pos < s.l.length) (hc : s.l.length ≤ cap) (hm : cap ≤ maxLen) (w1 : World)
    (hb : B4 w1 B 34 (.slice (some ⟨g, off, none⟩) s.l.length cap) (.int .i64 (s.line : Int)) (.int .i64 ((s.pos : Int) + 1)) (.int .i64 ((s.size : Int) + 1))) (hq : w1.heap[g]? = w.heap[g]?) (hcap : cap = s.pos + 1) :
    Calls Tryz.prog 43 #[.pointer (some ⟨B, 0, none⟩)] w1 (WhW base B (.slice (some ⟨g, off, none⟩) s.l.length cap) s w1) := by
  subst hcap
  have hln : s.l.length = s.pos + 1 := by omega
  have hle := h.le
  have hbg := h.big
  have hm2 := hm
  unfold maxLen at hm2
  have hml := lineT_len s h.le hp
  obtain ⟨M, hM⟩ : ∃ M, M = (lineT s).length := ⟨_, rfl⟩
  obtain ⟨E, hE⟩ : ∃ E, E = s.line + M := ⟨_, rfl⟩
  rw [← hM, ← hE] at hml
  have HEi : Hid ((s.line : Int) + (M : Int) = (E : Int)) := by unfold Hid; omega
  have hwt1 : Wt w1 base (.slice (some ⟨g, off, none⟩) s.l.length (s.pos + 1)) s.l := h.wt.block (fun q hq' => by cases hq'; exact hq)
  have HWt := Lib.hid hwt1
  have hgw : g < w1.heap.size := (hwt1.lt g rfl).2
  have hgB : ¬ g = B := fun e => h.ne (by rw [e]; rfl)
  have HBx := Lib.hid hb
  have HTx : Hid (∀ W, Below w1.heap.size w1 W → Calls Tryz.prog 42 #[.pointer (some ⟨B, 0, none⟩)] W fun e w' => ∃ o c, e = .returned (.slice (some ⟨g, o, none⟩) M c) ∧ Below W.heap.size W w') := by
    intro W hW
    refine (wtext_any B base _ s w h hp W (hb.below hW) (fun q hq' => by cases hq'; exact (hW.block g hgw).trans hq)).mono ?_
    rintro e w' ⟨g', c, _, hg, _, o, he, _, _, hb'⟩
    cases hg
    exact ⟨o, c, by rw [he, hM], hb'⟩
  have hlt := hb.lt
  obtain ⟨c0, c1, c2, c3⟩ := hb.c
  have C1 := BW.cell c1
  have hp1 : (s.pos : Int) + 1 ≤ (s.l.length : Int) := by omega
  have hp2 : (s.l.length : Int) ≤ ((s.pos + 1) : Int) := by omega
  have hE1 : (E : Int) ≤ ((s.pos + 1) : Int) := by omega
  have hE2 : (s.line : Int) + (M : Int) ≤ ((s.pos + 1) : Int) := by omega
  have hME : (s.line : Int) + (M : Int) ≤ 1000000000 := by omega
  have HM := Lib.hid hM
  have HE := Lib.hid hE
  clear hb hwt1 hM hE
  go_enter Tryz.func43, Tryz.ntmps43
  go_wp2_with fail
  have ha0 : Below w1.heap.size w1 (w1.alloc (.cells #[.int .i64 0, .slice none 0 0] 44)).drew := ((Below.refl w1.heap.size w1).alloc (Nat.le_refl _) _).drew
  have HA0 := Lib.hid ha0
  have HTx0 := Lib.hid (HTx.out _ ha0)
  have HK : Hid (∀ W, Below w1.heap.size w1 W → W.cell? ⟨B, 1, none⟩ = some (.int .i64 (s.line : Int))) := fun W hW => (hW.cell (p := ⟨B, 1, none⟩) hlt).trans c1
  have d1 := HK.out _ ha0
  clear ha0
  go_region_held (fun W' : World => W'.cell? ⟨B, 1, none⟩ = some (.int .i64 (s.line : Int))) (first | exact d1 | exact HK.out _ (by assumption) | exact e1)
    ((go_at_call 42; with_reducible refine HTx0.out.mono ?_; rintro e w2 ⟨o, cc, rfl, hb2⟩; have hb3 := HA0.out.trans (hb2.mono HA0.out.size); have e1 := HK.out _ hb3))
  have HB3 := Lib.hid hb3
  have HBx3 := Lib.hid (HBx.out.below hb3)
  have hsz : w1.heap.size < w2.heap.size := by have := hb2.size; simp at this; omega
  have HEv3 : Hid (B2 w2 w1.heap.size 44 (.int .i64 0) (.slice none 0 0)) := (B2.new w1 44 (.int .i64 0) (.slice none 0 0)).block (hb2.block w1.heap.size (by simp))
  clear hb2 hb3 c0 c1 c2 c3 d1 e1 C1
  obtain ⟨c0, c1, c2, c3⟩ := HBx3.out.c
  have f0 := HBx3.out.f 0
  have f1 := HBx3.out.f 1
  have f2 := HBx3.out.f 2
  have f3 := HBx3.out.f 3
  have v0 := HEv3.out.c0
  have v1 := HEv3.out.c1
  have g0 := HEv3.out.f 0
  have g1 := HEv3.out.f 1
  have hltB : B < w2.heap.size := by omega
  have hz1 : ¬ w1.heap.size = B := by omega
  have hz2 : ¬ B = w1.heap.size := by omega
  go_wp2_with fail
  go_region
  all_goals
    go_wp2_with fail
    (try simp only [Exit.inBlock, Exit.then])
    have HW4 := HBx3.out.all (.slice (some ⟨g, off, none⟩) 0 0) (.int .i64 0) (.int .i64 0) (.int .i64 0)
    have hg4 : Gr B w1 ((((w2.setCell ⟨B, 0, none⟩ (.slice (some ⟨g, off, none⟩) 0 0)).setCell ⟨B, 1, none⟩ (.int .i64 0)).setCell ⟨B, 2, none⟩ (.int .i64 0)).setCell ⟨B, 3, none⟩ (.int .i64 0)) := ((Gr.refl B w1).below HB3.out).four _ _ _ _
    have hg4' : Gr B w2 ((((w2.setCell ⟨B, 0, none⟩ (.slice (some ⟨g, off, none⟩) 0 0)).setCell ⟨B, 1, none⟩ (.int .i64 0)).setCell ⟨B, 2, none⟩ (.int .i64 0)).setCell ⟨B, 3, none⟩ (.int .i64 0)) := (Gr.refl B w2).four _ _ _ _
    have HE4 := (HEv3.out.gr hg4' hz1)
    generalize hX : ((((w2.setCell ⟨B, 0, none⟩ (.slice (some ⟨g, off, none⟩) 0 0)).setCell ⟨B, 1, none⟩ (.int .i64 0)).setCell ⟨B, 2, none⟩ (.int .i64 0)).setCell ⟨B, 3, none⟩ (.int .i64 0)) = X at HW4 hg4 HE4 ⊢
    have hE6 := ((HE4.set0 (.int .i64 2)).set1 (.slice (some ⟨g, off, none⟩) (s.line + M) (s.line + M)))
    have hg6 : Gr w1.heap.size X ((X.setCell ⟨w1.heap.size, 0, none⟩ (.int .i64 2)).setCell ⟨w1.heap.size, 1, none⟩ (.slice (some ⟨g, off, none⟩) (s.line + M) (s.line + M))) := ((Gr.refl _ _).set 0 _).set 1 _
    have hb6 : Below w1.heap.size X ((X.setCell ⟨w1.heap.size, 0, none⟩ (.int .i64 2)).setCell ⟨w1.heap.size, 1, none⟩ (.slice (some ⟨g, off, none⟩) (s.line + M) (s.line + M))) := ((Below.refl w1.heap.size X).setCell (p := ⟨w1.heap.size, 0, none⟩) (Nat.le_refl _) _).setCell (p := ⟨w1.heap.size, 1, none⟩) (Nat.le_refl _) _
    have HW6 := HW4.gr hg6 hz2
    have hG6 := hg4.low hb6
    generalize ((X.setCell ⟨w1.heap.size, 0, none⟩ (.int .i64 2)).setCell ⟨w1.heap.size, 1, none⟩ (.slice (some ⟨g, off, none⟩) (s.line + M) (s.line + M))) = Y at hE6 HW6 hG6 ⊢
    have hb7 : Below Y.heap.size Y (Y.alloc (.cells #[.int .i64 2, .slice (some ⟨g, off, none⟩) (s.line + M) (s.line + M)] 44)).drew := ((Below.refl _ _).alloc (Nat.le_refl _) _).drew
    have hE7 := hE6.below hb7
    have HW7 := HW6.below hb7
    have hG7 := hG6.below hb7
    generalize (Y.alloc (.cells #[.int .i64 2, .slice (some ⟨g, off, none⟩) (s.line + M) (s.line + M)] 44)).drew = Z at hE7 HW7 hG7 ⊢
    refine bodyPost_ret (results_cell_row (P := Tryz.prog) Tryz.results43 _ _ w1.heap.size 44 _ (0, 0) _ rfl hE7 Tryz.underlying44 rfl (by kernel_rfl)) rfl ?_
    have hgz : Z.heap[g]? = w1.heap[g]? := hG7.block g hgw (fun e => hgB (Option.some.inj e))
    have hw9 := (HWt.out.from_ (s.pos + 1) (by omega)).block (W' := Z) (fun q hq' => by
      unfold Lib.sliceFrom at hq'
      split at hq' <;> (cases hq'; exact hgz))
    unfold Lib.sliceFrom at hw9
    rw [if_pos rfl, Nat.sub_self, show s.l.length - (s.pos + 1) = 0 by omega] at hw9
    obtain ⟨g', off', cap', e', _, _, _, _, hs1⟩ := HWt.out.at_ (fun e => by rw [e] at hp; simp at hp)
    cases e'
    refine ⟨g, off, (.slice (some ⟨g, off, none⟩) 0 0), rfl, by rw [HM.out], ?_, HW7, rfl, hw9, hG7⟩
    rw [← HM.out, ← HE.out]
    exact hG7.slice hgB (hs1.take E)
theorem wwhole_any (B base : Nat) (v : Value) (s : Fr) (w : World) (h : FrAt w base B v s) (hp : s.pos < s.l.length) (w1 : World)
    (hb : B4 w1 B 34 v (.int .i64 (s.line : Int)) (.int .i64 ((s.pos : Int) + 1)) (.int .i64 ((s.size : Int) + 1))) (hq : ∀ q, v.ownBlock = some q → w1.heap[q]? = w.heap[q]?) :
    Calls Tryz.prog 43 #[.pointer (some ⟨B, 0, none⟩)] w1 (WhW base B v s w1) := by
  obtain ⟨g, off, cap, rfl, _, _, hc, hm, _⟩ := h.wt.at_ (fun e => by rw [e] at hp; simp at hp)
  by_cases hcap : cap = s.pos + 1
  · exact wwhole_end B base g off cap s w h hp hc hm w1 hb (hq g rfl) hcap
  · exact wwhole_at B base g off cap s w h hp hc hm w1 hb (hq g rfl) hcap
end Go.Proofs.YtkkdplccneeaiaaGreatDoor
