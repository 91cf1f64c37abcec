/- Layer 18: contracts of package wire: next. -/
import Derived.Test.YtkkdplccneeaiaaGreatDoorGbWfE
import Derived.Deep.DeepCutAuto
import Derived.Deep.CutBlock
namespace Go.Proofs.YtkkdplccneeaiaaGreatDoor
open Go Go.RowKit

def evK : Ev → Nat
  | .go => 1
  | .cmd _ => 2
  | .bad => 3
/-- The bytes of an event. -/
def evT (W : World) (B : Nat) (e : Ev) (u : Value) : Prop :=
  match e with
  | .cmd t => ∃ g off, u = .slice (some ⟨g, off, none⟩) t.length t.length ∧ g ≠ B ∧ g < W.heap.size ∧ t.length ≤ maxLen ∧ sliceAt W (some ⟨g, off, none⟩) t
  | _ => u = .slice none 0 0
/-- What 'next' answers. -/
def NxW (base B : Nat) (v : Value) (w : World) (r : Option Ev × Fr) (e : Ending) (w' : World) : Prop :=
  (∃ v', FrAt w' base B v' r.2 ∧ (∀ q, v'.ownBlock = some q → v.ownBlock = some q)) ∧ Gr B w w' ∧ match r.1 with
  | none => e = .returned (.tuple #[.agg #[.int .i64 0, .slice none 0 0], .bool false])
  | some ev => ∃ u, e = .returned (.tuple #[.agg #[.int .i64 (evK ev : Int), u], .bool true]) ∧ evT w' B ev u ∧ (∀ q, u.ownBlock = some q → v.ownBlock = some q)
theorem frAt_zero {W : World} {base B : Nat} (h : B4 W B 34 (.slice none 0 0) (.int .i64 0) (.int .i64 0) (.int .i64 0)) : FrAt W base B (.slice none 0 0) fr0 :=
  ⟨h, .inl ⟨rfl, rfl⟩, by simp [Value.ownBlock], Nat.le_refl _, Nat.zero_le _, fun h => (by cases h), Nat.zero_le _, Nat.zero_le _⟩
set_option maxRecDepth 100000 in
set_option maxHeartbeats 8000000 in
theorem wnext_any (B base : Nat) (v : Value) (s : Fr) (w : World) (h : FrAt w base B v s) :
    Calls Tryz.prog 29 #[.pointer (some ⟨B, 0, none⟩)] w (NxW base B v w (nextF s)) := by
  have hlt := h.box.lt
  obtain ⟨w0, hw0⟩ : ∃ x, x = w.alloc (.cells #[.int .i64 0, .slice none 0 0] 44) := ⟨_, rfl⟩
  have hb0 : Below w.heap.size w w0 := by rw [hw0]; exact (Below.refl _ _).alloc (Nat.le_refl _) _
  have HF0 := Lib.hid (h.below hb0)
  have HR0 : Hid (B2 w0 w.heap.size 44 (.int .i64 0) (.slice none 0 0)) := by unfold Hid; rw [hw0]; exact B2.new _ _ _ _
  have HG0 : Hid (Gr B w w0) := (Gr.refl B w).below hb0
  have HW0 := Lib.hid hw0
  have hwB : ¬ w.heap.size = B := by omega
  have hBw : ¬ B = w.heap.size := by omega
  have HW : Hid (∀ (W : World) (u v : Value), Below w.heap.size W ((W.setCell ⟨w.heap.size, 0, none⟩ u).setCell ⟨w.heap.size, 1, none⟩ v)) := fun W u v => ((Below.refl w.heap.size W).setCell (p := ⟨w.heap.size, 0, none⟩) (Nat.le_refl _) u).setCell (p := ⟨w.heap.size, 1, none⟩) (Nat.le_refl _) v
  have HVR : Hid (v.ownBlock ≠ some w.heap.size) := fun e => by have := (h.wt.lt _ e).2; omega
  clear h hb0
  go_enter Tryz.func29, Tryz.ntmps29
  go_wp2_with fail
  try go_step3
  go_wp2_with fail
  try go_step3
  go_wp2_with fail
  rw [← HW0.out]
  clear hw0
  go_loopg [] (s.l.length - s.pos) (fun g wr => ∃ (sj : Fr), g = sj.l.length - sj.pos ∧ Hid (FrAt wr base B v sj) ∧ Hid (B2 wr w.heap.size 44 (.int .i64 0) (.slice none 0 0)) ∧ Hid (Gr B w wr) ∧ Hid (nextF s = nextF sj))
  case atStart => exact ⟨s, rfl, HF0.out, HR0.out, HG0.out, rfl⟩
  case round =>
    obtain ⟨sj, rfl, HF, HR, HG, HS⟩ := hrel
    obtain ⟨l, L, P, S⟩ := sj
    have hvR : v.ownBlock ≠ some w.heap.size := HVR.out
    by_cases hp : P < l.length
    · obtain ⟨g, off, cap, rfl, hg1, hg2, hc, hm, hs⟩ := HF.out.wt.at_ (fun e => by have e' : l = [] := e; rw [e'] at hp; simp at hp)
      have hgB : ¬ g = B := fun e => HF.out.ne (by rw [e]; rfl)
      have hgR : ¬ g = w.heap.size := fun e => hvR (by rw [e]; rfl)
      have hbig : l.length ≤ 1000000000 := HF.out.big
      have hsz : S ≤ 65536 := HF.out.sz
      have hLP : L ≤ P := HF.out.le
      have hm2 : cap ≤ maxLen := hm
      have hc2 : l.length ≤ cap := hc
      obtain ⟨c0, c1, c2, c3⟩ := HF.out.box.c
      have C0 := BW.cell c0
      have C2 := BW.cell c2
      have hd : (P : Int) < (l.length : Int) := by omega
      clear hs hm hc hg2
      go_wp2_with fail
      refine wp_region_below (by kernel_rfl) (by kernel_rfl) ?_
      repeat (go_big_quiet_step (fail))
      refine wpQuiet_nil ?_
      rintro W1 ⟨⟨_, hb1⟩, rfl⟩
      have HF1 := Lib.hid (HF.out.below hb1)
      have HR1 := Lib.hid (HR.out.below hb1)
      have HG1 := Lib.hid (HG.out.below hb1)
      clear hb1 c0 c1 c2 c3 C0 C2 HF HR HG
      obtain ⟨c0, c1, c2, c3⟩ := HF1.out.box.c
      simp only at c0 c1 c2 c3
      have f2 := HF1.out.box.f 2
      have f3 := HF1.out.box.f 3
      have hPi : (P : Int) + 1 ≤ 2000000000 := by omega
      have hSi : (S : Int) + 1 ≤ 2000000000 := by omega
      have hb2 : B4 ((W1.setCell ⟨B, 2, none⟩ (.int .i64 ((P : Int) + 1))).setCell ⟨B, 3, none⟩ (.int .i64 ((S : Int) + 1))) B 34 (.slice (some ⟨g, off, none⟩) l.length cap) (.int .i64 (L : Int)) (.int .i64 ((P : Int) + 1)) (.int .i64 ((S : Int) + 1)) := (HF1.out.box.set2 _).set3 _
      have hg2 : Gr B W1 ((W1.setCell ⟨B, 2, none⟩ (.int .i64 ((P : Int) + 1))).setCell ⟨B, 3, none⟩ (.int .i64 ((S : Int) + 1))) := ((Gr.refl B W1).set 2 _).set 3 _
      have hr2 := HR1.out.gr hg2 hwB
      have HB2 := Lib.hid hb2
      have HG12 := Lib.hid hg2
      have HR2 := Lib.hid hr2
      have HG2 := Lib.hid (HG1.out.trans hg2)
      clear hb2 hg2 hr2
      by_cases hS1 : 65536 < S + 1
      · have hSj : (65536 : Int) < (S : Int) + 1 := by omega
        have HE : Hid (nextF s = (some .bad, fr0)) := by unfold Hid; rw [HS.out]; exact nextF_big hp hS1
        have HBd := Lib.hid (wbad_any B _ _ _ _ _ HB2.out)
        go_wp2_with fail
        with_reducible refine HBd.out.mono ?_
        rintro e wz ⟨rfl, hbz, hgz⟩
        have HRz := Lib.hid (HR2.out.gr hgz hwB)
        have HGz := Lib.hid (HG2.out.trans hgz)
        have HBz := Lib.hid hbz
        have q0 := HRz.out.c0
        have q1 := HRz.out.c1
        have p0 := HRz.out.f 0
        have p1 := HRz.out.f 1
        clear hbz hgz HBd
        go_wp2_with fail
        try rw [Exit.noGoto_ret]
        try simp only [Exit.noGoto_normal]
        (try simp only [Exit.inBlock, Exit.then])
        refine bodyPost_ret (results_cell_rowW (P := Tryz.prog) Tryz.results29 _ _ w.heap.size 44 _ (0, 0) _ rfl ((HRz.out.set0 (.int .i64 3)).set1 (.slice none 0 0)) Tryz.underlying44 rfl (by kernel_rfl)) rfl ?_
        rw [HE.out]
        exact ⟨⟨_, frAt_zero (HBz.out.gr (((Gr.refl w.heap.size wz).set 0 _).set 1 _) hBw), fun q hq => (by cases hq)⟩, HGz.out.low (HW.out _ _ _), _, rfl, rfl, fun q hq => (by cases hq)⟩
      · have hSj : ¬ (65536 : Int) < (S : Int) + 1 := by omega
        have hSj2 : decide ((65536 : Int) < (S : Int) + 1) = false := decide_eq_false hSj
        have hsl2 : sliceAt ((W1.setCell ⟨B, 2, none⟩ (.int .i64 ((P : Int) + 1))).setCell ⟨B, 3, none⟩ (.int .i64 ((S : Int) + 1))) (some ⟨g, off, none⟩) l := by
          obtain ⟨g', off', cap', e', _, _, _, _, hs⟩ := HF1.out.wt.at_ (fun e => by have e' : l = [] := e; rw [e'] at hp; simp at hp)
          cases e'
          exact HG12.out.slice hgB hs
        have hcell : ((W1.setCell ⟨B, 2, none⟩ (.int .i64 ((P : Int) + 1))).setCell ⟨B, 3, none⟩ (.int .i64 ((S : Int) + 1))).cell? ⟨g, off + P, none⟩ = some (.int .u8 (l[P].toNat : Int)) := by
          rcases hsl2 with h | ⟨b', o', e', _, h⟩
          · rw [h] at hp; simp at hp
          · cases e'; exact h P hp
        obtain ⟨W2, hW2⟩ : ∃ x, x = ((W1.setCell ⟨B, 2, none⟩ (.int .i64 ((P : Int) + 1))).setCell ⟨B, 3, none⟩ (.int .i64 ((S : Int) + 1))) := ⟨_, rfl⟩
        have HW2 := Lib.hid hW2
        rw [← hW2] at HB2 HG12 HR2 HG2 hcell
        clear hW2 hsl2
        obtain ⟨d0, d1, d2, d3⟩ := HB2.out.c
        have C0 := BW.cell d0
        have C2 := BW.cell d2
        have CP := BW.cell hcell
        have hidx : (P : Int) + 1 - 1 = (P : Int) := by omega
        go_wp2_with fail
        rw [← HW2.out]
        refine wp_region_below (by kernel_rfl) (by kernel_rfl) ?_
        repeat (go_big_quiet_step (fail))
        refine wpQuiet_nil ?_
        rintro W3 ⟨⟨_, hb3⟩, rfl⟩
        have HB3 := Lib.hid (HB2.out.below hb3)
        have HR3 := Lib.hid (HR2.out.below hb3)
        have HG3 := Lib.hid (HG2.out.below hb3)
        have HG13 := Lib.hid (HG12.out.below hb3)
        clear hb3 d0 d1 d2 d3 C0 C2 CP hcell c0 c1 c2 c3 f2 f3 HB2 HR2 HG2 HG12
        by_cases h10 : l[P] = 10
        · have b10 : ((l[P].toNat : Int) != 10) = false := by rw [h10]; rfl
          have H10 : Hid (l.getD P 0 = 10) := by unfold Hid; rw [List.getD_eq_getElem?_getD, List.getElem?_eq_getElem hp]; exact h10
          have HTx := Lib.hid (wtext_any B base _ ⟨l, L, P, S⟩ W1 HF1.out hp W3 HB3.out (fun q hq => by cases hq; exact HG13.out.block g ((HF1.out.wt.lt g rfl).2) (fun e => hgB (Option.some.inj e))))
          unfold TxW at HTx
          clear h10
          obtain ⟨tx, htx⟩ : ∃ t, t = lineT ⟨l, L, P, S⟩ := ⟨_, rfl⟩
          rw [← htx] at HTx
          have HTX := Lib.hid htx
          clear htx hidx
          clear hvR hSi hPi hSj2 hSj
          go_wp2_with fail
          with_reducible refine HTx.out.mono ?_
          rintro e w4 ⟨g4, c4, hg4, hgo4, hc4, o4, rfl, htl4, hs4, hb4⟩
          obtain rfl : g4 = g := by cases hgo4; rfl
          have HB4 := Lib.hid (HB3.out.below hb4)
          have HR4 := Lib.hid (HR3.out.below hb4)
          have HG4 := Lib.hid (HG3.out.below hb4)
          have HG14 := Lib.hid (HG13.out.below hb4)
          have hg4lt : g4 < w4.heap.size := Nat.lt_of_lt_of_le (HF1.out.wt.lt g4 rfl).2 HG14.out.size
          have HLh := Lib.hid (wlastHead_any g4 o4 c4 tx.length tx w4 rfl htl4 (by omega) (by omega) hg4lt hs4)
          unfold LhW at HLh
          clear hs4 hb4 hgo4 HB3 HR3 HG3 HG13 HTx
          go_wp2_with fail
          with_reducible refine HLh.out.mono ?_
          rintro e w5 ⟨n, u, x, rfl, hb5, hx5⟩
          rw [HTX.out] at hx5
          obtain ⟨w6, hw6⟩ : ∃ y, y = w5.alloc (.cells #[.int .i64 (n : Int), .bool u] 68) := ⟨_, rfl⟩
          have hb6 : Below w5.heap.size w5 w6 := by rw [hw6]; exact (Below.refl _ _).alloc (Nat.le_refl _) _
          have HB6 := Lib.hid ((HB4.out.below hb5).below hb6)
          have HR6 := Lib.hid ((HR4.out.below hb5).below hb6)
          have HG6 := Lib.hid ((HG4.out.below hb5).below hb6)
          have HG16 := Lib.hid ((HG14.out.below hb5).below hb6)
          have HH6 : Hid (Go.Proofs.YtkkdplccneeaiaaGreatDoor.B2 w6 w5.heap.size 68 (.int .i64 (n : Int)) (.bool u)) := by unfold Hid; rw [hw6]; exact B2.new _ _ _ _
          have HW6 := Lib.hid hw6
          have HX5 := Lib.hid hx5
          clear hb5 hb6 hw6 hx5 HB4 HR4 HG4 HG14 HLh
          cases x with
          | false =>
            have HWh := Lib.hid (wwhole_any B base _ ⟨l, L, P, S⟩ W1 HF1.out hp w6 HB6.out (fun q hq => by cases hq; exact HG16.out.block g4 ((HF1.out.wt.lt g4 rfl).2) (fun e => hgB (Option.some.inj e))))
            unfold WhW at HWh
            have HE : Hid (nextF s = (some (.cmd (l.take (L + (lineT ⟨l, L, P, S⟩).length))), ⟨l.drop (P + 1), 0, 0, 0⟩)) := by unfold Hid; rw [HS.out]; exact nextF_cmd hp hS1 H10.out HX5.out
            go_wp2_with fail
            rw [← HW6.out]
            with_reducible refine HWh.out.mono ?_
            rintro e w7 ⟨g7, off7, v7, hg7, rfl, hs7, hb7, hv7, hw7, hgr7⟩
            obtain rfl : g7 = g4 := by cases hg7; rfl
            have HR7 := Lib.hid (HR6.out.gr hgr7 hwB)
            have HG7 := Lib.hid (HG6.out.trans hgr7)
            have HB7 := Lib.hid hb7
            have HS7 := Lib.hid hs7
            have HWt7 := Lib.hid hw7
            have HLn : Hid (L + (lineT ⟨l, L, P, S⟩).length ≤ P) := lineT_len ⟨l, L, P, S⟩ hLP hp
            have hlt7 : g7 < w7.heap.size := (hw7.lt g7 hv7).2
            have q0 := HR7.out.c0
            have q1 := HR7.out.c1
            have p0 := HR7.out.f 0
            have p1 := HR7.out.f 1
            simp only
            obtain ⟨E, hE⟩ : ∃ E, E = L + (lineT ⟨l, L, P, S⟩).length := ⟨_, rfl⟩
            rw [← hE] at HE HS7 HLn ⊢
            clear hb7 hs7 hw7 hgr7 hE HWh
            go_wp2_with fail
            try rw [Exit.noGoto_ret]
            try simp only [Exit.noGoto_normal]
            (try simp only [Exit.inBlock, Exit.then])
            refine bodyPost_ret (results_cell_rowW (P := Tryz.prog) Tryz.results29 _ _ w.heap.size 44 _ (0, 0) _ rfl ((HR7.out.set0 (.int .i64 2)).set1 (.slice (some ⟨g7, off7, none⟩) E E)) Tryz.underlying44 rfl (by kernel_rfl)) rfl ?_
            rw [HE.out]
            have hgR7 : Gr w.heap.size w7 ((w7.setCell ⟨w.heap.size, 0, none⟩ (.int .i64 2)).setCell ⟨w.heap.size, 1, none⟩ (.slice (some ⟨g7, off7, none⟩) E E)) := ((Gr.refl _ _).set 0 _).set 1 _
            have hEl : (l.take E).length = E := by have := HLn.out; rw [List.length_take]; omega
            have hF7 : FrAt w7 base B v7 ⟨l.drop (P + 1), 0, 0, 0⟩ := ⟨HB7.out, HWt7.out, (fun e => hgB (Option.some.inj (hv7.symm.trans e))), Nat.le_refl _, Nat.zero_le _, fun h => by simp at h, Nat.zero_le _, by simp only [List.length_drop]; omega⟩
            refine ⟨⟨v7, hF7.gr hgR7 hBw (fun e => hgR (Option.some.inj (hv7.symm.trans e))), fun q hq => hv7.symm.trans hq⟩, HG7.out.low (HW.out _ _ _), _, rfl, ⟨g7, off7, by rw [hEl], hgB, Nat.lt_of_lt_of_le hlt7 hgR7.size, by rw [hEl]; have := HLn.out; omega, hgR7.slice hgR HS7.out⟩, fun q hq => hq⟩
          | true =>
            have hX : endH (lineT ⟨l, L, P, S⟩) = some (n, !u) := HX5.out
            have HX := Lib.hid hX
            have n0 := HH6.out.c0
            have n1 := HH6.out.c1
            clear hX HX5
            by_cases hn : 67108864 < n
            · have hni : (67108864 : Int) < (n : Int) := by omega
              have HE : Hid (nextF s = (some .bad, fr0)) := by unfold Hid; rw [HS.out]; exact nextF_great hp hS1 H10.out HX.out hn
              have HBd := Lib.hid (wbad_any B _ _ _ _ _ HB6.out)
              go_wp2_with fail
              rw [← HW6.out]
              with_reducible refine HBd.out.mono ?_
              rintro e wz ⟨rfl, hbz, hgz⟩
              have HRz := Lib.hid (HR6.out.gr hgz hwB)
              have HGz := Lib.hid (HG6.out.trans hgz)
              have HBz := Lib.hid hbz
              have q0 := HRz.out.c0
              have q1 := HRz.out.c1
              have p0 := HRz.out.f 0
              have p1 := HRz.out.f 1
              clear hbz hgz HBd
              go_wp2_with fail
              try rw [Exit.noGoto_ret]
              try simp only [Exit.noGoto_normal]
              (try simp only [Exit.inBlock, Exit.then])
              refine bodyPost_ret (results_cell_rowW (P := Tryz.prog) Tryz.results29 _ _ w.heap.size 44 _ (0, 0) _ rfl ((HRz.out.set0 (.int .i64 3)).set1 (.slice none 0 0)) Tryz.underlying44 rfl (by kernel_rfl)) rfl ?_
              rw [HE.out]
              exact ⟨⟨_, frAt_zero (HBz.out.gr (((Gr.refl w.heap.size wz).set 0 _).set 1 _) hBw), fun q hq => (by cases hq)⟩, HGz.out.low (HW.out _ _ _), _, rfl, rfl, fun q hq => (by cases hq)⟩
            · have hni : ¬ (67108864 : Int) < (n : Int) := by omega
              have hni2 : decide ((67108864 : Int) < (n : Int)) = false := decide_eq_false hni
              have hb6 : B4 w6 B 34 (.slice (some ⟨g4, off, none⟩) l.length cap) (.int .i64 (L : Int)) (.int .i64 ((P + 1 : Nat) : Int)) (.int .i64 ((S : Int) + 1)) := HB6.out
              obtain ⟨a, ha⟩ : ∃ a, a = (!u && (P + 1 == l.length)) := ⟨_, rfl⟩
              have HPs := Lib.hid (wpass_any B _ _ _ _ (P + 1) n _ u w6 hb6 (by omega) (by omega) a ha)
              unfold PsW at HPs
              have HAa := Lib.hid ha
              have HPi : Hid (((P + 1 : Nat) : Int) + (n : Int) = ((P + 1 + n : Nat) : Int)) := by unfold Hid; omega
              have HSi : Hid ((S : Int) + 1 = ((S + 1 : Nat) : Int)) := by unfold Hid; omega
              rw [HPi.out, HSi.out] at HPs
              have HNl := Lib.hid hn
              clear hb6 ha hn
              go_wp2_with fail
              rw [← HW6.out]
              with_reducible refine HPs.out.mono ?_
              rintro e wz ⟨rfl, hbz, hgz⟩
              have HRz := Lib.hid (HR6.out.gr hgz hwB)
              have HGz := Lib.hid (HG6.out.trans hgz)
              have hwz : Wt wz base (.slice (some ⟨g4, off, none⟩) l.length cap) l := HF1.out.wt.block (fun q hq => by cases hq; exact (HG16.out.trans hgz).block g4 ((HF1.out.wt.lt g4 rfl).2) (fun e => hgB (Option.some.inj e)))
              have hFz : FrAt wz base B (.slice (some ⟨g4, off, none⟩) l.length cap) ⟨l, P + 1 + n, P + 1 + n, S + 1⟩ := ⟨hbz, hwz, (fun e => hgB (Option.some.inj e)), Nat.le_refl _, by have := HNl.out; simp only; omega, fun _ => rfl, by simp only; omega, hbig⟩
              have HFz := Lib.hid hFz
              clear hbz hgz HPs hwz hFz
              cases a with
              | true =>
                have HE : Hid (nextF s = (some .go, ⟨l, P + 1 + n, P + 1 + n, S + 1⟩)) := by
                  unfold Hid
                  have h := HAa.out.symm
                  rw [Bool.and_eq_true, beq_iff_eq] at h
                  rw [HS.out]
                  exact nextF_go hp hS1 H10.out HX.out HNl.out h
                have q0 := HRz.out.c0
                have q1 := HRz.out.c1
                have p0 := HRz.out.f 0
                have p1 := HRz.out.f 1
                go_wp2_with fail
                try rw [Exit.noGoto_ret]
                try simp only [Exit.noGoto_normal]
                (try simp only [Exit.inBlock, Exit.then])
                refine bodyPost_ret (results_cell_rowW (P := Tryz.prog) Tryz.results29 _ _ w.heap.size 44 _ (0, 0) _ rfl ((HRz.out.set0 (.int .i64 1)).set1 (.slice none 0 0)) Tryz.underlying44 rfl (by kernel_rfl)) rfl ?_
                rw [HE.out]
                exact ⟨⟨_, HFz.out.gr (((Gr.refl w.heap.size wz).set 0 _).set 1 _) hBw (fun e => hgR (Option.some.inj e)), fun q hq => hq⟩, HGz.out.low (HW.out _ _ _), _, rfl, rfl, fun q hq => (by cases hq)⟩
              | false =>
                have HE : Hid (nextF s = nextF ⟨l, P + 1 + n, P + 1 + n, S + 1⟩) := by
                  unfold Hid
                  rw [HS.out]
                  refine nextF_pass hp hS1 H10.out HX.out HNl.out (fun h => ?_)
                  have h2 := HAa.out
                  have h3 : P + 1 = l.length := h.2
                  have h4 : (!u) = true := h.1
                  rw [h4, h3] at h2
                  simp at h2
                go_wp2_with fail
                go_roundg (l.length - (P + 1 + n))
                case measure => omega
                case rel => exact ⟨⟨l, P + 1 + n, P + 1 + n, S + 1⟩, rfl, HFz.out, HRz.out, HGz.out, HE.out⟩
        · have b10 : ((l[P].toNat : Int) != 10) = true := bne_yes (fun e => h10 (toNat_eq (by show l[P].toNat = _; exact Int.ofNat.inj e)))
          have H10 : Hid (l.getD P 0 ≠ 10) := by unfold Hid; rw [List.getD_eq_getElem?_getD, List.getElem?_eq_getElem hp]; exact h10
          have HE : Hid (nextF s = nextF ⟨l, L, P + 1, S + 1⟩) := by unfold Hid; rw [HS.out]; exact nextF_step hp hS1 H10.out
          have hw3 : Wt W3 base (.slice (some ⟨g, off, none⟩) l.length cap) l := HF1.out.wt.block (fun q hq => by cases hq; exact HG13.out.block g ((HF1.out.wt.lt g rfl).2) (fun e => hgB (Option.some.inj e)))
          have hF3 : FrAt W3 base B (.slice (some ⟨g, off, none⟩) l.length cap) ⟨l, L, P + 1, S + 1⟩ := ⟨HB3.out, hw3, (fun e => hgB (Option.some.inj e)), by simp only; omega, by simp only; omega, fun h => by simp only at h; omega, by simp only; omega, hbig⟩
          have HF3 := Lib.hid hF3
          clear hvR hSi hPi hSj2 hSj h10 hw3 hF3 hidx
          go_wp2_with fail
          go_roundg (l.length - (P + 1))
          case measure => omega
          case rel => exact ⟨⟨l, L, P + 1, S + 1⟩, rfl, HF3.out, HR3.out, HG3.out, HE.out⟩
    · obtain ⟨ao, cap, rfl⟩ := HF.out.wt.nilOr
      have HE : Hid (nextF s = (none, ⟨l, L, P, S⟩)) := by unfold Hid; rw [HS.out]; exact nextF_end (by simp only; omega)
      obtain ⟨c0, c1, c2, c3⟩ := HF.out.box.c
      simp only at c0 c2
      have C0 := BW.cell c0
      have C2 := BW.cell c2
      have hd : ¬ (P : Int) < (l.length : Int) := by omega
      clear hvR c0 c1 c2 c3
      go_wp2_with fail
      refine wp_region_below (by kernel_rfl) (by kernel_rfl) ?_
      repeat (go_big_quiet_step (fail))
      refine wpQuiet_nil ?_
      rintro W1 ⟨⟨_, hb1⟩, rfl⟩
      have HF1 := Lib.hid (HF.out.below hb1)
      have HRz := Lib.hid (HR.out.below hb1)
      have HGz := Lib.hid (HG.out.below hb1)
      clear hb1 C0 C2 HF HR HG
      have q0 := HRz.out.c0
      have q1 := HRz.out.c1
      have p0 := HRz.out.f 0
      have p1 := HRz.out.f 1
      go_wp2_with fail
      try rw [Exit.noGoto_ret]
      try simp only [Exit.noGoto_normal]
      (try simp only [Exit.inBlock, Exit.then])
      refine bodyPost_ret (results_cell_rowW (P := Tryz.prog) Tryz.results29 _ _ w.heap.size 44 _ (0, 0) _ rfl ((HRz.out.set0 (.int .i64 0)).set1 (.slice none 0 0)) Tryz.underlying44 rfl (by kernel_rfl)) rfl ?_
      rw [HE.out]
      exact ⟨⟨_, HF1.out.gr (((Gr.refl w.heap.size W1).set 0 _).set 1 _) hBw HVR.out, fun q hq => hq⟩, HGz.out.low (HW.out _ _ _), rfl⟩
end Go.Proofs.YtkkdplccneeaiaaGreatDoor
