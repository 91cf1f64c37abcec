/- Contracts of package date: numbered. -/
import Derived.Test.YtfndidcoahammaaDoorDtU
import Derived.StillTailTactics
namespace Go.Proofs.YtfndidcoahammaaDoor
open Go Go.RowKit

def dayV' : Option (Nat × Nat × Nat) → Value
  | none => .tuple #[.agg #[.int .i64 0, .int .i64 0, .int .i64 0], .bool false]
  | some (y, m, d) => .tuple #[.agg #[.int .i64 (y : Int), .int .i64 (m : Int), .int .i64 (d : Int)], .bool true]
/-- The day of a number. -/
def DayOf (n : Int) (o : Option (Nat × Nat × Nat)) : Prop := match o with
  | none => n + 719162 < 0 ∨ 3652059 ≤ n + 719162
  | some (y, m, d) => numberK y m d = some n ∧ m < 12
theorem three_set {w : World} {B : Nat} {a b c : Value} {t : TypeId} (h : w.heap[B]? = some (.cells #[a, b, c] t (0, 0))) (x y z : Value) : (((w.setCell ⟨B, 0, none⟩ x).setCell ⟨B, 1, none⟩ y).setCell ⟨B, 2, none⟩ z).heap[B]? = some (.cells #[x, y, z] t (0, 0)) := by
  simp [World.setCell, Array.getElem?_modify, h]
/-- What lies while a day is looked for: the number that is left, and the place of the answer. -/
def NumS (w : World) (B : Nat) (W : World) (v : Int) : Prop :=
  W.cell? ⟨B, 0, none⟩ = some (.int .i64 v) ∧ W.frozen? ⟨B, 0, none⟩ = false ∧ W.heap[B + 1]? = some (.cells #[.int .i64 0, .int .i64 0, .int .i64 0] 46 (0, 0)) ∧ Below w.heap.size w W
theorem NumS.drawn {w W : World} {B : Nat} {v : Int} (h : NumS w B W v) (n : Nat) : NumS w B (W.drewN n) v :=
  ⟨h.1, h.2.1, h.2.2.1, h.2.2.2.trans ((below_drewN' n).mono h.2.2.2.size)⟩
theorem NumS.set {w W : World} {B : Nat} {v : Int} (h : NumS w B W v) (hB : w.heap.size ≤ B) (u : Int) : NumS w B (W.setCell ⟨B, 0, none⟩ (.int .i64 u)) u := by
  refine ⟨World.cell?_setCell_same _ _ _ h.1, (World.frozen?_setCell _ _ _ _).trans h.2.1, ?_, h.2.2.2.setCell hB _⟩
  rw [Below.heap_setCell _ _ _ _ (by simp)]
  exact h.2.2.1
theorem NumS.lt {w W : World} {B : Nat} {v : Int} (h : NumS w B W v) : B + 1 < W.heap.size := (Array.getElem?_eq_some_iff.1 h.2.2.1).1
theorem NumS.res {w W : World} {B : Nat} {v : Int} (h : NumS w B W v) (i : Nat) (hi : i < 3) : W.cell? ⟨B + 1, i, none⟩ = some (.int .i64 0) ∧ W.frozen? ⟨B + 1, i, none⟩ = false := by
  have h1 := h.2.2.1
  constructor
  · simp only [World.cell?, h1]
    rcases (by omega : i = 0 ∨ i = 1 ∨ i = 2) with rfl | rfl | rfl <;> rfl
  · simp [World.frozen?, h1]

set_option maxRecDepth 100000 in
set_option maxHeartbeats 4000000 in
theorem numbered_any (n : Int) (hn0 : -4611686018427387904 ≤ n) (hn1 : n ≤ 4611686018427387904) (w : World) (hM : mons w) :
    Calls Tryd.prog 42 #[.int .i64 n] w fun e w' => (∃ o, e = .returned (dayV' o) ∧ DayOf n o) ∧ Below w.heap.size w w' := by
  have HA70 := Lib.hid (fun w => daysAhead_any 1970 (by omega) (by omega) w)
  have HA10 := Lib.hid (fun w => daysAhead_any 10000 (by omega) (by omega) w)
  have e70 : (ahead 1970 : Int) = 719162 := by decide
  have e10 : (ahead 10000 : Int) = 3652059 := by decide
  rw [e70] at HA70
  rw [e10] at HA10
  have HM := Lib.hid hM
  obtain ⟨X1, hX1⟩ : ∃ X, X = w.alloc (.cells #[.int .i64 n] 3) := ⟨_, rfl⟩
  obtain ⟨X2, hX2⟩ : ∃ X, X = X1.alloc (.cells #[.int .i64 0, .int .i64 0, .int .i64 0] 46) := ⟨_, rfl⟩
  obtain ⟨B, hB⟩ : ∃ B, B = w.heap.size := ⟨_, rfl⟩
  have hs1 : X1.heap.size = B + 1 := by rw [hX1, hB]; simp
  have hs2 : X2.heap.size = B + 2 := by rw [hX2, size_alloc', hs1]
  have hb12 : Below X1.heap.size X1 X2 := by rw [hX2]; exact (Below.refl _ _).alloc (Nat.le_refl _) _
  have HB2 : Hid (Below w.heap.size w X2) := by rw [hX2, hX1]; exact below_two w _ _
  have c2 : X2.cell? ⟨B, 0, none⟩ = some (.int .i64 n) := (hb12.cell (p := ⟨B, 0, none⟩) (by rw [hs1]; exact Nat.lt_succ_self _)).trans (by rw [hX1, hB]; exact cell_new1 w _ _)
  have f2 : X2.frozen? ⟨B, 0, none⟩ = false := (hb12.frozen (p := ⟨B, 0, none⟩) (by rw [hs1]; exact Nat.lt_succ_self _)).trans (by rw [hX1, hB]; exact World.frozen?_alloc_new w _ _ _)
  have HR2 : Hid (X2.heap[B + 1]? = some (.cells #[.int .i64 0, .int .i64 0, .int .i64 0] 46 (0, 0))) := by rw [hX2, ← hs1]; exact heap_alloc_new X1 _
  have HwB : Hid (w.heap.size ≤ B) := Nat.le_of_eq hB.symm
  have hBl : B + 1 < X2.heap.size := by omega
  clear hb12 hM e70 e10
  go_enter Tryd.func42, Tryd.ntmps42
  go_wp2_with fail
  rw [← hX1, ← hX2, ← hB]
  clear hX1 hX2 hB hs1 hs2
  refine wp_region_still_tail 3 (by kernel_rfl) (by kernel_rfl) ?_
  simp only [List.take_succ_cons, List.take_zero, List.drop_succ_cons, List.drop_zero]
  generalize hW3 : ({ heap := X2.heap, tape := X2.tape, drawn := X2.drawn + 1, os := X2.os, output := X2.output } : World) = W3
  have NS : Hid (NumS w B W3 n) := by
    rw [← hW3]
    exact ⟨c2, f2, HR2.out, HB2.out.drew⟩
  clear hW3 c2 f2 HR2 HB2 hBl
  have c3 := NS.out.1
  have f3 := NS.out.2.1
  have hBl := NS.out.lt
  still_step
  still_call ((HA70.out W3).mono fun _ _ h => ⟨h.1, h.2.symm⟩)
  still_step
  refine wpStill_nil ?_
  go_wp2_with fail
  obtain ⟨M, hM⟩ : ∃ M, M = n + 719162 := ⟨_, rfl⟩
  obtain ⟨W4, hW4⟩ : ∃ W4, W4 = W3.setCell ⟨B, 0, none⟩ (.int .i64 (n + 719162)) := ⟨_, rfl⟩
  rw [← hW4]
  replace NS : Hid (NumS w B W4 M) := by rw [hW4, ← hM]; exact NS.out.set HwB.out _
  have HMn := Lib.hid hM
  have hMb : -4611686018427387904 ≤ M ∧ M ≤ 4611686018428107066 := by omega
  obtain ⟨hMb0, hMb1⟩ := hMb
  clear c3 f3 hBl hW4 W3 hM
  have c4 : ∀ n, (W4.drewN n).cell? ⟨B, 0, none⟩ = some (.int .i64 M) := fun n => NS.out.1
  have hBl := NS.out.lt
  have c40 := c4 0
  by_cases h0 : M < 0
  · have i0 : decide (M < 0) = true := decide_eq_true h0
    have HD : Hid (DayOf n none) := by unfold Hid DayOf; left; rw [← HMn.out]; exact h0
    go_quiet (fail)
    obtain ⟨W5, hW5⟩ : ∃ W5, W5 = W4.drewN nq := ⟨_, rfl⟩
    replace NS : Hid (NumS w B W5 M) := by rw [hW5]; exact NS.out.drawn nq
    rw [← hW5]
    clear hW5 c4 c40 hBl
    have z0 := (NS.out.res 0 (by omega)).1
    have z1 := (NS.out.res 1 (by omega)).1
    have z2 := (NS.out.res 2 (by omega)).1
    have y0 := (NS.out.res 0 (by omega)).2
    have y1 := (NS.out.res 1 (by omega)).2
    have y2 := (NS.out.res 2 (by omega)).2
    have hBl := NS.out.lt
    go_wp2_with fail
    refine bodyPost_ret (results_cell_tmp (P := Tryd.prog) Tryd.results42 _ _ (B + 1) 46 _ (0, 0) _ rfl (three_set NS.out.2.2.1 _ _ _) Tryd.underlying46 rfl (by kernel_rfl)) rfl ?_
    exact ⟨⟨none, rfl, HD.out⟩, (((NS.out.2.2.2.setCell (Nat.le_succ_of_le HwB.out) _).setCell (Nat.le_succ_of_le HwB.out) _).setCell (Nat.le_succ_of_le HwB.out) _)⟩
  · have i0 : decide (M < 0) = false := decide_eq_false h0
    by_cases h1 : 3652059 ≤ M
    · have i1 : decide ((3652059 : Int) ≤ M) = true := decide_eq_true h1
      have HD : Hid (DayOf n none) := by unfold Hid DayOf; right; rw [← HMn.out]; exact h1
      go_quiet ((go_at_call 65; exact quiet_same' (HA10.out _)))
      obtain ⟨W5, hW5⟩ : ∃ W5, W5 = W4.drewN nq := ⟨_, rfl⟩
      replace NS : Hid (NumS w B W5 M) := by rw [hW5]; exact NS.out.drawn nq
      rw [← hW5]
      clear hW5 c4 c40 hBl
      have z0 := (NS.out.res 0 (by omega)).1
      have z1 := (NS.out.res 1 (by omega)).1
      have z2 := (NS.out.res 2 (by omega)).1
      have y0 := (NS.out.res 0 (by omega)).2
      have y1 := (NS.out.res 1 (by omega)).2
      have y2 := (NS.out.res 2 (by omega)).2
      have hBl := NS.out.lt
      go_wp2_with fail
      refine bodyPost_ret (results_cell_tmp (P := Tryd.prog) Tryd.results42 _ _ (B + 1) 46 _ (0, 0) _ rfl (three_set NS.out.2.2.1 _ _ _) Tryd.underlying46 rfl (by kernel_rfl)) rfl ?_
      exact ⟨⟨none, rfl, HD.out⟩, (((NS.out.2.2.2.setCell (Nat.le_succ_of_le HwB.out) _).setCell (Nat.le_succ_of_le HwB.out) _).setCell (Nat.le_succ_of_le HwB.out) _)⟩
    · have i1 : decide ((3652059 : Int) ≤ M) = false := decide_eq_false h1
      obtain ⟨y, m, d, N, r, hN, y1, y9, ha, hb, hr, hm12, ms0, ms1, hd, hdm, hk⟩ := number_ex n (by have := HMn.out; omega) (by have := HMn.out; omega)
      have HK := Lib.hid hk
      have hMN : M = (N : Int) := HMn.out.trans hN
      have HSe := Lib.hid (fun w hc => search_any y y9 M (fun z hz => by
        by_cases hyz : y ≤ z
        · rw [decide_eq_true hyz]
          refine decide_eq_true ?_
          have := ahead_le (x := y + 1) (y := z + 1) (by omega) (by omega)
          omega
        · rw [decide_eq_false hyz]
          refine decide_eq_false ?_
          have := ahead_le (x := z + 1) (y := y) (by omega) (by omega)
          omega) B w hc)
      have HAy := Lib.hid (fun w => daysAhead_any y y1 (by omega) w)
      have HDo := Lib.hid (fun k hk w h => daysOf_any y k (by omega) hk w h)
      obtain ⟨AY, hAY⟩ : ∃ AY : Nat, AY = ahead y := ⟨_, rfl⟩
      rw [← hAY] at HAy
      have hAYM : (AY : Int) ≤ M ∧ M - (AY : Int) = (r : Int) := by
        rw [hAY]
        omega
      obtain ⟨hAY0, hAYr⟩ := hAYM
      have hr366 : r ≤ 366 := by
        have h1 := ahead_succ y y1
        unfold yearLen at h1
        split at h1 <;> omega
      have HMs : Hid (∀ k, k < m → monSum y k + daysM y k ≤ r) := fun k hk => by
        have := monSum_le' (y := y) (m := k + 1) (k := m) hk
        rw [monSum_step] at this
        omega
      have HMl := Lib.hid (show ∀ k, k ≤ m → monSum y k ≤ r from fun k hk => Nat.le_trans (monSum_le' hk) ms0)
      have HMe := Lib.hid (show ¬ (monSum y m + daysM y m ≤ r) by rw [monSum_step] at ms1; omega)
      have HDd := Lib.hid (show ((r - monSum y m : Nat) : Int) + 1 = (d : Int) by omega)
      clear hN ha hb hr hd hdm hk hMN hAY ms0 ms1
      go_quiet ((go_at_call 65; exact quiet_same' (HA10.out _)))
      obtain ⟨W5, hW5⟩ : ∃ W5, W5 = W4.drewN nq := ⟨_, rfl⟩
      replace NS : Hid (NumS w B W5 M) := by rw [hW5]; exact NS.out.drawn nq
      rw [← hW5]
      clear hW5 c4 c40 hBl
      have c5 := NS.out.1
      have hBl := NS.out.lt
      go_wp2_with fail
      with_reducible refine (HSe.out W5 c5).mono ?_
      rintro e w6 ⟨rfl, q6, rfl⟩
      obtain ⟨W6, hW6⟩ : ∃ W6, W6 = W5.drewN q6 := ⟨_, rfl⟩
      replace NS : Hid (NumS w B W6 M) := by rw [hW6]; exact NS.out.drawn q6
      rw [← hW6]
      clear hW6 c5 hBl
      go_wp2_with fail
      refine wp_region_still_tail 4 (by kernel_rfl) (by kernel_rfl) ?_
      simp only [List.take_succ_cons, List.take_zero, List.drop_succ_cons, List.drop_zero]
      generalize hW7 : ({ heap := W6.heap, tape := W6.tape, drawn := W6.drawn + 1, os := W6.os, output := W6.output } : World) = W7
      replace NS : Hid (NumS w B W7 M) := by rw [← hW7]; exact NS.out.drawn 1
      clear hW7
      have c7 := NS.out.1
      have f7 := NS.out.2.1
      have hBl := NS.out.lt
      still_step
      still_step
      still_call ((HAy.out W7).mono fun _ _ h => ⟨h.1, h.2.symm⟩)
      still_step
      refine wpStill_nil ?_
      go_wp2_with fail
      replace NS : Hid (NumS w B (W7.setCell ⟨B, 0, none⟩ (.int .i64 (r : Int))) (r : Int)) := NS.out.set HwB.out _
      clear c7 f7 hBl HSe HAy
      go_loopg [5] m (fun q xi wr => ∃ k : Nat, k ≤ m ∧ q = m - k ∧ xi = .int .i64 (k : Int) ∧ Hid (NumS w B wr ((r - monSum y k : Nat) : Int)))
      case atStart => exact ⟨0, by omega, by omega, rfl, NS.out⟩
      case round =>
        obtain ⟨k, hkm, rfl, rfl, NS1⟩ := hrel
        obtain ⟨v, hv⟩ : ∃ v, v = r - monSum y k := ⟨_, rfl⟩
        rw [← hv] at NS1
        have hdl := daysM_le y k
        have HX := Lib.hid (HDo.out k (by omega))
        obtain ⟨D, hD⟩ : ∃ D, D = daysM y k := ⟨_, rfl⟩
        rw [← hD] at HX hdl
        have hvr : v ≤ 366 := by omega
        have HMo : Hid (∀ q, mons (wr.drewN q)) := fun q => HM.out.below (NS1.out.2.2.2.trans ((below_drewN' q).mono NS1.out.2.2.2.size))
        have cn : ∀ q, (wr.drewN q).cell? ⟨B, 0, none⟩ = some (.int .i64 (v : Int)) := fun q => NS1.out.1
        have hBl := NS1.out.lt
        by_cases hlt : k < m
        · have hge : D ≤ v := by
            have h1 := HMs.out k hlt
            omega
          have i2 : decide ((D : Int) ≤ (v : Int)) = true := decide_eq_true (by omega)
          have i3 : decide (D ≤ v) = true := decide_eq_true hge
          have HV : Hid (v - D = r - monSum y (k + 1)) := by
            unfold Hid
            rw [monSum_step, hv, hD]
            omega
          have hsub : (v : Int) - (D : Int) = ((v - D : Nat) : Int) := by omega
          clear hv hD
          go_wp2_with fail
          go_quiet ((go_at_call 64; exact quiet_same' (HX.out _ (HMo.out _))))
          obtain ⟨W5, hW5⟩ : ∃ W5, W5 = wr.drewN nq := ⟨_, rfl⟩
          have NS2 : Hid (NumS w B W5 (v : Int)) := by rw [hW5]; exact NS1.out.drawn nq
          rw [← hW5]
          clear hW5 cn hBl
          go_wp2_with fail
          refine wp_region_still_tail 5 (by kernel_rfl) (by kernel_rfl) ?_
          simp only [List.take_succ_cons, List.take_zero, List.drop_succ_cons, List.drop_zero]
          generalize hW7 : ({ heap := W5.heap, tape := W5.tape, drawn := W5.drawn + 1, os := W5.os, output := W5.output } : World) = W7
          replace NS2 : Hid (NumS w B W7 (v : Int)) := by rw [← hW7]; exact NS2.out.drawn 1
          have HM7 : mons W7 := HM.out.below NS2.out.2.2.2
          clear hW7
          have c7 := NS2.out.1
          have f7 := NS2.out.2.1
          have hBl := NS2.out.lt
          still_step
          still_step
          still_step
          still_call ((HX.out W7 HM7).mono fun _ _ h => ⟨h.1, h.2.symm⟩)
          still_step
          refine wpStill_nil ?_
          go_wp2_with fail
          go_roundg (m - (k + 1))
          case measure => omega
          case rel =>
            refine ⟨k + 1, by omega, rfl, by first | rfl | (congr 1), ?_⟩
            unfold Hid
            rw [← HV.out, ← hsub]
            exact NS2.out.set HwB.out _
        · obtain rfl : k = m := by omega
          have hnd : v < D := by
            have h1 := HMe.out
            have h2 := HMl.out k (Nat.le_refl _)
            omega
          have i2 : decide ((D : Int) ≤ (v : Int)) = false := decide_eq_false (by omega)
          have i3 : decide (D ≤ v) = false := decide_eq_false (by omega)
          have HVd : Hid ((v : Int) + 1 = (d : Int)) := by
            unfold Hid
            rw [hv]
            exact HDd.out
          clear hv hD
          go_wp2_with fail
          go_quiet ((go_at_call 64; exact quiet_same' (HX.out _ (HMo.out _))))
          obtain ⟨W5, hW5⟩ : ∃ W5, W5 = wr.drewN nq := ⟨_, rfl⟩
          have NS2 : Hid (NumS w B W5 (v : Int)) := by rw [hW5]; exact NS1.out.drawn nq
          rw [← hW5]
          clear hW5 cn hBl
          have c5 := NS2.out.1
          have z0 := (NS2.out.res 0 (by omega)).1
          have z1 := (NS2.out.res 1 (by omega)).1
          have z2 := (NS2.out.res 2 (by omega)).1
          have y0 := (NS2.out.res 0 (by omega)).2
          have yy1 := (NS2.out.res 1 (by omega)).2
          have y2 := (NS2.out.res 2 (by omega)).2
          have hBl := NS2.out.lt
          go_wp2_with fail
          refine bodyPost_ret (results_cell_tmp (P := Tryd.prog) Tryd.results42 _ _ (B + 1) 46 _ (0, 0) _ rfl (three_set NS2.out.2.2.1 _ _ _) Tryd.underlying46 rfl (by kernel_rfl)) rfl ?_
          refine ⟨⟨some (y, k, d), ?_, HK.out, hm12⟩, (((NS2.out.2.2.2.setCell (Nat.le_succ_of_le HwB.out) _).setCell (Nat.le_succ_of_le HwB.out) _).setCell (Nat.le_succ_of_le HwB.out) _)⟩
          rw [HVd.out]
          rfl
end Go.Proofs.YtfndidcoahammaaDoor
