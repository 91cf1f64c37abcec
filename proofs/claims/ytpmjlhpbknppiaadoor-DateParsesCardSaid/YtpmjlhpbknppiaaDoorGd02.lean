/- Contracts of package date: numbered. -/
import Derived.Test.YtpmjlhpbknppiaaDoorDtU
import Derived.StillTailTactics
import Derived.Test.YtpmjlhpbknppiaaDoorDvM
import Derived.Test.YtpmjlhpbknppiaaDoorDtL
import Derived.Test.YtpmjlhpbknppiaaDoorGd01
namespace Go.Proofs.YtpmjlhpbknppiaaDoor
open Go Go.RowKit

def dayV' : Option (Nat × Nat × Nat) → Value
  | none => .tuple #[.agg #[.int .i64 0, .int .i64 0, .int .i64 0], .bool false]
  | some (y, m, d) => .tuple #[.agg #[.int .i64 (y : Int), .int .i64 (m : Int), .int .i64 (d : Int)], .bool true]
/-- The day of a number. -/
def DayOf (n : Int) (o : Option (Nat × Nat × Nat)) : Prop := match o with
  | none => n + 719162 < 0 ∨ 3652059 ≤ n + 719162
  | some (y, m, d) => numberK y m d = some n ∧ m < 12
theorem three_set {w : World} {B : Nat} {a b c : Value} {t : TypeId} (h : w.heap[B]? = some (.cells #[a, b, c] t (0, 0))) (x y z : Value) : (((w.setCell ⟨B, 0, none⟩ x).setCell ⟨B, 1, none⟩ y).setCell ⟨B, 2, none⟩ z).heap[B]? = some (.cells #[x, y, z] t (0, 0)) := by
  simp [World.setCell, Array.getElem?_modify, h]
/-- What lies while a day is looked for: the number that is left, and the place of the answer. -/
def NumS (w : World) (B : Nat) (W : World) (v : Int) : Prop :=
  W.cell? ⟨B, 0, none⟩ = some (.int .i64 v) ∧ W.frozen? ⟨B, 0, none⟩ = false ∧ W.heap[B + 1]? = some (.cells #[.int .i64 0, .int .i64 0, .int .i64 0] 38 (0, 0)) ∧ Below w.heap.size w W
theorem NumS.drawn {w W : World} {B : Nat} {v : Int} (h : NumS w B W v) (n : Nat) : NumS w B (W.drewN n) v :=
  ⟨h.1, h.2.1, h.2.2.1, h.2.2.2.trans ((below_drewN' n).mono h.2.2.2.size)⟩
theorem NumS.set {w W : World} {B : Nat} {v : Int} (h : NumS w B W v) (hB : w.heap.size ≤ B) (u : Int) : NumS w B (W.setCell ⟨B, 0, none⟩ (.int .i64 u)) u := by
  refine ⟨World.cell?_setCell_same _ _ _ h.1, (World.frozen?_setCell _ _ _ _).trans h.2.1, ?_, h.2.2.2.setCell hB _⟩
  rw [Below.heap_setCell _ _ _ _ (by simp)]
  exact h.2.2.1
theorem NumS.lt {w W : World} {B : Nat} {v : Int} (h : NumS w B W v) : B + 1 < W.heap.size := (Array.getElem?_eq_some_iff.1 h.2.2.1).1
theorem NumS.res {w W : World} {B : Nat} {v : Int} (h : NumS w B W v) (i : Nat) (hi : i < 3) : W.cell? ⟨B + 1, i, none⟩ = some (.int .i64 0) ∧ W.frozen? ⟨B + 1, i, none⟩ = false := by
  have h1 := h.2.2.1
  constructor
  · simp only [World.cell?, h1]
    rcases (by omega : i = 0 ∨ i = 1 ∨ i = 2) with rfl | rfl | rfl <;> rfl
  · simp [World.frozen?, h1]

set_option maxRecDepth 100000 in
set_option maxHeartbeats 4000000 in
theorem numbered_any (n : Int) (hn0 : -4611686018427387904 ≤ n) (hn1 : n ≤ 4611686018427387904) (w : World) (hM : mons w) :
    Calls Tryd.prog 37 #[.int .i64 n] w fun e w' => (∃ o, e = .returned (dayV' o) ∧ DayOf n o) ∧ Below w.heap.size w w' := by
  have HA70 := Lib.hid (fun w => daysAhead_any 1970 (by omega) (by omega) w)
  have HA10 := Lib.hid (fun w => daysAhead_any 10000 (by omega) (by omega) w)
  have e70 : (ahead 1970 : Int) = 719162 := by decide
  have e10 : (ahead 10000 : Int) = 3652059 := by decide
  rw [e70] at HA70
  rw [e10] at HA10
  have HM := Lib.hid hM
  obtain ⟨X1, hX1⟩ : ∃ X, X = w.alloc (.cells #[.int .i64 n] 3) := ⟨_, rfl⟩
  obtain ⟨X2, hX2⟩ : ∃ X, X = X1.alloc (.cells #[.int .i64 0, .int .i64 0, .int .i64 0] 38) := ⟨_, rfl⟩
  obtain ⟨B, hB⟩ : ∃ B, B = w.heap.size := ⟨_, rfl⟩
  have hs1 : X1.heap.size = B + 1 := by rw [hX1, hB]; simp
  have hs2 : X2.heap.size = B + 2 := by rw [hX2, size_alloc', hs1]
  have hb12 : Below X1.heap.size X1 X2 := by rw [hX2]; exact (Below.refl _ _).alloc (Nat.le_refl _) _
  have HB2 : Hid (Below w.heap.size w X2) := by rw [hX2, hX1]; exact below_two w _ _
  have c2 : X2.cell? ⟨B, 0, none⟩ = some (.int .i64 n) := (hb12.cell (p := ⟨B, 0, none⟩) (by rw [hs1]; exact Nat.lt_succ_self _)).trans (by rw [hX1, hB]; exact cell_new1 w _ _)
  have f2 : X2.frozen? ⟨B, 0, none⟩ = false := (hb12.frozen (p := ⟨B, 0, none⟩) (by rw [hs1]; exact Nat.lt_succ_self _)).trans (by rw [hX1, hB]; exact World.frozen?_alloc_new w _ _ _)
  have HR2 : Hid (X2.heap[B + 1]? = some (.cells #[.int .i64 0, .int .i64 0, .int .i64 0] 38 (0, 0))) := by rw [hX2, ← hs1]; exact heap_alloc_new X1 _
  have HwB : Hid (w.heap.size ≤ B) := Nat.le_of_eq hB.symm
  have hBl : B + 1 < X2.heap.size := by omega
  clear hb12 hM e70 e10
  go_enter Tryd.func37, Tryd.ntmps37
  go_wp2_with fail
  rw [← hX1, ← hX2, ← hB]
  clear hX1 hX2 hB hs1 hs2
  refine wp_region_still_tail 3 (by kernel_rfl) (by kernel_rfl) ?_
  simp only [List.take_succ_cons, List.take_zero, List.drop_succ_cons, List.drop_zero]
  generalize hW3 : ({ heap := X2.heap, tape := X2.tape, drawn := X2.drawn + 1, os := X2.os, output := X2.output } : World) = W3
  have NS : Hid (NumS w B W3 n) := by
    rw [← hW3]
    exact ⟨c2, f2, HR2.out, HB2.out.drew⟩
  clear hW3 c2 f2 HR2 HB2 hBl
  have c3 := NS.out.1
  have f3 := NS.out.2.1
  have hBl := NS.out.lt
  still_step
  still_call ((HA70.out W3).mono fun _ _ h => ⟨h.1, h.2.symm⟩)
  still_step
  refine wpStill_nil ?_
  go_wp2_with fail
  obtain ⟨M, hM⟩ : ∃ M, M = n + 719162 := ⟨_, rfl⟩
  obtain ⟨W4, hW4⟩ : ∃ W4, W4 = W3.setCell ⟨B, 0, none⟩ (.int .i64 (n + 719162)) := ⟨_, rfl⟩
  rw [← hW4]
  replace NS : Hid (NumS w B W4 M) := by rw [hW4, ← hM]; exact NS.out.set HwB.out _
  have HMn := Lib.hid hM
  have hMb : -4611686018427387904 ≤ M ∧ M ≤ 4611686018428107066 := by omega
  obtain ⟨hMb0, hMb1⟩ := hMb
  clear c3 f3 hBl hW4 W3 hM
  have c4 : ∀ n, (W4.drewN n).cell? ⟨B, 0, none⟩ = some (.int .i64 M) := fun n => NS.out.1
  have hBl := NS.out.lt
  have c40 := c4 0
  by_cases h0 : M < 0
  · have i0 : decide (M < 0) = true := decide_eq_true h0
    have HD : Hid (DayOf n none) := by unfold Hid DayOf; left; rw [← HMn.out]; exact h0
    go_quiet (fail)
    obtain ⟨W5, hW5⟩ : ∃ W5, W5 = W4.drewN nq := ⟨_, rfl⟩
    replace NS : Hid (NumS w B W5 M) := by rw [hW5]; exact NS.out.drawn nq
    rw [← hW5]
    clear hW5 c4 c40 hBl
    have z0 := (NS.out.res 0 (by omega)).1
    have z1 := (NS.out.res 1 (by omega)).1
    have z2 := (NS.out.res 2 (by omega)).1
    have y0 := (NS.out.res 0 (by omega)).2
    have y1 := (NS.out.res 1 (by omega)).2
    have y2 := (NS.out.res 2 (by omega)).2
    have hBl := NS.out.lt
    go_wp2_with fail
    refine bodyPost_ret (results_cell_tmp (P := Tryd.prog) Tryd.results37 _ _ (B + 1) 38 _ (0, 0) _ rfl (three_set NS.out.2.2.1 _ _ _) Tryd.underlying38 rfl (by kernel_rfl)) rfl ?_
    exact ⟨⟨none, rfl, HD.out⟩, (((NS.out.2.2.2.setCell (Nat.le_succ_of_le HwB.out) _).setCell (Nat.le_succ_of_le HwB.out) _).setCell (Nat.le_succ_of_le HwB.out) _)⟩
  · have i0 : decide (M < 0) = false := decide_eq_false h0
    by_cases h1 : 3652059 ≤ M
    · have i1 : decide ((3652059 : Int) ≤ M) = true := decide_eq_true h1
      have HD : Hid (DayOf n none) := by unfold Hid DayOf; right; rw [← HMn.out]; exact h1
      go_quiet ((go_at_call 59; exact quiet_same' (HA10.out _)))
      obtain ⟨W5, hW5⟩ : ∃ W5, W5 = W4.drewN nq := ⟨_, rfl⟩
      replace NS : Hid (NumS w B W5 M) := by rw [hW5]; exact NS.out.drawn nq
      rw [← hW5]
      clear hW5 c4 c40 hBl
      have z0 := (NS.out.res 0 (by omega)).1
      have z1 := (NS.out.res 1 (by omega)).1
      have z2 := (NS.out.res 2 (by omega)).1
      have y0 := (NS.out.res 0 (by omega)).2
      have y1 := (NS.out.res 1 (by omega)).2
      have y2 := (NS.out.res 2 (by omega)).2
      have hBl := NS.out.lt
      go_wp2_with fail
      refine bodyPost_ret (results_cell_tmp (P := Tryd.prog) Tryd.results37 _ _ (B + 1) 38 _ (0, 0) _ rfl (three_set NS.out.2.2.1 _ _ _) Tryd.underlying38 rfl (by kernel_rfl)) rfl ?_
      exact ⟨⟨none, rfl, HD.out⟩, (((NS.out.2.2.2.setCell (Nat.le_succ_of_le HwB.out) _).setCell (Nat.le_succ_of_le HwB.out) _).setCell (Nat.le_succ_of_le HwB.out) _)⟩
    · have i1 : decide ((3652059 : Int) ≤ M) = false := decide_eq_false h1
      obtain ⟨y, m, d, N, r, hN, y1, y9, ha, hb, hr, hm12, ms0, ms1, hd, hdm, hk⟩ := number_ex n (by have := HMn.out; omega) (by have := HMn.out; omega)
      have HK := Lib.hid hk
      have hMN : M = (N : Int) := HMn.out.trans hN
      have HSe := Lib.hid (fun w hc => search_any y y9 M (fun z hz => by
        by_cases hyz : y ≤ z
        · rw [decide_eq_true hyz]
          refine decide_eq_true ?_
          have := ahead_le (x := y + 1) (y := z + 1) (by omega) (by omega)
          omega
        · rw [decide_eq_false hyz]
          refine decide_eq_false ?_
          have := ahead_le (x := z + 1) (y := y) (by omega) (by omega)
          omega) B w hc)
      have HAy := Lib.hid (fun w => daysAhead_any y y1 (by omega) w)
      have HDo := Lib.hid (fun k hk w h => daysOf_any y k (by omega) hk w h)
      obtain ⟨AY, hAY⟩ : ∃ AY : Nat, AY = ahead y := ⟨_, rfl⟩
      rw [← hAY] at HAy
      have hAYM : (AY : Int) ≤ M ∧ M - (AY : Int) = (r : Int) := by
        rw [hAY]
        omega
      obtain ⟨hAY0, hAYr⟩ := hAYM
      have hr366 : r ≤ 366 := by
        have h1 := ahead_succ y y1
        unfold yearLen at h1
        split at h1 <;> omega
      have HMs : Hid (∀ k, k < m → monSum y k + daysM y k ≤ r) := fun k hk => by
        have := monSum_le' (y := y) (m := k + 1) (k := m) hk
        rw [monSum_step] at this
        omega
      have HMl := Lib.hid (show ∀ k, k ≤ m → monSum y k ≤ r from fun k hk => Nat.le_trans (monSum_le' hk) ms0)
      have HMe := Lib.hid (show ¬ (monSum y m + daysM y m ≤ r) by rw [monSum_step] at ms1; omega)
      have HDd := Lib.hid (show ((r - monSum y m : Nat) : Int) + 1 = (d : Int) by omega)
      clear hN ha hb hr hd hdm hk hMN hAY ms0 ms1
      go_quiet ((go_at_call 59; exact quiet_same' (HA10.out _)))
      obtain ⟨W5, hW5⟩ : ∃ W5, W5 = W4.drewN nq := ⟨_, rfl⟩
      replace NS : Hid (NumS w B W5 M) := by rw [hW5]; exact NS.out.drawn nq
      rw [← hW5]
      clear hW5 c4 c40 hBl
      have c5 := NS.out.1
      have hBl := NS.out.lt
      go_wp2_with fail
      with_reducible refine (HSe.out W5 c5).mono ?_
      rintro e w6 ⟨rfl, q6, rfl⟩
      obtain ⟨W6, hW6⟩ : ∃ W6, W6 = W5.drewN q6 := ⟨_, rfl⟩
      replace NS : Hid (NumS w B W6 M) := by rw [hW6]; exact NS.out.drawn q6
      rw [← hW6]
      clear hW6 c5 hBl
      go_wp2_with fail
      refine wp_region_still_tail 4 (by kernel_rfl) (by kernel_rfl) ?_
      simp only [List.take_succ_cons, List.take_zero, List.drop_succ_cons, List.drop_zero]
      generalize hW7 : ({ heap := W6.heap, tape := W6.tape, drawn := W6.drawn + 1, os := W6.os, output := W6.output } : World) = W7
      replace NS : Hid (NumS w B W7 M) := by rw [← hW7]; exact NS.out.drawn 1
      clear hW7
      have c7 := NS.out.1
      have f7 := NS.out.2.1
      have hBl := NS.out.lt
      still_step
      still_step
      still_call ((HAy.out W7).mono fun _ _ h => ⟨h.1, h.2.symm⟩)
      still_step
      refine wpStill_nil ?_
      go_wp2_with fail
      replace NS : Hid (NumS w B (W7.setCell ⟨B, 0, none⟩ (.int .i64 (r : Int))) (r : Int)) := NS.out.set HwB.out _
      clear c7 f7 hBl HSe HAy
      go_loopg [5] m (fun q xi wr => ∃ k : Nat, k ≤ m ∧ q = m - k ∧ xi = .int .i64 (k : Int) ∧ Hid (NumS w B wr ((r - monSum y k : Nat) : Int)))
      case atStart => exact ⟨0, by omega, by omega, rfl, NS.out⟩
      case round =>
        obtain ⟨k, hkm, rfl, rfl, NS1⟩ := hrel
        obtain ⟨v, hv⟩ : ∃ v, v = r - monSum y k := ⟨_, rfl⟩
        rw [← hv] at NS1
        have hdl := daysM_le y k
        have HX := Lib.hid (HDo.out k (by omega))
        obtain ⟨D, hD⟩ : ∃ D, D = daysM y k := ⟨_, rfl⟩
        rw [← hD] at HX hdl
        have hvr : v ≤ 366 := by omega
        have HMo : Hid (∀ q, mons (wr.drewN q)) := fun q => HM.out.below (NS1.out.2.2.2.trans ((below_drewN' q).mono NS1.out.2.2.2.size))
        have cn : ∀ q, (wr.drewN q).cell? ⟨B, 0, none⟩ = some (.int .i64 (v : Int)) := fun q => NS1.out.1
        have hBl := NS1.out.lt
        by_cases hlt : k < m
        · have hge : D ≤ v := by
            have h1 := HMs.out k hlt
            omega
          have i2 : decide ((D : Int) ≤ (v : Int)) = true := decide_eq_true (by omega)
          have i3 : decide (D ≤ v) = true := decide_eq_true hge
          have HV : Hid (v - D = r - monSum y (k + 1)) := by
            unfold Hid
            rw [monSum_step, hv, hD]
            omega
          have hsub : (v : Int) - (D : Int) = ((v - D : Nat) : Int) := by omega
          clear hv hD
          go_wp2_with fail
          go_quiet ((go_at_call 58; exact quiet_same' (HX.out _ (HMo.out _))))
          obtain ⟨W5, hW5⟩ : ∃ W5, W5 = wr.drewN nq := ⟨_, rfl⟩
          have NS2 : Hid (NumS w B W5 (v : Int)) := by rw [hW5]; exact NS1.out.drawn nq
          rw [← hW5]
          clear hW5 cn hBl
          go_wp2_with fail
          refine wp_region_still_tail 5 (by kernel_rfl) (by kernel_rfl) ?_
          simp only [List.take_succ_cons, List.take_zero, List.drop_succ_cons, List.drop_zero]
          generalize hW7 : ({ heap := W5.heap, tape := W5.tape, drawn := W5.drawn + 1, os := W5.os, output := W5.output } : World) = W7
          replace NS2 : Hid (NumS w B W7 (v : Int)) := by rw [← hW7]; exact NS2.out.drawn 1
          have HM7 : mons W7 := HM.out.below NS2.out.2.2.2
          clear hW7
          have c7 := NS2.out.1
          have f7 := NS2.out.2.1
          have hBl := NS2.out.lt
          still_step
          still_step
          still_step
          still_call ((HX.out W7 HM7).mono fun _ _ h => ⟨h.1, h.2.symm⟩)
          still_step
          refine wpStill_nil ?_
          go_wp2_with fail
          go_roundg (m - (k + 1))
          case measure => omega
          case rel =>
            refine ⟨k + 1, by omega, rfl, by first | rfl | (congr 1), ?_⟩
            unfold Hid
            rw [← HV.out, ← hsub]
            exact NS2.out.set HwB.out _
        · obtain rfl : k = m := by omega
          have hnd : v < D := by
            have h1 := HMe.out
            have h2 := HMl.out k (Nat.le_refl _)
            omega
          have i2 : decide ((D : Int) ≤ (v : Int)) = false := decide_eq_false (by omega)
          have i3 : decide (D ≤ v) = false := decide_eq_false (by omega)
          have HVd : Hid ((v : Int) + 1 = (d : Int)) := by
            unfold Hid
            rw [hv]
            exact HDd.out
          clear hv hD
          go_wp2_with fail
          go_quiet ((go_at_call 58; exact quiet_same' (HX.out _ (HMo.out _))))
          obtain ⟨W5, hW5⟩ : ∃ W5, W5 = wr.drewN nq := ⟨_, rfl⟩
          have NS2 : Hid (NumS w B W5 (v : Int)) := by rw [hW5]; exact NS1.out.drawn nq
          rw [← hW5]
          clear hW5 cn hBl
          have c5 := NS2.out.1
          have z0 := (NS2.out.res 0 (by omega)).1
          have z1 := (NS2.out.res 1 (by omega)).1
          have z2 := (NS2.out.res 2 (by omega)).1
          have y0 := (NS2.out.res 0 (by omega)).2
          have yy1 := (NS2.out.res 1 (by omega)).2
          have y2 := (NS2.out.res 2 (by omega)).2
          have hBl := NS2.out.lt
          go_wp2_with fail
          refine bodyPost_ret (results_cell_tmp (P := Tryd.prog) Tryd.results37 _ _ (B + 1) 38 _ (0, 0) _ rfl (three_set NS2.out.2.2.1 _ _ _) Tryd.underlying38 rfl (by kernel_rfl)) rfl ?_
          refine ⟨⟨some (y, k, d), ?_, HK.out, hm12⟩, (((NS2.out.2.2.2.setCell (Nat.le_succ_of_le HwB.out) _).setCell (Nat.le_succ_of_le HwB.out) _).setCell (Nat.le_succ_of_le HwB.out) _)⟩
          rw [HVd.out]
          rfl
end Go.Proofs.YtpmjlhpbknppiaaDoor

/- Plain words of layer 11: a moment's text is read as it was. -/
namespace Go.Proofs.YtpmjlhpbknppiaaDoor

theorem twoD_day {d : Nat} {d1 d2 : UInt8} (h : d < 100) (e : day2 d = [d1, d2]) (r : List UInt8) : twoD (d1 :: d2 :: r) = some d := by
  unfold day2 at e
  unfold twoD
  by_cases h1 : d < 10
  · rw [if_pos h1] at e
    simp only [List.cons.injEq, and_true] at e
    obtain ⟨rfl, rfl⟩ := e
    rw [if_neg (by rw [dig2_cons]; intro hh; exact absurd hh.1 (by decide))]
    have h2 : digOk 1 (((32 : UInt8) :: dgt d :: r).drop 1) := dig1_cons.2 (dgt_dig d)
    rw [if_pos ⟨rfl, h2⟩]
    show some (numOf [dgt d]) = some d
    rw [num1 d h1]
  · rw [if_neg h1] at e
    simp only [List.cons.injEq, and_true] at e
    obtain ⟨rfl, rfl⟩ := e
    rw [if_pos (dig2_cons.2 ⟨dgt_dig _, dgt_dig _⟩)]
    show some (numOf [dgt (d / 10), dgt d]) = some d
    rw [num2 d h]
/-- A zone's minutes, by its sign. -/
def zoneMin (zh zm : Nat) (sg : UInt8) : Int := if sg = 45 then -((zh * 60 + zm : Nat) : Int) else ((zh * 60 + zm : Nat) : Int)
theorem zonK_is {zh zm : Nat} {sg : UInt8} (hs : sg = 43 ∨ sg = 45) (hzh : zh ≤ 23) (hzm : zm ≤ 59) (r : List UInt8) :
    zonK (sg :: dgt (zh / 10) :: dgt zh :: dgt (zm / 10) :: dgt zm :: r) = some (zoneMin zh zm sg) := by
  have hk : awayK (sg :: dgt (zh / 10) :: dgt zh :: dgt (zm / 10) :: dgt zm :: r) = some (zh, zm) := by
    unfold awayK
    have h4 : digOk 4 ((sg :: dgt (zh / 10) :: dgt zh :: dgt (zm / 10) :: dgt zm :: r).drop 1) := dig4_cons.2 ⟨dgt_dig _, dgt_dig _, dgt_dig _, dgt_dig _⟩
    rw [if_pos ⟨by rcases hs with rfl | rfl <;> simp, h4⟩]
    show some (numOf [dgt (zh / 10), dgt zh], numOf [dgt (zm / 10), dgt zm]) = some (zh, zm)
    rw [num2 zh (by omega), num2 zm (by omega)]
  unfold zonK
  rw [hk]
  simp only
  rw [if_pos ⟨hzh, hzm⟩]
  unfold awayM zoneMin
  rcases hs with rfl | rfl
  · simp
  · simp
theorem intK_back {y m d x zh zm : Nat} {sg : UInt8} (hy : y < 10000) (hm : m < 12) (hd : d < 100) (hx : x < 86400) (hs : sg = 43 ∨ sg = 45) (hzh : zh ≤ 23) (hzm : zm ≤ 59) :
    intK (intT0 y m d x zh zm sg) = momentK y m d (x / 3600) (x % 3600 / 60) (x % 60) (zoneMin zh zm sg) := by
  obtain ⟨a, b, c, hmn, hmi, _⟩ := mon_cons m hm
  obtain ⟨d1, d2, hd2, hL⟩ := intT_is (x := x) (zh := zh) (zm := zm) (sg := sg) hy hd hx (by omega) (by omega) hmn
  rw [hL]
  have c1 := twoD_day hd hd2 [45, a, b, c, 45, dgt (y / 1000), dgt (y / 100), dgt (y / 10), dgt y, 32, dgt (x / 3600 / 10), dgt (x / 3600), 58, dgt (x % 3600 / 60 / 10), dgt (x % 3600 / 60), 58, dgt (x % 60 / 10), dgt (x % 60), 32, sg, dgt (zh / 10), dgt zh, dgt (zm / 10), dgt zm, 34]
  have c2 := hmi [45, dgt (y / 1000), dgt (y / 100), dgt (y / 10), dgt y, 32, dgt (x / 3600 / 10), dgt (x / 3600), 58, dgt (x % 3600 / 60 / 10), dgt (x % 3600 / 60), 58, dgt (x % 60 / 10), dgt (x % 60), 32, sg, dgt (zh / 10), dgt zh, dgt (zm / 10), dgt zm, 34]
  have c3 := zonK_is hs hzh hzm [34]
  have n4 := num4 y hy
  have nh := num2 (x / 3600) (by omega)
  have ni := num2 (x % 3600 / 60) (by omega)
  have nx := num2 (x % 60) (by omega)
  obtain ⟨L, hLd⟩ : ∃ L, L = [34, d1, d2, 45, a, b, c, 45, dgt (y / 1000), dgt (y / 100), dgt (y / 10), dgt y, 32, dgt (x / 3600 / 10), dgt (x / 3600), 58, dgt (x % 3600 / 60 / 10), dgt (x % 3600 / 60), 58, dgt (x % 60 / 10), dgt (x % 60), 32, sg, dgt (zh / 10), dgt zh, dgt (zm / 10), dgt zm, 34] := ⟨_, rfl⟩
  rw [← hLd]
  have e1 : twoD (L.drop 1) = some d := by rw [hLd]; exact c1
  have e2 : monI (L.drop 4) = m := by rw [hLd]; exact c2
  have e3 : zonK (L.drop 22) = some (zoneMin zh zm sg) := by rw [hLd]; exact c3
  have e4 : intY L = y := by rw [hLd]; exact n4
  have e5 : intH L = x / 3600 := by rw [hLd]; exact nh
  have e6 : intI L = x % 3600 / 60 := by rw [hLd]; exact ni
  have e7 : intX L = x % 60 := by rw [hLd]; exact nx
  have e8 : intM L = m := e2
  have e9 : intD L = d := by unfold intD; rw [e1]; rfl
  have e10 : intZ L = zoneMin zh zm sg := by unfold intZ; rw [e3]; rfl
  have hC : intC L := by
    refine ⟨by rw [hLd]; rfl, by rw [e1]; rfl, by rw [hLd]; rfl, by rw [e2]; exact hm, by rw [hLd]; rfl, ?_, by rw [hLd]; rfl, ?_, by rw [hLd]; rfl, ?_, by rw [hLd]; rfl, ?_, by rw [hLd]; rfl, by rw [e3]; rfl, by rw [hLd]; rfl⟩
    · rw [hLd]; exact dig4_cons.2 ⟨dgt_dig _, dgt_dig _, dgt_dig _, dgt_dig _⟩
    · rw [hLd]; exact dig2_cons.2 ⟨dgt_dig _, dgt_dig _⟩
    · rw [hLd]; exact dig2_cons.2 ⟨dgt_dig _, dgt_dig _⟩
    · rw [hLd]; exact dig2_cons.2 ⟨dgt_dig _, dgt_dig _⟩
  unfold intK
  rw [if_pos ⟨hC, by rw [hLd]; rfl, by rw [e7]; omega⟩, e4, e8, e9, e5, e6, e7, e10]
/-- The moment of such parts. -/
theorem moment_is {y m d x zh zm : Nat} {sg : UInt8} {N : Int} (hN : numberK y m d = some N) (hx : x < 86400) :
    momentK y m d (x / 3600) (x % 3600 / 60) (x % 60) (zoneMin zh zm sg) = some (N * 86400 + (x : Int) - 60 * zoneMin zh zm sg, zoneMin zh zm sg) := by
  unfold momentK momK
  rw [hN]
  simp only
  rw [if_neg (by omega)]
  congr 2
  omega
/-- A day's text, without the blank. -/
def dayT (y m d : Nat) : List UInt8 := (if d < 10 then [dgt d] else [dgt (d / 10), dgt d]) ++ [45] ++ (monN m).data.toList ++ [45] ++ [dgt (y / 1000), dgt (y / 100), dgt (y / 10), dgt y]
theorem dayK_is {y m d : Nat} (hy : y < 10000) (hm : m < 12) (hd : d < 100) : dayK (dayT y m d) = some (y, m, d) := by
  obtain ⟨a, b, c, hmn, hmi, _⟩ := mon_cons m hm
  have n4 := num4 y hy
  have c2 := hmi [45, dgt (y / 1000), dgt (y / 100), dgt (y / 10), dgt y]
  unfold dayT
  rw [hmn]
  by_cases h1 : d < 10
  · rw [if_pos h1]
    obtain ⟨L, hLd⟩ : ∃ L, L = [dgt d] ++ [45] ++ [a, b, c] ++ [45] ++ [dgt (y / 1000), dgt (y / 100), dgt (y / 10), dgt y] := ⟨_, rfl⟩
    rw [← hLd]
    have hn : nD L = 1 := by
      unfold nD
      rw [if_neg]
      rw [hLd]
      intro hh
      exact absurd (dig2_cons.1 hh).2 (by decide)
    have hC : bareC L := by
      unfold bareC
      rw [hn]
      refine ⟨.inr (by rw [hLd]; exact dig1_cons.2 (dgt_dig d)), by rw [hLd]; rfl, ?_, by rw [hLd]; rfl, by rw [hLd]; exact dig4_cons.2 ⟨dgt_dig _, dgt_dig _, dgt_dig _, dgt_dig _⟩⟩
      rw [hLd]
      exact Nat.lt_of_le_of_lt (Nat.le_of_eq c2) hm
    rw [dayK_some hC (by rw [hn, hLd]; rfl)]
    unfold dayV
    rw [hn, hLd]
    have e1 : numOf ([dgt d] : List UInt8) = d := num1 d h1
    show some (numOf [dgt (y / 1000), dgt (y / 100), dgt (y / 10), dgt y], monI [a, b, c, 45, dgt (y / 1000), dgt (y / 100), dgt (y / 10), dgt y], numOf [dgt d]) = _
    rw [n4, c2, e1]
  · rw [if_neg h1]
    obtain ⟨L, hLd⟩ : ∃ L, L = [dgt (d / 10), dgt d] ++ [45] ++ [a, b, c] ++ [45] ++ [dgt (y / 1000), dgt (y / 100), dgt (y / 10), dgt y] := ⟨_, rfl⟩
    rw [← hLd]
    have hn : nD L = 2 := by
      unfold nD
      rw [if_pos]
      rw [hLd]
      exact dig2_cons.2 ⟨dgt_dig _, dgt_dig _⟩
    have hC : bareC L := by
      unfold bareC
      rw [hn]
      refine ⟨.inl (by rw [hLd]; exact dig2_cons.2 ⟨dgt_dig _, dgt_dig _⟩), by rw [hLd]; rfl, ?_, by rw [hLd]; rfl, by rw [hLd]; exact dig4_cons.2 ⟨dgt_dig _, dgt_dig _, dgt_dig _, dgt_dig _⟩⟩
      rw [hLd]
      exact Nat.lt_of_le_of_lt (Nat.le_of_eq c2) hm
    rw [dayK_some hC (by rw [hn, hLd]; rfl)]
    unfold dayV
    rw [hn, hLd]
    have e1 : numOf ([dgt (d / 10), dgt d] : List UInt8) = d := num2 d hd
    show some (numOf [dgt (y / 1000), dgt (y / 100), dgt (y / 10), dgt y], monI [a, b, c, 45, dgt (y / 1000), dgt (y / 100), dgt (y / 10), dgt y], numOf [dgt (d / 10), dgt d]) = _
    rw [n4, c2, e1]
theorem dayT_head (y m d : Nat) : ∃ n r, dayT y m d = dgt n :: r := by
  unfold dayT
  split
  · exact ⟨_, _, rfl⟩
  · exact ⟨_, _, rfl⟩
theorem dgt_34 (n : Nat) : dgt n ≠ 34 := by
  intro e
  have := congrArg UInt8.toNat e
  rw [dgt_nat] at this
  have e34 : (34 : UInt8).toNat = 34 := rfl
  omega
theorem parseDay_bare {y m d : Nat} (hy : y < 10000) (hm : m < 12) (hd : d < 100) : parseDayK (dayT y m d) = numberK y m d := by
  have h : dayQ (dayT y m d) = some (y, m, d) := by
    unfold dayQ
    rw [if_neg, dayK_is hy hm hd]
    intro hq
    have h2 := (of_decide_eq_true hq).2.1
    obtain ⟨n, r, e⟩ := dayT_head y m d
    rw [e] at h2
    exact dgt_34 n (by simpa using h2)
  unfold parseDayK
  rw [h]
theorem parseDay_quot {y m d : Nat} (hy : y < 10000) (hm : m < 12) (hd : d < 100) : parseDayK ([34] ++ dayT y m d ++ [34]) = numberK y m d := by
  have hin : innD ([34] ++ dayT y m d ++ [34]) = dayT y m d := by
    unfold innD
    rw [List.append_assoc]
    show ((dayT y m d) ++ [34]).take _ = _
    rw [List.length_append, List.length_append]
    simp only [List.length_cons, List.length_nil]
    rw [show 0 + 1 + ((dayT y m d).length + (0 + 1)) - 2 = (dayT y m d).length by omega, List.take_left]
  have h : dayQ ([34] ++ dayT y m d ++ [34]) = some (y, m, d) := by
    unfold dayQ
    rw [if_pos, hin, dayK_is hy hm hd]
    refine decide_eq_true ⟨by simp, rfl, ?_⟩
    rw [List.append_assoc, List.length_append, List.length_append]
    simp only [List.length_cons, List.length_nil]
    show ((34 :: (dayT y m d ++ [34])).drop _).head? = _
    rw [show 0 + 1 + ((dayT y m d).length + (0 + 1)) - 1 = (dayT y m d).length + 1 by omega, List.drop_succ_cons, List.drop_left]
    rfl
  unfold parseDayK
  rw [h]
end Go.Proofs.YtpmjlhpbknppiaaDoor

/- Plain words of layer 11: a moment's text with blanks for strokes, as a header's. -/
namespace Go.Proofs.YtpmjlhpbknppiaaDoor

theorem takeWhile_stop {p : UInt8 → Bool} {l r : List UInt8} {c : UInt8} (h : l.all p = true) (hc : p c = false) : (l ++ c :: r).takeWhile p = l := by
  induction l with
  | nil => rw [List.nil_append, List.takeWhile_cons, if_neg (by simp [hc])]
  | cons x l ih =>
    simp only [List.all_cons, Bool.and_eq_true] at h
    rw [List.cons_append, List.takeWhile_cons, if_pos h.1, ih h.2]
theorem bet_part {p r : List UInt8} (hp : p ≠ []) (h : p.all partB' = true) : bet (p ++ 32 :: r) = p :: bet r := by
  rw [bet_step (by simp)]
  rw [takeWhile_stop h (by decide), if_neg hp, List.drop_left]
  rfl
theorem bet_last {p : List UInt8} (hp : p ≠ []) (h : p.all partB' = true) : bet p = [p] := by
  rw [bet_step hp]
  have e : p.takeWhile partB' = p := by
    have h1 := List.takeWhile_append_of_pos (p := partB') (l₁ := p) (l₂ := []) (fun a ha => (List.all_eq_true.1 h) a ha)
    simpa using h1
  rw [e, if_neg hp, List.drop_length]
  show [p] ++ bet (beh 0 []) = [p]
  rfl
theorem dgt_part (n : Nat) : partB' (dgt n) = true := by
  have h := dgt_nat n
  unfold partB'
  rw [blk_of]
  have h1 : ¬ ((dgt n).toNat = 32 ∨ (dgt n).toNat = 9) := by omega
  rw [decide_eq_false h1]
  have h2 : dgt n ≠ 40 := fun e => by
    have := congrArg UInt8.toNat e
    have e40 : (40 : UInt8).toNat = 40 := rfl
    omega
  simpa using h2
/-- A day's digits. -/
def dayD (d : Nat) : List UInt8 := if d < 10 then [dgt d] else [dgt (d / 10), dgt d]
theorem dayD_tells {d : Nat} (hd : d < 100) : digN 1 2 (dayD d) = some d := by
  unfold digN dayD
  by_cases h : d < 10
  · rw [if_pos h]
    rw [if_pos ⟨by simp, by simp, by simp [dgt_dig]⟩, num1 d h]
  · rw [if_neg h]
    rw [if_pos ⟨by simp, by simp, by simp [dgt_dig]⟩, num2 d hd]
def headT (y m d x zh zm : Nat) (sg : UInt8) : List UInt8 := dayD d ++ 32 :: ((monN m).data.toList ++ 32 :: ([dgt (y / 1000), dgt (y / 100), dgt (y / 10), dgt y] ++ 32 :: ([dgt (x / 3600 / 10), dgt (x / 3600), 58, dgt (x % 3600 / 60 / 10), dgt (x % 3600 / 60), 58, dgt (x % 60 / 10), dgt (x % 60)] ++ 32 :: [sg, dgt (zh / 10), dgt zh, dgt (zm / 10), dgt zm])))
theorem parseK_back {y m d x zh zm : Nat} {sg : UInt8} (hy : y < 10000) (hm : m < 12) (hd : d < 100) (hx : x < 86400) (hs : sg = 43 ∨ sg = 45) (hzh : zh ≤ 23) (hzm : zm ≤ 59) :
    parseK (headT y m d x zh zm sg) = momentK y m d (x / 3600) (x % 3600 / 60) (x % 60) (zoneMin zh zm sg) := by
  obtain ⟨a, b, c, hmn, hmi, hmx⟩ := mon_cons m hm
  have hpm : ∀ u ∈ [a, b, c], partB' u = true := fun u hu => by
    obtain ⟨_, h2, h3⟩ := hmx u hu
    unfold partB'
    rw [h3]
    simpa using h2
  have hD0 : dayD d ≠ [] := by unfold dayD; split <;> simp
  have hD1 : (dayD d).all partB' = true := by
    unfold dayD
    split <;> simp [dgt_part]
  have hDl : (dayD d).length ≤ 2 := by unfold dayD; split <;> simp
  have hsp : partB' sg = true := by rcases hs with rfl | rfl <;> decide
  have h58 : partB' 58 = true := by decide
  have hb : bet (headT y m d x zh zm sg) = [dayD d, [a, b, c], [dgt (y / 1000), dgt (y / 100), dgt (y / 10), dgt y], [dgt (x / 3600 / 10), dgt (x / 3600), 58, dgt (x % 3600 / 60 / 10), dgt (x % 3600 / 60), 58, dgt (x % 60 / 10), dgt (x % 60)], [sg, dgt (zh / 10), dgt zh, dgt (zm / 10), dgt zm]] := by
    unfold headT
    rw [hmn, bet_part hD0 hD1, bet_part (by simp) (by simp [hpm a (by simp), hpm b (by simp), hpm c (by simp)]), bet_part (by simp) (by simp [dgt_part]), bet_part (by simp) (by simp [dgt_part, h58]), bet_last (by simp) (by simp [dgt_part, hsp])]
  unfold parseK textsL
  rw [hb]
  have hw : weekL [dayD d, [a, b, c], [dgt (y / 1000), dgt (y / 100), dgt (y / 10), dgt y], [dgt (x / 3600 / 10), dgt (x / 3600), 58, dgt (x % 3600 / 60 / 10), dgt (x % 3600 / 60), 58, dgt (x % 60 / 10), dgt (x % 60)], [sg, dgt (zh / 10), dgt zh, dgt (zm / 10), dgt zm]] = false := by
    refine decide_eq_false ?_
    rintro ⟨h, _⟩
    omega
  rw [hw]
  simp only [Bool.false_eq_true, if_false]
  have g2 : monOf [a, b, c] = some m := by
    unfold monOf
    rw [hmi []]
    exact if_pos ⟨rfl, hm⟩
  have g3 : yearOf [dgt (y / 1000), dgt (y / 100), dgt (y / 10), dgt y] = some y := by
    unfold yearOf
    rw [if_pos ⟨rfl, by simp [dgt_dig]⟩, num4 y hy]
  have g4 : clockOf [dgt (x / 3600 / 10), dgt (x / 3600), 58, dgt (x % 3600 / 60 / 10), dgt (x % 3600 / 60), 58, dgt (x % 60 / 10), dgt (x % 60)] = some (x / 3600, x % 3600 / 60, some (x % 60)) := by
    unfold clockOf
    rw [if_pos ⟨dig2_cons.2 ⟨dgt_dig _, dgt_dig _⟩, rfl, dig2_cons.2 ⟨dgt_dig _, dgt_dig _⟩⟩, if_neg (by simp), if_pos ⟨rfl, rfl, dig2_cons.2 ⟨dgt_dig _, dgt_dig _⟩⟩]
    show some (numOf [dgt (x / 3600 / 10), dgt (x / 3600)], numOf [dgt (x % 3600 / 60 / 10), dgt (x % 3600 / 60)], some (numOf [dgt (x % 60 / 10), dgt (x % 60)])) = _
    rw [num2 _ (by omega), num2 _ (by omega), num2 _ (by omega)]
  have g5 : zoneOf [sg, dgt (zh / 10), dgt zh, dgt (zm / 10), dgt zm] = some (some (zoneMin zh zm sg)) := by
    have hz := zonK_is hs hzh hzm []
    unfold zonK at hz
    unfold zoneOf
    split at hz
    · next p h' m' hk =>
      rw [hk]
      simp only
      split at hz
      · next hg =>
        rw [if_pos ⟨hg.1, hg.2, rfl⟩]
        rw [Option.some.inj hz]
      · cases hz
    · cases hz
  unfold parseTs
  simp only [dayD_tells hd, g2, g3, g4, g5, Option.bind_some]
  rfl
end Go.Proofs.YtpmjlhpbknppiaaDoor

/- Layer 11: the document's example, and what Internal tells, in general. -/
namespace Go.Proofs.YtpmjlhpbknppiaaDoor
open Go Go.RowKit

def inQ (sec zone : Int) : Prop := -1440 < zone ∧ zone < 1440 ∧ -1099511627776 ≤ sec ∧ sec ≤ 1099511627776
def secQ (sec zone : Int) : Nat := (sec + 60 * zone - 86400 * dayN sec zone).toNat
def IntQ (sec zone : Int) (l : List UInt8) : Prop :=
  (¬ inQ sec zone ∧ l = []) ∨ (inQ sec zone ∧ DayOf (dayN sec zone) none ∧ l = []) ∨
  (inQ sec zone ∧ ∃ y m d, DayOf (dayN sec zone) (some (y, m, d)) ∧ l = intT0 y m d (secQ sec zone) (zone.natAbs / 60) (zone.natAbs % 60) (if zone < 0 then 45 else 43))
/-- What is known of Internal. -/
def IntOk : Prop := ∀ (sec zone : Int) (w : World), -9223372036854775808 ≤ sec → sec ≤ 9223372036854775807 → -9223372036854775808 ≤ zone → zone ≤ 9223372036854775807 → envD w →
    Calls Tryd.prog 11 #[.agg #[.int .i64 sec, .int .i64 zone]] w fun e w' => (∃ l, e = .returned (.string ⟨l.toArray⟩) ∧ IntQ sec zone l) ∧ Below w.heap.size w w'
theorem sg_is (zone : Int) : (if zone < 0 then (45 : UInt8) else 43) = 43 ∨ (if zone < 0 then (45 : UInt8) else 43) = 45 := by
  split
  · exact .inr rfl
  · exact .inl rfl
theorem zoneMin_is (zone : Int) : zoneMin (zone.natAbs / 60) (zone.natAbs % 60) (if zone < 0 then 45 else 43) = zone := by
  unfold zoneMin
  by_cases h : zone < 0
  · rw [if_pos h, if_pos rfl]
    omega
  · rw [if_neg h, if_neg (by decide)]
    omega
/-- A moment whose day is known: its text is this. -/
theorem internal_at (HI : IntOk) {y m d : Nat} (sec zone : Int) (w : World) (hin : inQ sec zone) (hN : numberK y m d = some (dayN sec zone)) (hm : m < 12) (hE : envD w) :
    Calls Tryd.prog 11 #[.agg #[.int .i64 sec, .int .i64 zone]] w fun e w' => e = .returned (.string ⟨(intT0 y m d (secQ sec zone) (zone.natAbs / 60) (zone.natAbs % 60) (if zone < 0 then 45 else 43)).toArray⟩) ∧ Below w.heap.size w w' := by
  obtain ⟨a1, a2, a3, a4⟩ := hin
  refine (HI sec zone w (by omega) (by omega) (by omega) (by omega) hE).mono fun e w' ⟨⟨l, he, hl⟩, hb⟩ => ⟨?_, hb⟩
  rcases hl with ⟨h, _⟩ | ⟨_, h, _⟩ | ⟨_, y', m', d', h, rfl⟩
  · exact absurd ⟨a1, a2, a3, a4⟩ h
  · exfalso
    obtain ⟨k1, k2, k3, k4, k5⟩ := numberK_inv hN
    have h2 := ahead_succ y k1
    have h3 := ahead_le (x := y + 1) (y := 10000) (by omega) (by omega)
    have h4 : ahead 10000 = 3652059 := by decide
    have h5 := monSum_step y m
    have h6 := monSum_le' (y := y) (m := m + 1) (k := 12) (by omega)
    rw [monSum_12] at h6
    rcases h with h | h <;> omega
  · obtain ⟨rfl, rfl, rfl⟩ := numberK_inj hm h.2 hN h.1
    exact he
theorem dayN_b {sec zone : Int} (h : inQ sec zone) : -20000000 ≤ dayN sec zone ∧ dayN sec zone ≤ 20000000 := by
  obtain ⟨a1, a2, a3, a4⟩ := h
  unfold dayN
  omega
theorem secQ_lt (sec zone : Int) : secQ sec zone < 86400 ∧ (secQ sec zone : Int) = sec + 60 * zone - 86400 * dayN sec zone := by
  unfold secQ dayN
  omega
theorem numberK_small {y m d : Nat} {n : Int} (h : numberK y m d = some n) : y < 10000 ∧ d < 100 := by
  obtain ⟨k1, k2, k3, k4, k5⟩ := numberK_inv h
  have := daysM_le y m
  omega
/-- What a moment's text is read as. -/
theorem back_is {y m d : Nat} (sec zone : Int) (hin : inQ sec zone) (hN : numberK y m d = some (dayN sec zone)) (hm : m < 12) :
    intK (intT0 y m d (secQ sec zone) (zone.natAbs / 60) (zone.natAbs % 60) (if zone < 0 then 45 else 43)) = some (sec, zone) := by
  obtain ⟨a1, a2, a3, a4⟩ := hin
  obtain ⟨x1, x2⟩ := secQ_lt sec zone
  obtain ⟨y1, d1⟩ := numberK_small hN
  rw [intK_back y1 hm d1 x1 (sg_is zone) (by omega) (by omega), moment_is hN x1, zoneMin_is, x2]
  congr 2
  omega
theorem exParse : parseK [84, 104, 117, 44, 32, 49, 32, 74, 97, 110, 32, 49, 57, 55, 48, 32, 48, 49, 58, 48, 48, 58, 48, 48, 32, 43, 48, 49, 48, 48] = some (0, 60) := by kernel_rfl
theorem exInt : intK [34, 32, 49, 45, 74, 97, 110, 45, 49, 57, 55, 48, 32, 48, 49, 58, 48, 48, 58, 48, 48, 32, 43, 48, 49, 48, 48, 34] = some (0, 60) := by kernel_rfl
theorem exDay : parseDayK [50, 45, 106, 97, 110, 45, 49, 57, 55, 48] = some 1 := by kernel_rfl
theorem exNum : numberK 1970 0 1 = some (dayN 0 60) := by kernel_rfl
theorem exText : intT0 1970 0 1 (secQ 0 60) ((60 : Int).natAbs / 60) ((60 : Int).natAbs % 60) (if (60 : Int) < 0 then 45 else 43) = [34, 32, 49, 45, 74, 97, 110, 45, 49, 57, 55, 48, 32, 48, 49, 58, 48, 48, 58, 48, 48, 32, 43, 48, 49, 48, 48, 34] := by
  have e1 : secQ 0 60 = 3600 := by decide
  rw [e1]
  obtain ⟨d1, d2, hd, hL⟩ := intT_is (y := 1970) (m := 0) (d := 1) (x := 3600) (zh := (60 : Int).natAbs / 60) (zm := (60 : Int).natAbs % 60) (sg := if (60 : Int) < 0 then 45 else 43) (a := 74) (b := 97) (c := 110) (by omega) (by omega) (by omega) (by decide) (by decide) rfl
  rw [hL]
  have hd' : day2 1 = [32, 49] := by decide
  rw [hd'] at hd
  simp only [List.cons.injEq, and_true] at hd
  obtain ⟨rfl, rfl⟩ := hd
  decide

set_option maxRecDepth 100000 in
set_option maxHeartbeats 4000000 in
theorem awake_any (HI : IntOk) (w : World) (hE : envD w) :
    Calls Tryd.prog 4 #[] w fun e w' => e = .returned (.bool true) ∧ Below w.heap.size w w' := by
  obtain ⟨A1, hA1⟩ : ∃ A : ByteArray, A = ⟨#[84, 104, 117, 44, 32, 49, 32, 74, 97, 110, 32, 49, 57, 55, 48, 32, 48, 49, 58, 48, 48, 58, 48, 48, 32, 43, 48, 49, 48, 48]⟩ := ⟨_, rfl⟩
  have HEn := Lib.hid hE
  have HP1 := Lib.hid (fun w h => parse_any ⟨#[84, 104, 117, 44, 32, 49, 32, 74, 97, 110, 32, 49, 57, 55, 48, 32, 48, 49, 58, 48, 48, 58, 48, 48, 32, 43, 48, 49, 48, 48]⟩ w (by decide) h)
  have HP2 := Lib.hid (fun w h => parseInternal_any ⟨#[34, 32, 49, 45, 74, 97, 110, 45, 49, 57, 55, 48, 32, 48, 49, 58, 48, 48, 58, 48, 48, 32, 43, 48, 49, 48, 48, 34]⟩ w (by decide) h)
  have HP3 := Lib.hid (fun w h => parseDay_any ⟨#[50, 45, 106, 97, 110, 45, 49, 57, 55, 48]⟩ w (by decide) h)
  have HIn := Lib.hid (fun w h => internal_at HI 0 60 w ⟨by omega, by omega, by omega, by omega⟩ exNum (by omega) h)
  have HDy := Lib.hid (fun w => day_any 0 60 (by omega) (by omega) (by omega) (by omega) w)
  have e1 : (⟨#[84, 104, 117, 44, 32, 49, 32, 74, 97, 110, 32, 49, 57, 55, 48, 32, 48, 49, 58, 48, 48, 58, 48, 48, 32, 43, 48, 49, 48, 48]⟩ : ByteArray).data.toList = [84, 104, 117, 44, 32, 49, 32, 74, 97, 110, 32, 49, 57, 55, 48, 32, 48, 49, 58, 48, 48, 58, 48, 48, 32, 43, 48, 49, 48, 48] := rfl
  have e2 : (⟨#[34, 32, 49, 45, 74, 97, 110, 45, 49, 57, 55, 48, 32, 48, 49, 58, 48, 48, 58, 48, 48, 32, 43, 48, 49, 48, 48, 34]⟩ : ByteArray).data.toList = [34, 32, 49, 45, 74, 97, 110, 45, 49, 57, 55, 48, 32, 48, 49, 58, 48, 48, 58, 48, 48, 32, 43, 48, 49, 48, 48, 34] := rfl
  have e3 : (⟨#[50, 45, 106, 97, 110, 45, 49, 57, 55, 48]⟩ : ByteArray).data.toList = [50, 45, 106, 97, 110, 45, 49, 57, 55, 48] := rfl
  rw [e1, exParse] at HP1
  rw [e2, exInt] at HP2
  rw [e3, exDay] at HP3
  rw [exText] at HIn
  have e4 : dayN 0 60 = 0 := by decide
  rw [e4] at HDy
  unfold momV at HP1 HP2
  unfold numV' at HP3
  clear e1 e2 e3 e4 hA1 hE HI
  go_enter Tryd.func4, Tryd.ntmps4
  go_wp2_with fail
  with_reducible refine (HP1.out _ HEn.out).mono ?_
  rintro e w1 ⟨rfl, hb1⟩
  obtain ⟨X1, hX1⟩ : ∃ X, X = w1.alloc (.cells #[.int .i64 0, .int .i64 60] 24) := ⟨_, rfl⟩
  obtain ⟨g0, g1⟩ : X1.cell? ⟨w1.heap.size, 0, none⟩ = some (.int .i64 0) ∧ X1.cell? ⟨w1.heap.size, 1, none⟩ = some (.int .i64 60) := by rw [hX1]; exact cells2 w1 _ _ _
  have HB := Lib.hid (show Below w.heap.size w X1 by rw [hX1]; exact hb1.alloc hb1.size _)
  have hl1 : w1.heap.size < X1.heap.size := by rw [hX1]; simp
  obtain ⟨B1, hB1⟩ : ∃ B, B = w1.heap.size := ⟨_, rfl⟩
  rw [← hB1] at g0 g1 hl1
  clear hb1
  go_wp2_with fail
  rw [← hX1, ← hB1]
  clear hX1 hB1
  with_reducible refine (HP2.out _ (HEn.out.below HB.out)).mono ?_
  rintro e w2 ⟨rfl, hb2⟩
  obtain ⟨X2, hX2⟩ : ∃ X, X = w2.alloc (.cells #[.int .i64 0, .int .i64 60] 24) := ⟨_, rfl⟩
  have hbx : Below X1.heap.size X1 X2 := by rw [hX2]; exact hb2.alloc hb2.size _
  have g2 : X2.cell? ⟨B1, 0, none⟩ = some (.int .i64 0) := (hbx.cell (p := ⟨B1, 0, none⟩) hl1).trans g0
  have g3 : X2.cell? ⟨B1, 1, none⟩ = some (.int .i64 60) := (hbx.cell (p := ⟨B1, 1, none⟩) hl1).trans g1
  obtain ⟨g4, g5⟩ : X2.cell? ⟨w2.heap.size, 0, none⟩ = some (.int .i64 0) ∧ X2.cell? ⟨w2.heap.size, 1, none⟩ = some (.int .i64 60) := by rw [hX2]; exact cells2 w2 _ _ _
  have hl2 : w2.heap.size < X2.heap.size := by rw [hX2]; simp
  have hl3 : B1 < X2.heap.size := Nat.lt_of_lt_of_le hl1 hbx.size
  replace HB := Lib.hid (HB.out.trans (hbx.mono HB.out.size))
  obtain ⟨B2, hB2⟩ : ∃ B, B = w2.heap.size := ⟨_, rfl⟩
  rw [← hB2] at g4 g5 hl2
  clear hb2 hbx g0 g1 hl1
  go_wp2_with fail
  rw [← hX2, ← hB2]
  clear hX2 hB2
  with_reducible refine (HP3.out _ (HEn.out.below HB.out)).mono ?_
  rintro e w3 ⟨rfl, hb3⟩
  have h2 : w3.cell? ⟨B1, 0, none⟩ = some (.int .i64 0) := (hb3.cell (p := ⟨B1, 0, none⟩) hl3).trans g2
  have h3 : w3.cell? ⟨B1, 1, none⟩ = some (.int .i64 60) := (hb3.cell (p := ⟨B1, 1, none⟩) hl3).trans g3
  have h4 : w3.cell? ⟨B2, 0, none⟩ = some (.int .i64 0) := (hb3.cell (p := ⟨B2, 0, none⟩) hl2).trans g4
  have h5 : w3.cell? ⟨B2, 1, none⟩ = some (.int .i64 60) := (hb3.cell (p := ⟨B2, 1, none⟩) hl2).trans g5
  have hl4 : B1 < w3.heap.size := Nat.lt_of_lt_of_le hl3 hb3.size
  have hl5 : B2 < w3.heap.size := Nat.lt_of_lt_of_le hl2 hb3.size
  replace HB := Lib.hid (HB.out.trans (hb3.mono HB.out.size))
  clear hb3 g2 g3 g4 g5 hl2 hl3
  go_wp2_with fail
  with_reducible refine (HIn.out _ (HEn.out.below HB.out)).mono ?_
  rintro e w4 ⟨rfl, hb4⟩
  have j2 : w4.cell? ⟨B1, 0, none⟩ = some (.int .i64 0) := (hb4.cell (p := ⟨B1, 0, none⟩) hl4).trans h2
  have j3 : w4.cell? ⟨B1, 1, none⟩ = some (.int .i64 60) := (hb4.cell (p := ⟨B1, 1, none⟩) hl4).trans h3
  have hl6 : B1 < w4.heap.size := Nat.lt_of_lt_of_le hl4 hb4.size
  replace HB := Lib.hid (HB.out.trans (hb4.mono HB.out.size))
  clear hb4 h2 h3 h4 h5 hl4 hl5
  go_wp2_with fail
  with_reducible refine (HDy.out _).mono ?_
  rintro e w5 ⟨rfl, hb5⟩
  go_wp2_with fail
  go_ret
  exact ⟨rfl, HB.out.trans (hb5.mono HB.out.size)⟩
end Go.Proofs.YtpmjlhpbknppiaaDoor
