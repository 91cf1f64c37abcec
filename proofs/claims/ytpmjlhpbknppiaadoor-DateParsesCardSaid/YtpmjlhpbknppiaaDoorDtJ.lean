/- Contracts of package date: a day's number. -/
import Derived.Test.YtpmjlhpbknppiaaDoorDtI
namespace Go.Proofs.YtpmjlhpbknppiaaDoor
open Go Go.RowKit

theorem cells3 (w : World) (t : TypeId) (x y z : Value) (n : Nat) : ((w.alloc (.cells #[x, y, z] t)).drewN n).cell? ⟨w.heap.size, 0, none⟩ = some x ∧ ((w.alloc (.cells #[x, y, z] t)).drewN n).cell? ⟨w.heap.size, 1, none⟩ = some y ∧ ((w.alloc (.cells #[x, y, z] t)).drewN n).cell? ⟨w.heap.size, 2, none⟩ = some z := by
  have h : ((w.alloc (.cells #[x, y, z] t)).drewN n).heap[w.heap.size]? = some (.cells #[x, y, z] t (0, 0)) := heap_alloc_new w _
  simp only [World.cell?, h]
  exact ⟨rfl, rfl, rfl⟩

set_option maxRecDepth 100000 in
set_option maxHeartbeats 4000000 in
theorem number_any' (y m d : Nat) (hy : y ≤ 100000) (hm : m < 12) (hd : d ≤ 100000) (w : World) (h : mons w) :
    Calls Tryd.prog 35 #[.agg #[.int .i64 (y : Int), .int .i64 (m : Int), .int .i64 (d : Int)]] w fun e w' => e = .returned (numV' (numberK y m d)) ∧ Below w.heap.size w w' := by
  obtain ⟨W1, hW1⟩ : ∃ W1, W1 = w.alloc (.cells #[.int .i64 (y : Int), .int .i64 (m : Int), .int .i64 (d : Int)] 38) := ⟨_, rfl⟩
  have hb1 : Below w.heap.size w W1 := by rw [hW1]; exact (Below.refl _ _).alloc (Nat.le_refl _) _
  have HC : Hid (∀ n, (W1.drewN n).cell? ⟨w.heap.size, 0, none⟩ = some (.int .i64 (y : Int)) ∧ (W1.drewN n).cell? ⟨w.heap.size, 1, none⟩ = some (.int .i64 (m : Int)) ∧ (W1.drewN n).cell? ⟨w.heap.size, 2, none⟩ = some (.int .i64 (d : Int))) := by
    intro n
    rw [hW1]
    exact cells3 w _ _ _ _ n
  have c0 : ∀ n, (W1.drewN n).cell? ⟨w.heap.size, 0, none⟩ = some (.int .i64 (y : Int)) := fun n => (HC.out n).1
  have c1 : ∀ n, (W1.drewN n).cell? ⟨w.heap.size, 1, none⟩ = some (.int .i64 (m : Int)) := fun n => (HC.out n).2.1
  have c2 : ∀ n, (W1.drewN n).cell? ⟨w.heap.size, 2, none⟩ = some (.int .i64 (d : Int)) := fun n => (HC.out n).2.2
  have c00 := c0 0
  have c10 := c1 0
  have c20 := c2 0
  have HB1 := Lib.hid hb1
  have HM1 : Hid (∀ n, mons (W1.drewN n)) := fun n => h.below (hb1.trans ((below_drewN' n).mono hb1.size))
  have hsz : w.heap.size < W1.heap.size := by rw [hW1]; simp
  have HDo := Lib.hid (fun w h => daysOf_any y m hy hm w h)
  clear hb1 h
  by_cases hy1 : y < 1
  · have i1 : decide ((y : Int) < 1) = true := decide_eq_true (by omega)
    have HR : Hid (numberK y m d = none) := by unfold Hid numberK; rw [if_pos (.inl hy1)]
    clear hy1
    go_enter Tryd.func35, Tryd.ntmps35
    go_wp2_with fail
    rw [← hW1]
    clear hW1
    go_quiet (fail)
    go_wp2_with fail
    go_ret2
    rw [HR.out]
    exact ⟨rfl, HB1.out.trans ((below_drewN' nq).mono HB1.out.size)⟩
  · have i1 : decide ((y : Int) < 1) = false := decide_eq_false (by omega)
    by_cases hy2 : 9999 < y
    · have i2 : decide ((9999 : Int) < (y : Int)) = true := decide_eq_true (by omega)
      have HR : Hid (numberK y m d = none) := by unfold Hid numberK; rw [if_pos (.inr (.inl hy2))]
      clear hy1 hy2
      go_enter Tryd.func35, Tryd.ntmps35
      go_wp2_with fail
      rw [← hW1]
      clear hW1
      go_quiet (fail)
      go_wp2_with fail
      go_ret2
      rw [HR.out]
      exact ⟨rfl, HB1.out.trans ((below_drewN' nq).mono HB1.out.size)⟩
    · have i2 : decide ((9999 : Int) < (y : Int)) = false := decide_eq_false (by omega)
      by_cases hd1 : d < 1
      · have i3 : decide ((d : Int) < 1) = true := decide_eq_true (by omega)
        have HR : Hid (numberK y m d = none) := by unfold Hid numberK; rw [if_pos (.inr (.inr (.inl hd1)))]
        clear hy1 hy2 hd1
        go_enter Tryd.func35, Tryd.ntmps35
        go_wp2_with fail
        rw [← hW1]
        clear hW1
        go_quiet (fail)
        go_wp2_with fail
        go_ret2
        rw [HR.out]
        exact ⟨rfl, HB1.out.trans ((below_drewN' nq).mono HB1.out.size)⟩
      · have i3 : decide ((d : Int) < 1) = false := decide_eq_false (by omega)
        have hdl := daysM_le y m
        by_cases hd2 : daysM y m < d
        · have HR : Hid (numberK y m d = none) := by unfold Hid numberK; rw [if_pos (.inr (.inr (.inr hd2)))]
          obtain ⟨D, hD⟩ : ∃ D, D = daysM y m := ⟨_, rfl⟩
          rw [← hD] at HDo hd2 hdl
          have i4 : decide ((D : Int) < (d : Int)) = true := decide_eq_true (by omega)
          have i5 : decide (D < d) = true := decide_eq_true hd2
          clear hy1 hy2 hd1 hd2 hD
          go_enter Tryd.func35, Tryd.ntmps35
          go_wp2_with fail
          rw [← hW1]
          clear hW1
          go_quiet ((go_at_call 58; exact quiet_same' (HDo.out _ (HM1.out _))))
          go_wp2_with fail
          go_ret2
          rw [HR.out]
          exact ⟨rfl, HB1.out.trans ((below_drewN' nq).mono HB1.out.size)⟩
        · have HR : Hid (numberK y m d = some ((ahead y : Int) - 719162 + (d : Int) - 1 + (monSum y m : Int))) := by
            unfold Hid numberK
            rw [if_neg]
            rintro (h | h | h | h)
            · exact hy1 h
            · exact hy2 h
            · exact hd1 h
            · exact hd2 h
          obtain ⟨D, hD⟩ : ∃ D, D = daysM y m := ⟨_, rfl⟩
          rw [← hD] at HDo hd2 hdl
          have i4 : decide ((D : Int) < (d : Int)) = false := decide_eq_false (by omega)
          have i5 : decide (D < d) = false := decide_eq_false hd2
          have HA := Lib.hid (fun w => daysAhead_any y (by omega) hy w)
          have HA70 := Lib.hid (fun w => daysAhead_any 1970 (by omega) (by omega) w)
          have ha : (ahead y : Int) ≤ 40000000 := by unfold ahead; omega
          have ha0 : 0 ≤ (ahead y : Int) := by omega
          have e70 : (ahead 1970 : Int) = 719162 := by decide
          rw [e70] at HA70
          obtain ⟨AY, hAY⟩ : ∃ AY : Int, AY = (ahead y : Int) := ⟨_, rfl⟩
          rw [← hAY] at HA HR ha ha0
          have HDs := Lib.hid (fun k hk w h => daysOf_any y k hy hk w h)
          have hms := monSum_le y
          have hd1p : 1 ≤ d := by omega
          clear hy1 hy2 hd1 hd2 hD hAY e70
          go_enter Tryd.func35, Tryd.ntmps35
          go_wp2_with fail
          rw [← hW1]
          clear hW1
          go_quiet ((go_at_call 58; exact quiet_same' (HDo.out _ (HM1.out _))))
          obtain ⟨W2, hW2⟩ : ∃ W2, W2 = W1.drewN nq := ⟨_, rfl⟩
          have HB2 : Hid (Below w.heap.size w W2) := by rw [hW2]; exact HB1.out.trans ((below_drewN' nq).mono HB1.out.size)
          have HC2 : Hid (∀ n, (W2.drewN n).cell? ⟨w.heap.size, 0, none⟩ = some (.int .i64 (y : Int)) ∧ (W2.drewN n).cell? ⟨w.heap.size, 1, none⟩ = some (.int .i64 (m : Int)) ∧ (W2.drewN n).cell? ⟨w.heap.size, 2, none⟩ = some (.int .i64 (d : Int))) := by
            intro n
            rw [hW2, World.drewN_drewN]
            exact HC.out _
          have HM2 : Hid (∀ n, mons (W2.drewN n)) := by
            intro n
            rw [hW2, World.drewN_drewN]
            exact HM1.out _
          have hsz2 : w.heap.size < W2.heap.size := by rw [hW2]; exact hsz
          rw [← hW2]
          clear c0 c1 c2 c00 c10 c20 hW2 HC HM1 HB1 hsz
          have c0 : ∀ n, (W2.drewN n).cell? ⟨w.heap.size, 0, none⟩ = some (.int .i64 (y : Int)) := fun n => (HC2.out n).1
          have c2 : ∀ n, (W2.drewN n).cell? ⟨w.heap.size, 2, none⟩ = some (.int .i64 (d : Int)) := fun n => (HC2.out n).2.2
          have c00 := c0 0
          have c20 := c2 0
          go_wp2_with fail
          go_quiet (first | (go_at_call 59; with_reducible exact quiet_same' (HA.out _)) | (go_at_call 59; exact quiet_same' (HA70.out _)))
          obtain ⟨W3, hW3⟩ : ∃ W3, W3 = W2.drewN nq := ⟨_, rfl⟩
          have HB3 : Hid (Below w.heap.size w W3) := by rw [hW3]; exact HB2.out.trans ((below_drewN' nq).mono HB2.out.size)
          have c03 : W3.cell? ⟨w.heap.size, 0, none⟩ = some (.int .i64 (y : Int)) := by rw [hW3]; exact (HC2.out nq).1
          have c13 : W3.cell? ⟨w.heap.size, 1, none⟩ = some (.int .i64 (m : Int)) := by rw [hW3]; exact (HC2.out nq).2.1
          have HM3 : Hid (mons W3) := by rw [hW3]; exact HM2.out nq
          have hsz3 : w.heap.size < W3.heap.size := by rw [hW3]; exact hsz2
          rw [← hW3]
          clear c0 c2 c00 c20 hW3 HC2 HM2 HB2 hsz2
          go_wp2_with fail
          go_loopg [40, 4] m (fun q xi xn wr => ∃ (i : Nat) (N : Int), i ≤ m ∧ q = m - i ∧ xi = .int .i64 (i : Int) ∧ xn = .int .i64 N ∧ 0 ≤ N + 719162 ∧ N ≤ 50000000 ∧ Hid (N = AY - 719162 + (d : Int) - 1 + (monSum y i : Int)) ∧ W3 = wr)
          case atStart => exact ⟨0, AY - 719162 + (d : Int) - 1, by omega, by omega, rfl, rfl, by omega, by omega, (by unfold Hid; simp [monSum]), rfl⟩
          case round =>
            obtain ⟨i, N, hi, rfl, rfl, rfl, hN0, hN1, HN, rfl⟩ := hrel
            by_cases hlt : i < m
            · have HX := Lib.hid (HDs.out i (by omega) W3 HM3.out)
              have hl := daysM_le y i
              have hms2 := hms (i + 1)
              obtain ⟨E, hE⟩ : ∃ E, E = daysM y i := ⟨_, rfl⟩
              have HNN : Hid (N + (E : Int) = AY - 719162 + (d : Int) - 1 + (monSum y (i + 1) : Int)) := by
                unfold Hid
                rw [HN.out, monSum, hE]
                push_cast
                omega
              rw [← hE] at HX hl
              have hN2 : N + (E : Int) ≤ 50000000 := by
                rw [HNN.out]
                omega
              clear hE hms2
              go_wp2_with fail
              with_reducible refine HX.out.mono ?_
              rintro e w1 ⟨rfl, rfl⟩
              go_wp2_with fail
              go_roundg (m - (i + 1))
              case measure => omega
              case rel => exact ⟨i + 1, N + (E : Int), by omega, rfl, by first | rfl | (congr 1), rfl, by omega, hN2, HNN.out, rfl⟩
            · obtain rfl : i = m := by omega
              have hltI : decide ((i : Int) < (i : Int)) = false := decide_eq_false (by omega)
              go_wp2_with fail
              go_ret2
              rw [HR.out, HN.out]
              exact ⟨rfl, HB3.out⟩
end Go.Proofs.YtpmjlhpbknppiaaDoor
