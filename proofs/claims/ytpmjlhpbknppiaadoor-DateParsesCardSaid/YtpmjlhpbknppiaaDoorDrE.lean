/- The document's functions of layer 11: offset. -/
import Derived.Test.YtpmjlhpbknppiaaDoorDrC
namespace Go.Proofs.YtpmjlhpbknppiaaDoor
open Go Go.RowKit

/-- The minutes of a sign and four digits. -/
def offR (l : List UInt8) : Option Int :=
  if l.length ≠ 5 ∨ (l[0]? ≠ some 43 ∧ l[0]? ≠ some 45) then none else
  if digK ((l.drop 1).take 2) 2 2 < 0 ∨ 23 < digK ((l.drop 1).take 2) 2 2 ∨ digK (l.drop 3) 2 2 < 0 ∨ 59 < digK (l.drop 3) 2 2 then none else
  if l[0]? = some 45 then some (-(60 * digK ((l.drop 1).take 2) 2 2 + digK (l.drop 3) 2 2)) else some (60 * digK ((l.drop 1).take 2) 2 2 + digK (l.drop 3) 2 2)
set_option maxRecDepth 100000 in
set_option maxHeartbeats 4000000 in
theorem refOffset_any (s : ByteArray) (w : World) :
    Calls Tryd.prog 34 #[.string s] w fun e w' => e = .returned (numV' (offR s.data.toList)) ∧ w = w' := by
  by_cases h5 : s.size = 5
  · have i1 : ((s.size : Int) != 5) = false := bne_no (by omega)
    have h0 : s.data.toList[0]? = some (s[0]'(by omega)) := by
      rw [List.getElem?_eq_getElem (by rw [len_toList]; omega)]
      rfl
    have h5l : s.data.toList.length = 5 := by rw [len_toList]; exact h5
    have e1 : (s.extract 1 3).data.toList = (s.data.toList.drop 1).take 2 := extract_toList s 1 3
    have e2 : (s.extract 3 5).data.toList = s.data.toList.drop 3 := by
      rw [extract_toList]
      exact List.take_of_length_le (by rw [List.length_drop, h5l]; decide)
    have z1 : (s.extract 1 3).size ≤ 1000000000000 := by rw [extract_size' s 1 3 (by omega)]; decide
    have z2 : (s.extract 3 5).size ≤ 1000000000000 := by rw [extract_size' s 3 5 (by omega)]; decide
    have HD1 := Lib.hid (fun w => refDigits_any (s.extract 1 3) 2 2 2 2 rfl rfl (by decide) z1 w)
    have HD2 := Lib.hid (fun w => refDigits_any (s.extract 3 5) 2 2 2 2 rfl rfl (by decide) z2 w)
    rw [e1] at HD1
    rw [e2] at HD2
    obtain ⟨hb0, hb1⟩ := digK_b ((s.data.toList.drop 1).take 2) 2 2 (by decide)
    obtain ⟨mb0, mb1⟩ := digK_b (s.data.toList.drop 3) 2 2 (by decide)
    obtain ⟨H, hH⟩ : ∃ H, H = digK ((s.data.toList.drop 1).take 2) 2 2 := ⟨_, rfl⟩
    obtain ⟨M, hM⟩ : ∃ M, M = digK (s.data.toList.drop 3) 2 2 := ⟨_, rfl⟩
    rw [← hH] at HD1 hb0 hb1
    rw [← hM] at HD2 mb0 mb1
    have HO : Hid (offR s.data.toList = if (some (s[0]'(by omega)) ≠ some 43 ∧ some (s[0]'(by omega)) ≠ some 45) then none else if H < 0 ∨ 23 < H ∨ M < 0 ∨ 59 < M then none else if some (s[0]'(by omega)) = some 45 then some (-(60 * H + M)) else some (60 * H + M)) := by
      unfold Hid offR
      rw [h0, ← hH, ← hM]
      by_cases g : (some (s[0]'(by omega)) ≠ some (43 : UInt8) ∧ some (s[0]'(by omega)) ≠ some (45 : UInt8))
      · rw [if_pos (.inr g), if_pos g]
      · rw [if_neg g, if_neg (by rintro (k | k); exact k h5l; exact g k)]
    have he1 : s.extract 1 3 = s.extract 1 3 := rfl
    obtain ⟨c, hc⟩ : ∃ c, c = (s[0]'(by omega)) := ⟨_, rfl⟩
    rw [← hc] at HO
    have HC := Lib.hid hc
    have HS := Lib.hid h5
    clear h0 e1 e2 z1 z2 hH hM h5l he1 hc
    by_cases h43 : c = 43
    · have hcc : (s[0]'(by omega)).toNat = 43 := by rw [← HC.out, h43]; rfl
      rw [h43] at HO
      by_cases b0 : H < 0
      · have j0 : decide (H < 0) = true := decide_eq_true b0
        have HR : Hid (offR s.data.toList = none) := by unfold Hid; rw [HO.out, if_neg (by decide), if_pos (by omega)]
        clear HO HC
        go_enter Tryd.func34, Tryd.ntmps34
        go_wp2_with fail
        with_reducible refine (HD1.out _).mono ?_
        rintro e w1 ⟨rfl, rfl⟩
        go_wp2_with fail
        with_reducible refine (HD2.out _).mono ?_
        rintro e w1 ⟨rfl, rfl⟩
        go_wp2_with fail
        go_ret2
        exact ⟨by rw [HR.out]; rfl, rfl⟩
      · have j0 : decide (H < 0) = false := decide_eq_false b0
        by_cases b1 : 23 < H
        · have j1 : decide (23 < H) = true := decide_eq_true b1
          have HR : Hid (offR s.data.toList = none) := by unfold Hid; rw [HO.out, if_neg (by decide), if_pos (by omega)]
          clear HO HC
          go_enter Tryd.func34, Tryd.ntmps34
          go_wp2_with fail
          with_reducible refine (HD1.out _).mono ?_
          rintro e w1 ⟨rfl, rfl⟩
          go_wp2_with fail
          with_reducible refine (HD2.out _).mono ?_
          rintro e w1 ⟨rfl, rfl⟩
          go_wp2_with fail
          go_ret2
          exact ⟨by rw [HR.out]; rfl, rfl⟩
        · have j1 : decide (23 < H) = false := decide_eq_false b1
          by_cases b2 : M < 0
          · have j2 : decide (M < 0) = true := decide_eq_true b2
            have HR : Hid (offR s.data.toList = none) := by unfold Hid; rw [HO.out, if_neg (by decide), if_pos (by omega)]
            clear HO HC
            go_enter Tryd.func34, Tryd.ntmps34
            go_wp2_with fail
            with_reducible refine (HD1.out _).mono ?_
            rintro e w1 ⟨rfl, rfl⟩
            go_wp2_with fail
            with_reducible refine (HD2.out _).mono ?_
            rintro e w1 ⟨rfl, rfl⟩
            go_wp2_with fail
            go_ret2
            exact ⟨by rw [HR.out]; rfl, rfl⟩
          · have j2 : decide (M < 0) = false := decide_eq_false b2
            by_cases b3 : 59 < M
            · have j3 : decide (59 < M) = true := decide_eq_true b3
              have HR : Hid (offR s.data.toList = none) := by unfold Hid; rw [HO.out, if_neg (by decide), if_pos (by omega)]
              clear HO HC
              go_enter Tryd.func34, Tryd.ntmps34
              go_wp2_with fail
              with_reducible refine (HD1.out _).mono ?_
              rintro e w1 ⟨rfl, rfl⟩
              go_wp2_with fail
              with_reducible refine (HD2.out _).mono ?_
              rintro e w1 ⟨rfl, rfl⟩
              go_wp2_with fail
              go_ret2
              exact ⟨by rw [HR.out]; rfl, rfl⟩
            · have j3 : decide (59 < M) = false := decide_eq_false b3
              have HR : Hid (offR s.data.toList = some (60 * H + M)) := by unfold Hid; rw [HO.out, if_neg (by decide), if_neg (by omega), if_neg (by decide)]
              clear HO HC
              go_enter Tryd.func34, Tryd.ntmps34
              go_wp2_with fail
              with_reducible refine (HD1.out _).mono ?_
              rintro e w1 ⟨rfl, rfl⟩
              go_wp2_with fail
              with_reducible refine (HD2.out _).mono ?_
              rintro e w1 ⟨rfl, rfl⟩
              go_wp2_with fail
              go_ret2
              exact ⟨by rw [HR.out]; rfl, rfl⟩
    · have hn43 : ¬ (s[0]'(by omega)).toNat = 43 := fun g => h43 (by rw [HC.out]; exact UInt8.toNat_inj.1 g)
      by_cases h45 : c = 45
      · have hcc : (s[0]'(by omega)).toNat = 45 := by rw [← HC.out, h45]; rfl
        rw [h45] at HO
        by_cases b0 : H < 0
        · have j0 : decide (H < 0) = true := decide_eq_true b0
          have HR : Hid (offR s.data.toList = none) := by unfold Hid; rw [HO.out, if_neg (by decide), if_pos (by omega)]
          clear HO HC
          go_enter Tryd.func34, Tryd.ntmps34
          go_wp2_with fail
          with_reducible refine (HD1.out _).mono ?_
          rintro e w1 ⟨rfl, rfl⟩
          go_wp2_with fail
          with_reducible refine (HD2.out _).mono ?_
          rintro e w1 ⟨rfl, rfl⟩
          go_wp2_with fail
          go_ret2
          exact ⟨by rw [HR.out]; rfl, rfl⟩
        · have j0 : decide (H < 0) = false := decide_eq_false b0
          by_cases b1 : 23 < H
          · have j1 : decide (23 < H) = true := decide_eq_true b1
            have HR : Hid (offR s.data.toList = none) := by unfold Hid; rw [HO.out, if_neg (by decide), if_pos (by omega)]
            clear HO HC
            go_enter Tryd.func34, Tryd.ntmps34
            go_wp2_with fail
            with_reducible refine (HD1.out _).mono ?_
            rintro e w1 ⟨rfl, rfl⟩
            go_wp2_with fail
            with_reducible refine (HD2.out _).mono ?_
            rintro e w1 ⟨rfl, rfl⟩
            go_wp2_with fail
            go_ret2
            exact ⟨by rw [HR.out]; rfl, rfl⟩
          · have j1 : decide (23 < H) = false := decide_eq_false b1
            by_cases b2 : M < 0
            · have j2 : decide (M < 0) = true := decide_eq_true b2
              have HR : Hid (offR s.data.toList = none) := by unfold Hid; rw [HO.out, if_neg (by decide), if_pos (by omega)]
              clear HO HC
              go_enter Tryd.func34, Tryd.ntmps34
              go_wp2_with fail
              with_reducible refine (HD1.out _).mono ?_
              rintro e w1 ⟨rfl, rfl⟩
              go_wp2_with fail
              with_reducible refine (HD2.out _).mono ?_
              rintro e w1 ⟨rfl, rfl⟩
              go_wp2_with fail
              go_ret2
              exact ⟨by rw [HR.out]; rfl, rfl⟩
            · have j2 : decide (M < 0) = false := decide_eq_false b2
              by_cases b3 : 59 < M
              · have j3 : decide (59 < M) = true := decide_eq_true b3
                have HR : Hid (offR s.data.toList = none) := by unfold Hid; rw [HO.out, if_neg (by decide), if_pos (by omega)]
                clear HO HC
                go_enter Tryd.func34, Tryd.ntmps34
                go_wp2_with fail
                with_reducible refine (HD1.out _).mono ?_
                rintro e w1 ⟨rfl, rfl⟩
                go_wp2_with fail
                with_reducible refine (HD2.out _).mono ?_
                rintro e w1 ⟨rfl, rfl⟩
                go_wp2_with fail
                go_ret2
                exact ⟨by rw [HR.out]; rfl, rfl⟩
              · have j3 : decide (59 < M) = false := decide_eq_false b3
                have HR : Hid (offR s.data.toList = some (-(60 * H + M))) := by unfold Hid; rw [HO.out, if_neg (by decide), if_neg (by omega), if_pos rfl]
                clear HO HC
                go_enter Tryd.func34, Tryd.ntmps34
                go_wp2_with fail
                with_reducible refine (HD1.out _).mono ?_
                rintro e w1 ⟨rfl, rfl⟩
                go_wp2_with fail
                with_reducible refine (HD2.out _).mono ?_
                rintro e w1 ⟨rfl, rfl⟩
                go_wp2_with fail
                go_ret2
                exact ⟨by rw [HR.out]; rfl, rfl⟩
      · have hn45 : ¬ (s[0]'(by omega)).toNat = 45 := fun g => h45 (by rw [HC.out]; exact UInt8.toNat_inj.1 g)
        have HR : Hid (offR s.data.toList = none) := by
          unfold Hid
          rw [HO.out, if_pos ⟨fun g => h43 (Option.some.inj g), fun g => h45 (Option.some.inj g)⟩]
        have k43 : (((s[0]'(by omega)).toNat : Int) != 43) = true := bne_yes (by omega)
        have k45 : (((s[0]'(by omega)).toNat : Int) != 45) = true := bne_yes (by omega)
        clear HO HC
        go_enter Tryd.func34, Tryd.ntmps34
        go_wp2_with fail
        go_ret2
        exact ⟨by rw [HR.out]; rfl, rfl⟩
  · have i1 : ((s.size : Int) != 5) = true := bne_yes (by omega)
    have HR : Hid (offR s.data.toList = none) := by
      unfold Hid offR
      rw [if_pos (.inl (by rw [len_toList]; exact h5))]
    clear h5
    go_enter Tryd.func34, Tryd.ntmps34
    go_wp2_with fail
    go_ret2
    exact ⟨by rw [HR.out]; rfl, rfl⟩
end Go.Proofs.YtpmjlhpbknppiaaDoor
