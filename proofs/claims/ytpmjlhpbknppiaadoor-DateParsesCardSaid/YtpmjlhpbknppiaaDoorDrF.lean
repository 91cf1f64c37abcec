/- The document's functions of layer 11: clock. -/
import Derived.Test.YtpmjlhpbknppiaaDoorDrE
namespace Go.Proofs.YtpmjlhpbknppiaaDoor
open Go Go.RowKit

/-- The seconds of hours, minutes and seconds; below 0: they are none. -/
def clockR (l : List UInt8) (need : Bool) (most : Int) : Int :=
  if l.length ≠ 8 ∧ (need = true ∨ l.length ≠ 5) then -1 else
  if l.length = 8 ∧ l[5]? ≠ some 58 then -1 else
  if l[2]? ≠ some 58 ∨ digK (l.take 2) 2 2 < 0 ∨ 23 < digK (l.take 2) 2 2 ∨ digK ((l.drop 3).take 2) 2 2 < 0 ∨ 59 < digK ((l.drop 3).take 2) 2 2 ∨ (if l.length = 8 then digK (l.drop 6) 2 2 else 0) < 0 ∨ most < (if l.length = 8 then digK (l.drop 6) 2 2 else 0) then -1 else
  3600 * digK (l.take 2) 2 2 + 60 * digK ((l.drop 3).take 2) 2 2 + (if l.length = 8 then digK (l.drop 6) 2 2 else 0)
theorem list_at (s : ByteArray) (k : Nat) (h : k < s.size) : s.data.toList[k]? = some s[k] := by
  rw [List.getElem?_eq_getElem (by rw [len_toList]; exact h)]
  rfl
theorem some_ne {a b : UInt8} (h : ¬ a.toNat = b.toNat) : some a ≠ some b := fun g => h (congrArg UInt8.toNat (Option.some.inj g))
set_option maxRecDepth 100000 in
set_option maxHeartbeats 4000000 in
theorem refClock_any (s : ByteArray) (need : Bool) (T : Int) (hT0 : 0 ≤ T) (hT1 : T ≤ 1000) (w : World) :
    Calls Tryd.prog 30 #[.string s, .bool need, .int .i64 T] w fun e w' => e = .returned (.int .i64 (clockR s.data.toList need T)) ∧ w = w' := by
  by_cases h8 : s.size = 8
  · have _h8 := h8
    have i8 : ((s.size : Int) != 8) = false := bne_no (by omega)
    have i9 : ((s.size : Int) == 8) = true := beq_yes (by omega)
    have hl : s.data.toList.length = 8 := by rw [len_toList]; exact h8
    have e1 : (s.extract 0 2).data.toList = s.data.toList.take 2 := by rw [extract_toList, List.drop_zero]
    have e2 : (s.extract 3 5).data.toList = (s.data.toList.drop 3).take 2 := extract_toList s 3 5
    have z1 : (s.extract 0 2).size ≤ 1000000000000 := by rw [extract_size' s 0 2 (by omega)]; decide
    have z2 : (s.extract 3 5).size ≤ 1000000000000 := by rw [extract_size' s 3 5 (by omega)]; decide
    have HD1 := Lib.hid (fun w => refDigits_any (s.extract 0 2) 2 2 2 2 rfl rfl (by decide) z1 w)
    have HD2 := Lib.hid (fun w => refDigits_any (s.extract 3 5) 2 2 2 2 rfl rfl (by decide) z2 w)
    rw [e1] at HD1
    rw [e2] at HD2
    obtain ⟨hb0, hb1⟩ := digK_b (s.data.toList.take 2) 2 2 (by decide)
    obtain ⟨mb0, mb1⟩ := digK_b ((s.data.toList.drop 3).take 2) 2 2 (by decide)
    obtain ⟨H, hH⟩ : ∃ H, H = digK (s.data.toList.take 2) 2 2 := ⟨_, rfl⟩
    obtain ⟨M, hM⟩ : ∃ M, M = digK ((s.data.toList.drop 3).take 2) 2 2 := ⟨_, rfl⟩
    rw [← hH] at HD1 hb0 hb1
    rw [← hM] at HD2 mb0 mb1
    have e3 : (s.extract 6 8).data.toList = s.data.toList.drop 6 := by
      rw [extract_toList]
      exact List.take_of_length_le (by rw [List.length_drop, hl]; decide)
    have z3 : (s.extract 6 8).size ≤ 1000000000000 := by rw [extract_size' s 6 8 (by omega)]; decide
    have HD3 := Lib.hid (fun w => refDigits_any (s.extract 6 8) 2 2 2 2 rfl rfl (by decide) z3 w)
    rw [e3] at HD3
    obtain ⟨xb0, xb1⟩ := digK_b (s.data.toList.drop 6) 2 2 (by decide)
    obtain ⟨X, hX⟩ : ∃ X, X = digK (s.data.toList.drop 6) 2 2 := ⟨_, rfl⟩
    rw [← hX] at HD3 xb0 xb1
    have HO : Hid (clockR s.data.toList need T = (if some (s[5]'(by omega)) ≠ some (58 : UInt8) then -1 else if some (s[2]'(by omega)) ≠ some (58 : UInt8) ∨ H < 0 ∨ 23 < H ∨ M < 0 ∨ 59 < M ∨ X < 0 ∨ T < X then -1 else 3600 * H + 60 * M + X)) := by
      unfold Hid clockR
      rw [if_neg (fun g => g.1 hl), list_at s 5 (by omega), list_at s 2 (by omega), ← hH, ← hM, if_pos hl, ← hX]
      by_cases g : some (s[5]'(by omega)) ≠ some (58 : UInt8)
      · rw [if_pos ⟨hl, g⟩, if_pos g]
      · rw [if_neg (fun k => g k.2), if_neg g]
    clear e1 e2 e3 z1 z2 z3 hH hM hX hl
    by_cases c5 : (s[5]'(by omega)).toNat = 58
    · have k5 : (((s[5]'(by omega)).toNat : Int) != 58) = false := bne_no (by omega)
      have g5 : ¬ some (s[5]'(by omega)) ≠ some (58 : UInt8) := fun g => g (congrArg some (UInt8.toNat_inj.1 c5))
      have HG5 := Lib.hid g5
      clear g5
      by_cases c2 : (s[2]'(by omega)).toNat = 58
      · have k58 : (((s[2]'(by omega)).toNat : Int) != 58) = false := bne_no (by omega)
        by_cases b0 : H < 0
        · have jb0 : decide (H < 0) = true := decide_eq_true b0
          have HR : Hid (clockR s.data.toList need T = -1) := by unfold Hid; rw [HO.out, if_neg HG5.out, if_pos (.inr (by omega))]
          clear HO
          go_enter Tryd.func30, Tryd.ntmps30
          go_wp2_with fail
          with_reducible refine (HD1.out _).mono ?_
          rintro e w1 ⟨rfl, rfl⟩
          go_wp2_with fail
          with_reducible refine (HD2.out _).mono ?_
          rintro e w1 ⟨rfl, rfl⟩
          go_wp2_with fail
          with_reducible refine (HD3.out _).mono ?_
          rintro e w1 ⟨rfl, rfl⟩
          go_wp2_with fail
          go_ret
          exact ⟨ret_int HR.out.symm, rfl⟩
        · have jb0 : decide (H < 0) = false := decide_eq_false b0
          by_cases b1 : 23 < H
          · have jb1 : decide (23 < H) = true := decide_eq_true b1
            have HR : Hid (clockR s.data.toList need T = -1) := by unfold Hid; rw [HO.out, if_neg HG5.out, if_pos (.inr (by omega))]
            clear HO
            go_enter Tryd.func30, Tryd.ntmps30
            go_wp2_with fail
            with_reducible refine (HD1.out _).mono ?_
            rintro e w1 ⟨rfl, rfl⟩
            go_wp2_with fail
            with_reducible refine (HD2.out _).mono ?_
            rintro e w1 ⟨rfl, rfl⟩
            go_wp2_with fail
            with_reducible refine (HD3.out _).mono ?_
            rintro e w1 ⟨rfl, rfl⟩
            go_wp2_with fail
            go_ret
            exact ⟨ret_int HR.out.symm, rfl⟩
          · have jb1 : decide (23 < H) = false := decide_eq_false b1
            by_cases b2 : M < 0
            · have jb2 : decide (M < 0) = true := decide_eq_true b2
              have HR : Hid (clockR s.data.toList need T = -1) := by unfold Hid; rw [HO.out, if_neg HG5.out, if_pos (.inr (by omega))]
              clear HO
              go_enter Tryd.func30, Tryd.ntmps30
              go_wp2_with fail
              with_reducible refine (HD1.out _).mono ?_
              rintro e w1 ⟨rfl, rfl⟩
              go_wp2_with fail
              with_reducible refine (HD2.out _).mono ?_
              rintro e w1 ⟨rfl, rfl⟩
              go_wp2_with fail
              with_reducible refine (HD3.out _).mono ?_
              rintro e w1 ⟨rfl, rfl⟩
              go_wp2_with fail
              go_ret
              exact ⟨ret_int HR.out.symm, rfl⟩
            · have jb2 : decide (M < 0) = false := decide_eq_false b2
              by_cases b3 : 59 < M
              · have jb3 : decide (59 < M) = true := decide_eq_true b3
                have HR : Hid (clockR s.data.toList need T = -1) := by unfold Hid; rw [HO.out, if_neg HG5.out, if_pos (.inr (by omega))]
                clear HO
                go_enter Tryd.func30, Tryd.ntmps30
                go_wp2_with fail
                with_reducible refine (HD1.out _).mono ?_
                rintro e w1 ⟨rfl, rfl⟩
                go_wp2_with fail
                with_reducible refine (HD2.out _).mono ?_
                rintro e w1 ⟨rfl, rfl⟩
                go_wp2_with fail
                with_reducible refine (HD3.out _).mono ?_
                rintro e w1 ⟨rfl, rfl⟩
                go_wp2_with fail
                go_ret
                exact ⟨ret_int HR.out.symm, rfl⟩
              · have jb3 : decide (59 < M) = false := decide_eq_false b3
                by_cases b4 : X < 0
                · have jb4 : decide (X < 0) = true := decide_eq_true b4
                  have HR : Hid (clockR s.data.toList need T = -1) := by unfold Hid; rw [HO.out, if_neg HG5.out, if_pos (.inr (by omega))]
                  clear HO
                  go_enter Tryd.func30, Tryd.ntmps30
                  go_wp2_with fail
                  with_reducible refine (HD1.out _).mono ?_
                  rintro e w1 ⟨rfl, rfl⟩
                  go_wp2_with fail
                  with_reducible refine (HD2.out _).mono ?_
                  rintro e w1 ⟨rfl, rfl⟩
                  go_wp2_with fail
                  with_reducible refine (HD3.out _).mono ?_
                  rintro e w1 ⟨rfl, rfl⟩
                  go_wp2_with fail
                  go_ret
                  exact ⟨ret_int HR.out.symm, rfl⟩
                · have jb4 : decide (X < 0) = false := decide_eq_false b4
                  by_cases b5 : T < X
                  · have jb5 : decide (T < X) = true := decide_eq_true b5
                    have HR : Hid (clockR s.data.toList need T = -1) := by unfold Hid; rw [HO.out, if_neg HG5.out, if_pos (.inr (by omega))]
                    clear HO
                    go_enter Tryd.func30, Tryd.ntmps30
                    go_wp2_with fail
                    with_reducible refine (HD1.out _).mono ?_
                    rintro e w1 ⟨rfl, rfl⟩
                    go_wp2_with fail
                    with_reducible refine (HD2.out _).mono ?_
                    rintro e w1 ⟨rfl, rfl⟩
                    go_wp2_with fail
                    with_reducible refine (HD3.out _).mono ?_
                    rintro e w1 ⟨rfl, rfl⟩
                    go_wp2_with fail
                    go_ret
                    exact ⟨ret_int HR.out.symm, rfl⟩
                  · have jb5 : decide (T < X) = false := decide_eq_false b5
                    have HR : Hid (clockR s.data.toList need T = 3600 * H + 60 * M + X) := by
                      unfold Hid
                      rw [HO.out, if_neg HG5.out, if_neg]
                      rintro (g | g)
                      · exact g (congrArg some (UInt8.toNat_inj.1 c2))
                      · omega
                    clear HO
                    go_enter Tryd.func30, Tryd.ntmps30
                    go_wp2_with fail
                    with_reducible refine (HD1.out _).mono ?_
                    rintro e w1 ⟨rfl, rfl⟩
                    go_wp2_with fail
                    with_reducible refine (HD2.out _).mono ?_
                    rintro e w1 ⟨rfl, rfl⟩
                    go_wp2_with fail
                    with_reducible refine (HD3.out _).mono ?_
                    rintro e w1 ⟨rfl, rfl⟩
                    go_wp2_with fail
                    go_ret
                    exact ⟨ret_int HR.out.symm, rfl⟩
      · have k58 : (((s[2]'(by omega)).toNat : Int) != 58) = true := bne_yes (by omega)
        have HR : Hid (clockR s.data.toList need T = -1) := by unfold Hid; rw [HO.out, if_neg HG5.out, if_pos (.inl (some_ne c2))]
        clear HO
        go_enter Tryd.func30, Tryd.ntmps30
        go_wp2_with fail
        with_reducible refine (HD1.out _).mono ?_
        rintro e w1 ⟨rfl, rfl⟩
        go_wp2_with fail
        with_reducible refine (HD2.out _).mono ?_
        rintro e w1 ⟨rfl, rfl⟩
        go_wp2_with fail
        with_reducible refine (HD3.out _).mono ?_
        rintro e w1 ⟨rfl, rfl⟩
        go_wp2_with fail
        go_ret
        exact ⟨ret_int HR.out.symm, rfl⟩
    · have k5 : (((s[5]'(by omega)).toNat : Int) != 58) = true := bne_yes (by omega)
      have HR : Hid (clockR s.data.toList need T = -1) := by unfold Hid; rw [HO.out, if_pos (some_ne c5)]
      clear HO
      go_enter Tryd.func30, Tryd.ntmps30
      go_wp2_with fail
      with_reducible refine (HD1.out _).mono ?_
      rintro e w1 ⟨rfl, rfl⟩
      go_wp2_with fail
      with_reducible refine (HD2.out _).mono ?_
      rintro e w1 ⟨rfl, rfl⟩
      go_wp2_with fail
      with_reducible refine (HD3.out _).mono ?_
      rintro e w1 ⟨rfl, rfl⟩
      go_wp2_with fail
      go_ret
      exact ⟨ret_int HR.out.symm, rfl⟩
  · by_cases h5 : need = false ∧ s.size = 5
    · obtain ⟨hn, h5⟩ := h5
      have i8 : ((s.size : Int) != 8) = true := bne_yes (by omega)
      have i9 : ((s.size : Int) == 8) = false := beq_no (by omega)
      have hl : s.data.toList.length = 5 := by rw [len_toList]; exact h5
      have e1 : (s.extract 0 2).data.toList = s.data.toList.take 2 := by rw [extract_toList, List.drop_zero]
      have e2 : (s.extract 3 5).data.toList = (s.data.toList.drop 3).take 2 := extract_toList s 3 5
      have z1 : (s.extract 0 2).size ≤ 1000000000000 := by rw [extract_size' s 0 2 (by omega)]; decide
      have z2 : (s.extract 3 5).size ≤ 1000000000000 := by rw [extract_size' s 3 5 (by omega)]; decide
      have HD1 := Lib.hid (fun w => refDigits_any (s.extract 0 2) 2 2 2 2 rfl rfl (by decide) z1 w)
      have HD2 := Lib.hid (fun w => refDigits_any (s.extract 3 5) 2 2 2 2 rfl rfl (by decide) z2 w)
      rw [e1] at HD1
      rw [e2] at HD2
      obtain ⟨hb0, hb1⟩ := digK_b (s.data.toList.take 2) 2 2 (by decide)
      obtain ⟨mb0, mb1⟩ := digK_b ((s.data.toList.drop 3).take 2) 2 2 (by decide)
      obtain ⟨H, hH⟩ : ∃ H, H = digK (s.data.toList.take 2) 2 2 := ⟨_, rfl⟩
      obtain ⟨M, hM⟩ : ∃ M, M = digK ((s.data.toList.drop 3).take 2) 2 2 := ⟨_, rfl⟩
      rw [← hH] at HD1 hb0 hb1
      rw [← hM] at HD2 mb0 mb1
      have HO : Hid (clockR s.data.toList need T = (if some (s[2]'(by omega)) ≠ some (58 : UInt8) ∨ H < 0 ∨ 23 < H ∨ M < 0 ∨ 59 < M ∨ (0 : Int) < 0 ∨ T < 0 then -1 else 3600 * H + 60 * M + 0)) := by
        unfold Hid clockR
        rw [if_neg (fun g => by rcases g.2 with k | k; exact absurd k (by rw [hn]; decide); exact k hl), if_neg (fun g => by rw [hl] at g; exact absurd g.1 (by decide)), list_at s 2 (by omega), ← hH, ← hM, if_neg (show ¬ s.data.toList.length = 8 by rw [hl]; decide)]
      clear e1 e2 z1 z2 hH hM hl
      have i5 : ((s.size : Int) != 5) = false := bne_no (by omega)
      have i0 : (decide ((0 : Int) < 0)) = false := by decide
      subst hn
      by_cases c2 : (s[2]'(by omega)).toNat = 58
      · have k58 : (((s[2]'(by omega)).toNat : Int) != 58) = false := bne_no (by omega)
        by_cases b0 : H < 0
        · have jb0 : decide (H < 0) = true := decide_eq_true b0
          have HR : Hid (clockR s.data.toList false T = -1) := by unfold Hid; rw [HO.out, if_pos (.inr (by omega))]
          clear HO
          go_enter Tryd.func30, Tryd.ntmps30
          go_wp2_with fail
          with_reducible refine (HD1.out _).mono ?_
          rintro e w1 ⟨rfl, rfl⟩
          go_wp2_with fail
          with_reducible refine (HD2.out _).mono ?_
          rintro e w1 ⟨rfl, rfl⟩
          go_wp2_with fail
          go_ret
          exact ⟨ret_int HR.out.symm, rfl⟩
        · have jb0 : decide (H < 0) = false := decide_eq_false b0
          by_cases b1 : 23 < H
          · have jb1 : decide (23 < H) = true := decide_eq_true b1
            have HR : Hid (clockR s.data.toList false T = -1) := by unfold Hid; rw [HO.out, if_pos (.inr (by omega))]
            clear HO
            go_enter Tryd.func30, Tryd.ntmps30
            go_wp2_with fail
            with_reducible refine (HD1.out _).mono ?_
            rintro e w1 ⟨rfl, rfl⟩
            go_wp2_with fail
            with_reducible refine (HD2.out _).mono ?_
            rintro e w1 ⟨rfl, rfl⟩
            go_wp2_with fail
            go_ret
            exact ⟨ret_int HR.out.symm, rfl⟩
          · have jb1 : decide (23 < H) = false := decide_eq_false b1
            by_cases b2 : M < 0
            · have jb2 : decide (M < 0) = true := decide_eq_true b2
              have HR : Hid (clockR s.data.toList false T = -1) := by unfold Hid; rw [HO.out, if_pos (.inr (by omega))]
              clear HO
              go_enter Tryd.func30, Tryd.ntmps30
              go_wp2_with fail
              with_reducible refine (HD1.out _).mono ?_
              rintro e w1 ⟨rfl, rfl⟩
              go_wp2_with fail
              with_reducible refine (HD2.out _).mono ?_
              rintro e w1 ⟨rfl, rfl⟩
              go_wp2_with fail
              go_ret
              exact ⟨ret_int HR.out.symm, rfl⟩
            · have jb2 : decide (M < 0) = false := decide_eq_false b2
              by_cases b3 : 59 < M
              · have jb3 : decide (59 < M) = true := decide_eq_true b3
                have HR : Hid (clockR s.data.toList false T = -1) := by unfold Hid; rw [HO.out, if_pos (.inr (by omega))]
                clear HO
                go_enter Tryd.func30, Tryd.ntmps30
                go_wp2_with fail
                with_reducible refine (HD1.out _).mono ?_
                rintro e w1 ⟨rfl, rfl⟩
                go_wp2_with fail
                with_reducible refine (HD2.out _).mono ?_
                rintro e w1 ⟨rfl, rfl⟩
                go_wp2_with fail
                go_ret
                exact ⟨ret_int HR.out.symm, rfl⟩
              · have jb3 : decide (59 < M) = false := decide_eq_false b3
                have jx : decide (T < 0) = false := decide_eq_false (by omega)
                have HR : Hid (clockR s.data.toList false T = 3600 * H + 60 * M) := by
                  unfold Hid
                  rw [HO.out, if_neg]
                  · exact Int.add_zero _
                  rintro (g | g)
                  · exact g (congrArg some (UInt8.toNat_inj.1 c2))
                  · omega
                clear HO
                go_enter Tryd.func30, Tryd.ntmps30
                go_wp2_with fail
                with_reducible refine (HD1.out _).mono ?_
                rintro e w1 ⟨rfl, rfl⟩
                go_wp2_with fail
                with_reducible refine (HD2.out _).mono ?_
                rintro e w1 ⟨rfl, rfl⟩
                go_wp2_with fail
                go_ret
                exact ⟨ret_int HR.out.symm, rfl⟩
      · have k58 : (((s[2]'(by omega)).toNat : Int) != 58) = true := bne_yes (by omega)
        have HR : Hid (clockR s.data.toList false T = -1) := by unfold Hid; rw [HO.out, if_pos (.inl (some_ne c2))]
        clear HO
        go_enter Tryd.func30, Tryd.ntmps30
        go_wp2_with fail
        with_reducible refine (HD1.out _).mono ?_
        rintro e w1 ⟨rfl, rfl⟩
        go_wp2_with fail
        with_reducible refine (HD2.out _).mono ?_
        rintro e w1 ⟨rfl, rfl⟩
        go_wp2_with fail
        go_ret
        exact ⟨ret_int HR.out.symm, rfl⟩
    · have i8 : ((s.size : Int) != 8) = true := bne_yes (by omega)
      have HR : Hid (clockR s.data.toList need T = -1) := by
        unfold Hid clockR
        rw [len_toList, if_pos]
        refine ⟨h8, ?_⟩
        cases need with
        | true => exact .inl rfl
        | false => exact .inr (fun g => h5 ⟨rfl, g⟩)
      cases need with
      | true =>
        go_enter Tryd.func30, Tryd.ntmps30
        go_wp2_with fail
        go_ret
        exact ⟨ret_int HR.out.symm, rfl⟩
      | false =>
        have i5 : ((s.size : Int) != 5) = true := bne_yes (fun g => h5 ⟨rfl, by omega⟩)
        go_enter Tryd.func30, Tryd.ntmps30
        go_wp2_with fail
        go_ret
        exact ⟨ret_int HR.out.symm, rfl⟩
end Go.Proofs.YtpmjlhpbknppiaaDoor
