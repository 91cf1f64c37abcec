/- The laws of layer 5 (lines): LinesWithin. -/
import Derived.Test.YtdiomfoeiiigfaaLinesI
namespace Go.Proofs.Ytdiomfoeiiigfaa
open Go Go.RowKit

/-- How many feeds there are among so many bytes. -/
def feedsN (l : List UInt8) : Nat → Nat → Nat
  | _, 0 => 0
  | i, k + 1 => (if l.getD i 0 = 10 then 1 else 0) + feedsN l (i + 1) k
theorem feedsN_le (l : List UInt8) : ∀ (k i : Nat), feedsN l i k ≤ k
  | 0, _ => Nat.le_refl _
  | k + 1, i => by
    have := feedsN_le l k (i + 1)
    unfold feedsN
    split <;> omega
theorem feedsN_yes {l : List UInt8} {i T : Nat} (h : i < T) (hc : l.getD i 0 = 10) : feedsN l i (T - i) = 1 + feedsN l (i + 1) (T - (i + 1)) := by
  rw [show T - i = (T - (i + 1)) + 1 by omega, feedsN, if_pos hc]
theorem feedsN_no {l : List UInt8} {i T : Nat} (h : i < T) (hc : ¬ l.getD i 0 = 10) : feedsN l i (T - i) = feedsN l (i + 1) (T - (i + 1)) := by
  rw [show T - i = (T - (i + 1)) + 1 by omega, feedsN, if_neg hc, Nat.zero_add]
theorem scanL_count (l : List UInt8) : ∀ (k a i : Nat), a ≤ i → (scanL l k a i).length = feedsN l i k + (if k = 0 then (if a < i then 1 else 0) else if l.getD (i + k - 1) 0 = 10 then 0 else 1)
  | 0, a, i, h => by
    rw [scanL, feedsN, if_pos rfl]
    split <;> rfl
  | k + 1, a, i, h => by
    rw [scanL, feedsN, if_neg (Nat.succ_ne_zero k)]
    by_cases h10 : l.getD i 0 = 10
    · rw [if_pos h10, if_pos h10, List.length_cons, scanL_count l k (i + 1) (i + 1) (Nat.le_refl _)]
      by_cases hk : k = 0
      · subst hk
        rw [if_pos rfl, if_neg (Nat.lt_irrefl _), show i + (0 + 1) - 1 = i by omega, if_pos h10]
        omega
      · rw [if_neg hk, show i + 1 + k - 1 = i + (k + 1) - 1 by omega]
        omega
    · rw [if_neg h10, if_neg h10, scanL_count l k a (i + 1) (by omega)]
      by_cases hk : k = 0
      · subst hk
        rw [if_pos rfl, if_pos (by omega), show i + (0 + 1) - 1 = i by omega, if_neg h10]
        omega
      · rw [if_neg hk, show i + 1 + k - 1 = i + (k + 1) - 1 by omega]
        omega
theorem linesS_none {l : List UInt8} {F : Nat} : (linesS l F F).length = 0 := by rw [linesS_nil l (Nat.lt_irrefl _)]; rfl
theorem linesS_whole {l : List UInt8} {F T : Nat} (h : F < T) (h10 : l.getD (T - 1) 0 = 10) : (linesS l F T).length = feedsN l F (T - F) := by
  unfold linesS
  rw [scanL_count l _ _ _ (Nat.le_refl _), if_neg (by omega), show F + (T - F) - 1 = T - 1 by omega, if_pos h10, Nat.add_zero]
theorem linesS_left {l : List UInt8} {F T : Nat} (h : F < T) (h10 : ¬ l.getD (T - 1) 0 = 10) : (linesS l F T).length = feedsN l F (T - F) + 1 := by
  unfold linesS
  rw [scanL_count l _ _ _ (Nat.le_refl _), if_neg (by omega), show F + (T - F) - 1 = T - 1 by omega, if_neg h10]
theorem getD_lst (l : List UInt8) (i : Nat) (h : i < l.length) : l.getD i 0 = l[i] := by
  rw [List.getD_eq_getElem?_getD, List.getElem?_eq_getElem h]
  rfl

set_option maxRecDepth 100000 in
set_option maxHeartbeats 2000000 in
theorem linesWithin_any (v : Value) (l : List UInt8) (f t : Int) (w : World) (hv : bytesArg w v l) (hf1 : -9223372036854775808 ≤ f) (hf2 : f ≤ 9223372036854775807) (ht1 : -9223372036854775808 ≤ t) (ht2 : t ≤ 9223372036854775807) :
    Calls Try.prog 6 #[v, .int .i64 f, .int .i64 t] w fun e w' => e = .returned (.bool true) ∧ Below w.heap.size w w' := by
  have HV := Lib.hid hv
  obtain ⟨ao, cap, rfl, hc, hm, hs⟩ := hv
  have HS : Hid (sliceAt w ao l) := hs
  clear hs
  unfold maxLen at hm
  by_cases hl : 300 < l.length
  · go_enter Try.func6, Try.ntmps6
    go_wp2_with fail
    refine (awake_any _).mono ?_
    rintro e w1 ⟨rfl, hb1⟩
    have HB1 := Lib.hid hb1; clear hb1
    go_wp2
    go_ret
    exact ⟨rfl, HB1.out⟩
  · have HW := Lib.hid (fun W => within_any f t (l.length : Int) W)
    have HCt := Lib.hid (fun W h => count_any (.slice ao l.length cap) l f t W h (by omega))
    rcases Bool.eq_false_or_eq_true (withinB f t l.length) with hw | hw
    · have hw' := of_decide_eq_true hw
      obtain ⟨F, rfl⟩ : ∃ F : Nat, f = F := ⟨f.toNat, by omega⟩
      obtain ⟨T, rfl⟩ : ∃ T : Nat, t = T := ⟨t.toNat, by omega⟩
      have hft : F ≤ T := by omega
      have htl : T ≤ l.length := by omega
      have HE := Lib.hid hw
      have HL : Hid (linesZ l (F : Int) (T : Int) = linesS l F T) := by unfold Hid linesZ; rw [if_pos hw]; rfl
      have hFl : (F : Int) ≤ (l.length : Int) := by omega
      clear hw hw'
      go_enter Try.func6, Try.ntmps6
      go_wp2_with fail
      refine (awake_any _).mono ?_
      rintro e w1 ⟨rfl, hb1⟩
      have HB1 := Lib.hid hb1; clear hb1
      go_wp2_with fail
      with_reducible refine (HW.out _).mono ?_
      rintro e w2 ⟨rfl, hb2⟩
      rw [HE.out]
      have HB2 := Lib.hid (HB1.out.trans (((Below.refl _ _).alloc (Nat.le_refl _) (.cells #[.int .i64 (F : Int), .int .i64 (T : Int)] 24)).trans (hb2.mono (by simp))|>.mono HB1.out.size))
      obtain ⟨c0, c1⟩ := box2_cells hb2
      have hlt2 : w1.heap.size < w2.heap.size := by have := hb2.size; simp at this; omega
      clear hb2
      go_wp2
      go_loopg [10, 11] (T - F) (fun q nv iv wr => ∃ i m : Nat, F ≤ i ∧ i ≤ T ∧ q = T - i ∧ nv = .int .i64 m ∧ iv = .int .i64 i ∧ m ≤ i ∧ Hid (m + feedsN l i (T - i) = feedsN l F (T - F)) ∧ w2 = wr)
      case atStart => exact ⟨F, 0, Nat.le_refl _, hft, rfl, rfl, rfl, Nat.zero_le _, Nat.zero_add _, rfl⟩
      case round =>
        obtain ⟨i, m, h1, h2, rfl, rfl, rfl, h3, HM, rfl⟩ := hrel
        by_cases hlt : i < T
        · obtain ⟨b, off, rfl, hb, hcell⟩ := sliceAt.cell HS.out i (by omega)
          have hg := getD_lst l i (by omega)
          obtain ⟨x, hx⟩ : ∃ x, x = l[i] := ⟨_, rfl⟩
          rw [← hx] at hcell hg
          replace hcell := (HB2.out.cell (p := ⟨b, off + i, none⟩) hb).trans hcell
          clear hx
          by_cases h10 : x = 10
          · have ht10 : ((x.toNat : Int) == 10) = true := by rw [h10]; rfl
            have HF := Lib.hid (feedsN_yes (l := l) hlt (by rw [hg]; exact h10))
            clear h10 hg
            go_wp2
            go_roundg (T - (i + 1))
            case measure => omega
            case rel => exact ⟨i + 1, m + 1, by omega, by omega, rfl, by go_num, by go_num, by omega, by unfold Hid; have e1 := HF.out; have e2 := HM.out; omega, rfl⟩
          · have ht10 : ((x.toNat : Int) == 10) = false := beq_no fun e => h10 (toNat_eq (by show x.toNat = 10; omega))
            have HF := Lib.hid (feedsN_no (l := l) hlt (by rw [hg]; exact h10))
            clear h10 hg
            go_wp2
            go_roundg (T - (i + 1))
            case measure => omega
            case rel => exact ⟨i + 1, m, by omega, by omega, rfl, rfl, by go_num, by omega, by unfold Hid; have e1 := HF.out; have e2 := HM.out; omega, rfl⟩
        · obtain rfl : i = T := by omega
          have HM2 : Hid (m = feedsN l F (i - F)) := by have e := HM.out; rw [Nat.sub_self, feedsN] at e; exact e
          by_cases hFT : F < i
          · obtain ⟨b, off, rfl, hb, hcell⟩ := sliceAt.cell HS.out (i - 1) (by omega)
            have hg := getD_lst l (i - 1) (by omega)
            obtain ⟨x, hx⟩ : ∃ x, x = l[i - 1] := ⟨_, rfl⟩
            rw [← hx] at hcell hg
            replace hcell := (HB2.out.cell (p := ⟨b, off + (i - 1), none⟩) hb).trans hcell
            clear hx
            by_cases h10 : x = 10
            · have ht10 : ((x.toNat : Int) == 10) = true := by rw [h10]; rfl
              have ht10' : ((x.toNat : Int) != 10) = false := by rw [h10]; rfl
              have HN : Hid ((linesS l F i).length = m) := by unfold Hid; rw [linesS_whole hFT (by rw [hg]; exact h10)]; exact HM2.out.symm
              clear h10 hg
              go_wp2_with fail
              with_reducible refine (HCt.out _ (HV.out.below HB2.out)).mono ?_
              rintro e w3 ⟨rfl, hb3⟩
              have HB3 := Lib.hid (HB2.out.trans (hb3.mono HB2.out.size))
              clear hb3
              rw [HL.out, HN.out]
              go_wp2
              go_ret
              exact ⟨ret_bool (by simp), HB3.out⟩
            · have ht10 : ((x.toNat : Int) == 10) = false := beq_no fun e => h10 (toNat_eq (by show x.toNat = 10; omega))
              have ht10' : ((x.toNat : Int) != 10) = true := bne_yes fun e => h10 (toNat_eq (by show x.toNat = 10; omega))
              have HN : Hid ((linesS l F i).length = m + 1) := by unfold Hid; rw [linesS_left hFT (by rw [hg]; exact h10)]; have e := HM2.out; omega
              clear h10 hg
              go_wp2_with fail
              with_reducible refine (HCt.out _ (HV.out.below HB2.out)).mono ?_
              rintro e w3 ⟨rfl, hb3⟩
              have HB3 := Lib.hid (HB2.out.trans (hb3.mono HB2.out.size))
              clear hb3
              rw [HL.out, HN.out]
              go_wp2
              go_ret
              exact ⟨ret_bool (by simp), HB3.out⟩
          · obtain rfl : F = i := by omega
            have HN : Hid ((linesS l F F).length = m) := by
              unfold Hid
              have e := HM2.out
              rw [Nat.sub_self, feedsN] at e
              rw [linesS_none, e]
            go_wp2_with fail
            with_reducible refine (HCt.out _ (HV.out.below HB2.out)).mono ?_
            rintro e w3 ⟨rfl, hb3⟩
            have HB3 := Lib.hid (HB2.out.trans (hb3.mono HB2.out.size))
            clear hb3
            rw [HL.out, HN.out]
            go_wp2
            go_ret
            exact ⟨ret_bool (by simp), HB3.out⟩
    · have HE := Lib.hid hw
      have HL : Hid (linesZ l f t = []) := by unfold Hid linesZ; rw [hw]; rfl
      have HOf := Lib.hid (fun W h => of_any (.slice ao l.length cap) l f t W h (by omega))
      have HT := Lib.hid (fun W n h => text_any (.slice ao l.length cap) l f t n W h)
      rw [textS_no l hw] at HT
      have hw' := of_decide_eq_false hw
      have hcases : f < 0 ∨ (0 ≤ f ∧ t < f) ∨ (0 ≤ f ∧ f ≤ t ∧ decide (t ≤ (l.length : Int)) = false) := by
        rw [decide_eq_false_iff_not]
        omega
      clear hw hw'
      rcases hcases with h1 | ⟨h1, h2⟩ | ⟨h1, h2, h3⟩
      all_goals
        go_enter Try.func6, Try.ntmps6
        go_wp2_with fail
        refine (awake_any _).mono ?_
        rintro e w1 ⟨rfl, hb1⟩
        have HB1 := Lib.hid hb1; clear hb1
        go_wp2_with fail
        with_reducible refine (HW.out _).mono ?_
        rintro e w2 ⟨rfl, hb2⟩
        rw [HE.out]
        have HB2 := Lib.hid (HB1.out.trans (((Below.refl _ _).alloc (Nat.le_refl _) (.cells #[.int .i64 f, .int .i64 t] 24)).trans (hb2.mono (by simp))|>.mono HB1.out.size))
        obtain ⟨c0, c1⟩ := box2_cells hb2
        have hlt2 : w1.heap.size < w2.heap.size := by have := hb2.size; simp at this; omega
        clear hb2
        go_wp2_with fail
        with_reducible refine (HCt.out _ (HV.out.below HB2.out)).mono ?_
        rintro e w3 ⟨rfl, hb3⟩
        have HB3 := Lib.hid (HB2.out.trans (hb3.mono HB2.out.size))
        replace c0 := (hb3.cell (p := ⟨w1.heap.size, 0, none⟩) hlt2).trans c0
        replace c1 := (hb3.cell (p := ⟨w1.heap.size, 1, none⟩) hlt2).trans c1
        have hlt3 : w1.heap.size < w3.heap.size := Nat.lt_of_lt_of_le hlt2 hb3.size
        clear hb3
        rw [HL.out]
        go_wp2_with fail
        with_reducible refine (HOf.out _ (HV.out.below HB3.out)).mono ?_
        rintro e w4 ⟨u, rfl, hown, hb4⟩
        rw [HL.out] at hown
        have HB4 := Lib.hid (HB3.out.trans (hb4.mono HB3.out.size))
        obtain ⟨ao', cap', rfl, hcc, _, _⟩ := (rowLn_owned hown).at
        clear hown hb4
        go_wp2_with fail
        with_reducible refine (HT.out _ _ (HV.out.below HB4.out)).mono ?_
        rintro e w5 ⟨rfl, hb5⟩
        have HB5 := Lib.hid (HB4.out.trans (hb5.mono HB4.out.size))
        clear hb5
        go_wp2
        go_ret
        exact ⟨rfl, HB5.out⟩
end Go.Proofs.Ytdiomfoeiiigfaa
