/- The laws of layer 5 (lines): LinesAll. -/
import Derived.Test.YtdiomfoeiiigfaaLinesJ
namespace Go.Proofs.Ytdiomfoeiiigfaa
open Go Go.RowKit

theorem firstS_plain (l : List UInt8) {a b k : Nat} (h1 : a ≤ k) (h2 : k < (firstS l a b).t) : ¬ l.getD k 0 = 10 := by
  have hp : k - a < feedI (partS l a b) ∧ k < b → ¬ l.getD k 0 = 10 := fun ⟨h, hb⟩ => by
    have := feedI_ahead h
    rw [partS_at l (by omega), show a + (k - a) = k by omega] at this
    exact this
  unfold firstS at h2
  by_cases hf : feedI (partS l a b) < b - a
  · rw [if_pos hf] at h2
    have := endA_le l a (a + feedI (partS l a b))
    simp only at h2
    exact hp ⟨by omega, by omega⟩
  · rw [if_neg hf] at h2
    simp only at h2
    exact hp ⟨by omega, h2⟩
theorem firstS_feedEnd (l : List UInt8) {a b : Nat} (hb : b ≤ l.length) (h : (firstS l a b).n < b) : l.getD ((firstS l a b).n - 1) 0 = 10 := by
  have hl := partS_len l (a := a) hb
  unfold firstS at h ⊢
  by_cases hf : feedI (partS l a b) < b - a
  · rw [if_pos hf] at h ⊢
    have := feedI_at (l := partS l a b) (by omega)
    rw [partS_at l hf] at this
    exact this
  · rw [if_neg hf] at h
    simp only at h
    omega
theorem linesS_pos (l : List UInt8) {a b : Nat} (h : 0 < (linesS l a b).length) : a < b := by
  rcases Nat.lt_or_ge a b with h1 | h1
  · exact h1
  · rw [linesS_nil l (by omega)] at h
    simp at h
theorem at_pre {pre r : List Ln} {x : Ln} {i : Nat} {ls : List Ln} (h : ls = pre ++ x :: r) (hi : i = pre.length) (hlt : i < ls.length) : ls[i] = x := by
  subst h hi
  simp

set_option maxRecDepth 100000 in
set_option maxHeartbeats 4000000 in
theorem linesAll_any (v : Value) (l : List UInt8) (w : World) (hv : bytesArg w v l) :
    Calls Try.prog 4 #[v] w fun e w' => e = .returned (.bool true) ∧ Below w.heap.size w w' := by
  have HV := Lib.hid hv
  obtain ⟨ao, cap, rfl, hc, hm, hs⟩ := hv
  have HS : Hid (sliceAt w ao l) := hs
  clear hs
  unfold maxLen at hm
  by_cases hl : 500 < l.length
  · go_enter Try.func4, Try.ntmps4
    go_wp2_with fail
    refine (awake_any _).mono ?_
    rintro e w1 ⟨rfl, hb1⟩
    have HB1 := Lib.hid hb1; clear hb1
    go_wp2
    go_ret
    exact ⟨rfl, HB1.out⟩
  · have HOf := Lib.hid (fun W h => of_any (.slice ao l.length cap) l 0 (l.length : Int) W h (by omega))
    have hw : withinB 0 (l.length : Int) l.length = true := withinB_yes ⟨Int.le_refl _, by omega, Int.le_refl _⟩
    have hz : linesZ l 0 (l.length : Int) = linesS l 0 l.length := by unfold linesZ; rw [if_pos hw]; rfl
    rw [hz] at HOf
    have hlen := linesS_len l 0 l.length
    obtain ⟨ls, hls⟩ : ∃ ls, ls = linesS l 0 l.length := ⟨_, rfl⟩
    rw [← hls] at HOf hlen
    have HLS := Lib.hid hls
    clear hz hw hls
    go_enter Try.func4, Try.ntmps4
    go_wp2_with fail
    refine (awake_any _).mono ?_
    rintro e w1 ⟨rfl, hb1⟩
    have HB1 := Lib.hid hb1; clear hb1
    go_wp2_with fail
    with_reducible refine (HOf.out _ (HV.out.below HB1.out)).mono ?_
    rintro e w2 ⟨u, rfl, hown, hb2⟩
    have HB2 := Lib.hid (HB1.out.trans (hb2.mono HB1.out.size))
    obtain ⟨ao', cap', rfl, hc', hm', hcell⟩ := (rowLn_owned hown).at
    have HC := Lib.hid hcell
    clear hown hb2 hcell
    unfold maxLen at hm'
    go_wp2
    go_loopg [5, 6] ls.length (fun q av iv wr => ∃ (i a : Nat) (pre : List Ln), i ≤ ls.length ∧ q = ls.length - i ∧ av = .int .i64 a ∧ iv = .int .i64 i ∧ a ≤ l.length ∧ Hid (i = pre.length) ∧ Hid (ls = pre ++ linesS l a l.length) ∧ Hid (Below w2.heap.size w2 wr))
    case atStart => exact ⟨0, 0, [], Nat.zero_le _, rfl, rfl, rfl, Nat.zero_le _, rfl, HLS.out, Below.refl _ _⟩
    case round =>
      obtain ⟨i, a, pre, hi, rfl, rfl, rfl, ha, HIP, HP, HB⟩ := hrel
      by_cases hlt : i < ls.length
      · have haL : a < l.length := linesS_pos l (by have e := congrArg List.length HP.out; have e2 := HIP.out; rw [List.length_append] at e; omega)
        obtain ⟨g, rfl, hg, c0, c1, c2⟩ := HC.out i hlt
        have hst := linesS_step l haL (Nat.le_refl _)
        have hpq := HP.out
        rw [hst] at hpq
        have hx := at_pre hpq HIP.out hlt
        rw [hx] at c0 c1 c2
        have hbo := firstS_bounds l haL
        have HPl := Lib.hid (fun k h1 h2 => firstS_plain l (a := a) (b := l.length) (k := k) h1 h2)
        have HEn := Lib.hid (fun h => firstS_feedEnd l (a := a) (Nat.le_refl l.length) h)
        obtain ⟨x, hx2⟩ : ∃ x, x = firstS l a l.length := ⟨_, rfl⟩
        rw [← hx2] at c0 c1 c2 hbo HPl HEn hpq
        obtain ⟨b1, b2, b3, b4, b5, b6⟩ := hbo
        rw [b1] at c0
        obtain ⟨xt, hxt⟩ : ∃ xt, xt = x.t := ⟨_, rfl⟩
        obtain ⟨xn, hxn⟩ : ∃ xn, xn = x.n := ⟨_, rfl⟩
        rw [← hxt] at c1 b2 b3 b6 HPl
        rw [← hxn] at c2 b3 b4 b5 b6 HEn hpq
        have HPQ : Hid (ls = (pre ++ [x]) ++ linesS l xn l.length) := by unfold Hid; rw [hpq]; simp
        clear hst hpq hx hx2 hxt hxn b1
        have HD := Lib.hid (And.intro c1 c2)
        replace c0 := (HB.out.cell (p := ⟨g, i * 3, none⟩) hg).trans c0
        replace c1 := (HB.out.cell (p := ⟨g, i * 3 + 1, none⟩) hg).trans c1
        replace c2 := (HB.out.cell (p := ⟨g, i * 3 + 2, none⟩) hg).trans c2
        have t1 : ((a : Int) != (a : Int)) = false := bne_no rfl
        have n2 : decide (xt < a) = false := decide_eq_false (by omega)
        have n3 : decide (xn ≤ a) = false := decide_eq_false (by omega)
        have n4 : decide (xn < xt) = false := decide_eq_false (by omega)
        have n5 : decide (xt + 2 < xn) = false := decide_eq_false (by omega)
        have n6 : decide (l.length < xn) = false := decide_eq_false (by omega)
        have t2 : decide ((xt : Int) < (a : Int)) = false := decide_eq_false (by omega)
        have t3 : decide ((xn : Int) ≤ (a : Int)) = false := decide_eq_false (by omega)
        have t4 : decide ((xn : Int) < (xt : Int)) = false := decide_eq_false (by omega)
        have t5 : decide ((xt : Int) + 2 < (xn : Int)) = false := decide_eq_false (by omega)
        have t6 : decide ((l.length : Int) < (xn : Int)) = false := decide_eq_false (by omega)
        go_wp2
        go_quiet (fail)
        go_wp2
        clear c0 c1 c2
        go_loopg [7] (xt - a) (fun q kv wx => ∃ k : Nat, a ≤ k ∧ k ≤ xt ∧ q = xt - k ∧ kv = .int .i64 k ∧ Hid (Below w2.heap.size w2 wx))
        case atStart => exact ⟨a, Nat.le_refl _, b2, rfl, rfl, HB.out.trans ((below_drewN' _).mono HB.out.size)⟩
        case round =>
          obtain ⟨k, k1, k2, rfl, rfl, HBx⟩ := hrel
          have c1 := (HBx.out.cell (p := ⟨g, i * 3 + 1, none⟩) hg).trans HD.out.1
          have c2 := (HBx.out.cell (p := ⟨g, i * 3 + 2, none⟩) hg).trans HD.out.2
          by_cases hk : k < xt
          · obtain ⟨b, off, rfl, hb, hby⟩ := sliceAt.cell HS.out k (by omega)
            have h10 := HPl.out k k1 hk
            rw [getD_lst l k (by omega)] at h10
            obtain ⟨y, hy⟩ : ∃ y, y = l[k] := ⟨_, rfl⟩
            rw [← hy] at hby h10
            clear hy
            replace hby := (((HB2.out.trans (HBx.out.mono HB2.out.size))).cell (p := ⟨b, off + k, none⟩) hb).trans hby
            have ht10 : ((y.toNat : Int) == 10) = false := beq_no fun e => h10 (toNat_eq (by show y.toNat = 10; omega))
            clear h10
            go_wp2
            go_roundg (xt - (k + 1))
            case measure => omega
            case rel => exact ⟨k + 1, by omega, by omega, rfl, by go_num, HBx⟩
          · obtain rfl : k = xt := by omega
            by_cases hil : i + 1 < ls.length
            · have hnl : xn < l.length := linesS_pos l (by have e := congrArg List.length HPQ.out; have e2 := HIP.out; rw [List.length_append, List.length_append] at e; simp only [List.length_cons, List.length_nil] at e; omega)
              have h10 := HEn.out hnl
              obtain ⟨b, off, rfl, hb, hby⟩ := sliceAt.cell HS.out (xn - 1) (by omega)
              rw [getD_lst l (xn - 1) (by omega)] at h10
              rw [h10] at hby
              clear h10
              replace hby := (((HB2.out.trans (HBx.out.mono HB2.out.size))).cell (p := ⟨b, off + (xn - 1), none⟩) hb).trans hby
              replace hby : wr.cell? ⟨b, off + (xn - 1), none⟩ = some (.int .u8 10) := hby
              go_wp2
              go_roundg (ls.length - (i + 1))
              case measure => omega
              case rel => exact ⟨i + 1, xn, pre ++ [x], by omega, rfl, rfl, by go_num, by omega, by unfold Hid; have e := HIP.out; simp; omega, HPQ, HBx⟩
            · go_wp2
              go_roundg (ls.length - (i + 1))
              case measure => omega
              case rel => exact ⟨i + 1, xn, pre ++ [x], by omega, rfl, rfl, by go_num, by omega, by unfold Hid; have e := HIP.out; simp; omega, HPQ, HBx⟩
      · obtain rfl : i = ls.length := by omega
        have hal : a = l.length := by
          rcases Nat.lt_or_ge a l.length with h | h
          · exfalso
            have e := congrArg List.length HP.out
            have e2 := HIP.out
            rw [linesS_step l h (Nat.le_refl _), List.length_append, List.length_cons] at e
            omega
          · omega
        subst hal
        go_wp2
        go_ret
        exact ⟨ret_bool (by simp), HB2.out.trans (HB.out.mono HB2.out.size)⟩
end Go.Proofs.Ytdiomfoeiiigfaa
