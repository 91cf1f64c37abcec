/- The document's reader of records: take. -/
import Derived.Test.YtedminjnnhlknaaGreatDoorGbRdA
import Derived.Test.YtedminjnnhlknaaGreatDoorGbRdM
import Derived.Test.YtedminjnnhlknaaGreatDoorGbParH
import Derived.Test.YtedminjnnhlknaaGreatDoorGbRcJ
import Derived.Test.YtedminjnnhlknaaGreatDoorGbRcA
import Derived.Test.YtedminjnnhlknaaGreatDoorGbTsE
import Derived.Test.YtedminjnnhlknaaGreatDoorGbRcM
import Derived.RegionTactic
import Derived.BigRegion
import Derived.Deep.DeepCutAuto
import Derived.Deep.CutBlock
import Derived.Test.YtedminjnnhlknaaGreatDoorGbRcF
namespace Go.Proofs.YtedminjnnhlknaaGreatDoor
open Go Go.RowKit
theorem two_set0 {W : World} {B : Nat} {a b : Value} {t : TypeId} (v : Value) (h : W.heap[B]? = some (.cells #[a, b] t (0, 0))) : (W.setCell ⟨B, 0, none⟩ v).heap[B]? = some (.cells #[v, b] t (0, 0)) := by
 obtain ⟨hlt, hk⟩ := Array.getElem?_eq_some_iff.1 h
 show (W.heap.modify B _)[B]? = _
 rw [Array.getElem?_eq_getElem (by rw [Array.size_modify]; exact hlt), Array.getElem_modify_self, hk]
 rfl
theorem two_set1 {W : World} {B : Nat} {a b : Value} {t : TypeId} (v : Value) (h : W.heap[B]? = some (.cells #[a, b] t (0, 0))) : (W.setCell ⟨B, 1, none⟩ v).heap[B]? = some (.cells #[a, v] t (0, 0)) := by
 obtain ⟨hlt, hk⟩ := Array.getElem?_eq_some_iff.1 h
 show (W.heap.modify B _)[B]? = _
 rw [Array.getElem?_eq_getElem (by rw [Array.size_modify]; exact hlt), Array.getElem_modify_self, hk]
 rfl
theorem two_cells {W : World} {B : Nat} {a b : Value} {t : TypeId} (h : W.heap[B]? = some (.cells #[a, b] t (0, 0))) : W.cell? ⟨B, 0, none⟩ = some a ∧ W.cell? ⟨B, 1, none⟩ = some b := by simp [World.cell?, h]
theorem two_frozen {W : World} {B : Nat} {a b : Value} {t : TypeId} (h : W.heap[B]? = some (.cells #[a, b] t (0, 0))) : W.frozen? ⟨B, 0, none⟩ = false ∧ W.frozen? ⟨B, 1, none⟩ = false := by simp [World.frozen?, h]
theorem other_set {W : World} {B B' i : Nat} {o : Obj} (v : Value) (h : W.heap[B]? = some o) (hne : B ≠ B') : (W.setCell ⟨B', i, none⟩ v).heap[B]? = some o := (Below.heap_setCell _ _ _ _ hne).trans h
theorem res_two {W : World} {B : Nat} {a b : Value} {t : TypeId} (u v : Value) (h : W.heap[B]? = some (.cells #[a, b] t (0, 0))) : ((W.setCell ⟨B, 0, none⟩ u).setCell ⟨B, 1, none⟩ v).cell? ⟨B, 0, none⟩ = some u ∧ ((W.setCell ⟨B, 0, none⟩ u).setCell ⟨B, 1, none⟩ v).cell? ⟨B, 1, none⟩ = some v := two_cells (two_set1 v (two_set0 u h))
theorem blk_lt {w : World} {k : Nat} {o : Obj} (h : w.heap[k]? = some o) : k < w.heap.size := (Array.getElem?_eq_some_iff.1 h).1
def rO (S : ByteArray) (e : Int) : Obj := .cells #[.string S, .int .i64 e] 66
def rV (S : ByteArray) (e : Int) : Value := .agg #[.string S, .int .i64 e]
def takePost (q : Rs Nat) (w : World) (e : Ending) (w' : World) : Prop := Below w.heap.size w w' ∧ match q with
 | .ok n r => ∃ S : ByteArray, S.data.toList = r ∧ e = .returned (.tuple #[rV S 0, .int .i64 (n : Int)])
 | .no x => ∃ S : ByteArray, e = .returned (.tuple #[rV S (x : Int), .int .i64 0])
theorem numL_seven (x : Nat) (s : List UInt8) : numL 1 6 x s = if s = [] then .no 10 else .no 11 := by
 cases s with
 | nil => rfl
 | cons d r =>
  rw [if_neg (by simp)]
  unfold numL
  by_cases h : 128 ≤ d.toNat
  ·rw [if_pos h]; rfl
  ·rw [if_neg h]
   by_cases h0 : d.toNat = 0
   ·rw [if_pos (.inr ⟨h0, by decide⟩)]
   ·rw [if_pos (.inl (by have : d.toNat % 128 = d.toNat := Nat.mod_eq_of_lt (by omega); rw [this]; omega))]
theorem numL_cons (f p a : Nat) (d : UInt8) (r : List UInt8) : numL (f + 1) p a (d :: r) = if 128 ≤ d.toNat then numL f (p + 1) (a + (d.toNat % 128) * 128 ^ p) r
  else if 1099511627776 ≤ a + (d.toNat % 128) * 128 ^ p ∨ (d.toNat = 0 ∧ 0 < p) then .no 11
  else .ok (a + (d.toNat % 128) * 128 ^ p) r := rfl
set_option maxRecDepth 100000 in
set_option maxHeartbeats 4000000 in
theorem refTake_any (S0 : ByteArray) (w : World) (hsz : S0.size ≤ 1000000) : Calls Tryz.prog 24 #[rV S0 0] w (takePost (numP S0.data.toList) w) := by
 obtain ⟨q, hq⟩ : ∃ q, q = numP S0.data.toList := ⟨_, rfl⟩
 have HQ : Hid (q = numL 7 0 0 S0.data.toList) := hq
 obtain ⟨X, hX⟩ : ∃ X, X = (w.alloc (rO S0 0)).alloc (rO ⟨#[]⟩ 0) := ⟨_, rfl⟩
 have HBX : Hid (Below w.heap.size w X) := by unfold Hid; rw [hX]; exact ((Below.refl _ _).alloc (Nat.le_refl _) _).alloc (by simp) _
 have HX0 : Hid (X.heap[w.heap.size]? = some (rO S0 0)) := by unfold Hid; rw [hX]; exact heap_alloc2_old w _ _
 have HX1 : Hid (X.heap[w.heap.size + 1]? = some (rO ⟨#[]⟩ 0)) := by unfold Hid; rw [hX]; exact heap_alloc2_new w _ _
 rw [← hq]
 unfold rO at hX HX0 HX1
 unfold rV
 clear hq
 go_enter Tryz.func24, Tryz.ntmps24
 go_upto_region 1 with fail
 rw [← hX]
 clear hX
 go_wp2_with fail
 go_loopg [4, 5, 6, 7] 6 (fun g x4 x5 x6 x7 wr => ∃ (k x M : Nat) (S : ByteArray), k ≤ 6 ∧ g = 6 - k ∧ x4 = .int .i64 (x : Int) ∧ x5 = .int .i64 (M : Int) ∧ x6 = .int .i64 (k : Int) ∧ x < 1125899906842624 ∧ M ≤ 4398046511104 ∧ S.size ≤ 1000000 ∧ Hid (M = 128 ^ k) ∧ Hid (x < M) ∧ Hid (q = numL (7 - k) k x S.data.toList) ∧ Hid (wr.heap[w.heap.size]? = some (.cells #[.string S, .int .i64 0] 66 (0, 0))) ∧ Hid (wr.heap[w.heap.size + 1]? = some (.cells #[.string ⟨#[]⟩, .int .i64 0] 66 (0, 0))) ∧ Hid (Below w.heap.size w wr))
 case atStart => exact ⟨0, 0, 1, S0, by omega, by omega, rfl, rfl, rfl, by omega, by omega, hsz, rfl, Nat.zero_lt_one, HQ.out, HX0.out, HX1.out, HBX.out⟩
 case round =>
  obtain ⟨k, x, M, S, hk, rfl, rfl, rfl, rfl, hx, hM, hS, HM, HXM, HQr, H0, H1, HB⟩ := hrel
  obtain ⟨c0, c1⟩ := two_cells H0.out
  obtain ⟨f0, f1⟩ := two_frozen H0.out
  obtain ⟨d0, d1⟩ := two_cells H1.out
  obtain ⟨g0, g1⟩ := two_frozen H1.out
  have hz1 := blk_lt H1.out
  by_cases hlt : k < 6
  ·obtain ⟨j, hj⟩ : ∃ j, 7 - k = j + 1 := ⟨6 - k, by omega⟩
   rw [hj] at HQr
   by_cases hs0 : S.size = 0
   ·have t0 : (S.toList == []) = true := by rw [beq_iff_eq]; exact (toList_nil_iff S).2 hs0
    have t0' : S.toList = [] := (toList_nil_iff S).2 hs0
    have HE : Hid (q = .no 10) := by
     have h : S.data.toList = [] := List.eq_nil_of_length_eq_zero (by rw [len_toList]; exact hs0)
     have h2 := HQr.out
     rw [h] at h2
     exact h2
    have hW1 := other_set (i := 1) (B' := w.heap.size) (.int .i64 10) H1.out (by omega)
    have hWB := HB.out.setCell (p := ⟨w.heap.size, 1, none⟩) (by simp) (.int .i64 10)
    have HW1 := Lib.hid hW1
    have HWB := Lib.hid hWB
    clear hW1 hWB
    go_wp2_with fail
    (try simp only [Exit.inBlock, Exit.then])
    obtain ⟨r0, r1⟩ := res_two (.string S) (.int .i64 10) HW1.out
    refine bodyPost_ret (v := .tuple #[.agg #[.string S, .int .i64 10], .int .i64 0]) (by simp [results, Tryz.results24, go_sem, r0, r1]) rfl ?_
    refine ⟨(HWB.out.setCell (p := ⟨w.heap.size + 1, 0, none⟩) (by simp) _).setCell (p := ⟨w.heap.size + 1, 1, none⟩) (by simp) _, ?_⟩
    rw [HE.out]
    exact ⟨S, rfl⟩
   ·have hsp : 0 < S.size := by omega
    have t0 : (S.toList == []) = false := by
     cases h : (S.toList == []) with
     | false => rfl
     | true => exact absurd ((toList_nil_iff S).1 (by simpa using h)) hs0
    have t0' : ¬ S.toList = [] := fun h => hs0 ((toList_nil_iff S).1 h)
    obtain ⟨c, hc⟩ : ∃ c, c = S[0] := ⟨_, rfl⟩
    have hct := c.toNat_lt
    obtain ⟨T, hT⟩ : ∃ T, T = S.extract 1 S.size := ⟨_, rfl⟩
    have hTs : T.size ≤ 1000000 := by rw [hT, extract_len]; omega
    have hcons : S.data.toList = c :: T.data.toList := by
     have h := drop_cons S 0 hsp
     rw [List.drop_zero] at h
     rw [h, hT, extract_toList, hc, Nat.zero_add, List.take_of_length_le (by rw [List.length_drop, len_toList]; exact Nat.le_refl _)]
    obtain ⟨D, hD⟩ : ∃ D, D = c.toNat % 128 := ⟨_, rfl⟩
    have hDl : D < 128 := by rw [hD]; exact Nat.mod_lt _ (by decide)
    have eD : (c.toNat : Int) % 128 = (D : Int) := by omega
    have eD2 : (c.toNat : Int).tmod 128 = (D : Int) := by rw [Int.tmod_eq_emod_of_nonneg (by omega)]; exact eD
    obtain ⟨P, hP⟩ : ∃ P, P = M * D := ⟨_, rfl⟩
    have eP : (M : Int) * (D : Int) = (P : Int) := by rw [hP]; simp
    have hPl : P ≤ M * 127 := by rw [hP]; exact Nat.mul_le_mul_left _ (by omega)
    obtain ⟨M2, hM2⟩ : ∃ M2, M2 = M * 128 := ⟨_, rfl⟩
    have eM : (M : Int) * 128 = (M2 : Int) := by omega
    have hxm := HXM.out
    obtain ⟨y, hy⟩ : ∃ y, y = x + P := ⟨_, rfl⟩
    have ey : (x : Int) + (P : Int) = (y : Int) := by omega
    have hy2 : y < M2 := by omega
    have hMk : M2 = 128 ^ (k + 1) := by rw [hM2, HM.out, Nat.pow_succ]
    have hM2l : M2 ≤ 4398046511104 := by
     rw [hMk]
     calc 128 ^ (k + 1) ≤ 128 ^ 6 := Nat.pow_le_pow_right (by decide) (by omega)
      _ = 4398046511104 := by decide
    have hyl : y < 1125899906842624 := by omega
    have HStep : Hid (q = if 128 ≤ c.toNat then numL j (k + 1) y T.data.toList else if 1099511627776 ≤ y ∨ (c.toNat = 0 ∧ 0 < k) then .no 11 else .ok y T.data.toList) := by
     have h := HQr.out
     rw [hcons, numL_cons, ← hD, ← HM.out, Nat.mul_comm D M, ← hP, ← hy] at h
     exact h
    have HMk := Lib.hid hMk
    have HY2 := Lib.hid hy2
    have HC := Lib.hid hc
    have kix : S[0] = c := hc.symm
    have ksl : S.extract 1 S.size = T := hT.symm
    have HT0 : Hid ((wr.setCell ⟨w.heap.size, 0, none⟩ (.string T)).heap[w.heap.size]? = some (.cells #[.string T, .int .i64 0] 66 (0, 0))) := two_set0 _ H0.out
    have HT1 : Hid ((wr.setCell ⟨w.heap.size, 0, none⟩ (.string T)).heap[w.heap.size + 1]? = some (.cells #[.string ⟨#[]⟩, .int .i64 0] 66 (0, 0))) := other_set _ H1.out (by omega)
    have HTB : Hid (Below w.heap.size w (wr.setCell ⟨w.heap.size, 0, none⟩ (.string T))) := HB.out.setCell (p := ⟨w.heap.size, 0, none⟩) (by simp) _
    have HE1 : Hid (((wr.setCell ⟨w.heap.size, 0, none⟩ (.string T)).setCell ⟨w.heap.size, 1, none⟩ (.int .i64 11)).heap[w.heap.size + 1]? = some (.cells #[.string ⟨#[]⟩, .int .i64 0] 66 (0, 0))) := other_set _ HT1.out (by omega)
    have HEB : Hid (Below w.heap.size w ((wr.setCell ⟨w.heap.size, 0, none⟩ (.string T)).setCell ⟨w.heap.size, 1, none⟩ (.int .i64 11))) := HTB.out.setCell (p := ⟨w.heap.size, 1, none⟩) (by simp) _
    clear hc hT hD hP hM2 hy hcons hMk hy2 hPl hxm
    by_cases hform : 0 < k ∧ c.toNat = 0
    ·have u1 : (0 : Int) < (k : Int) := by omega
     have u1d : decide ((0 : Int) < (k : Int)) = true := decide_eq_true u1
     have u1e : decide (0 < k) = true := decide_eq_true hform.1
     have u2 : ((c.toNat : Int) == 0) = true := beq_yes (by omega)
     have HE : Hid (q = .no 11) := by
      have h := HStep.out
      rw [if_neg (by omega), if_pos (.inr ⟨hform.2, hform.1⟩)] at h
      exact h
     clear HStep
     go_wp2_with fail
     (try simp only [Exit.inBlock, Exit.then])
     obtain ⟨r0, r1⟩ := res_two (.string T) (.int .i64 11) HE1.out
     refine bodyPost_ret (v := .tuple #[.agg #[.string T, .int .i64 11], .int .i64 0]) (by simp [results, Tryz.results24, go_sem, r0, r1]) rfl ?_
     refine ⟨(HEB.out.setCell (p := ⟨w.heap.size + 1, 0, none⟩) (by simp) _).setCell (p := ⟨w.heap.size + 1, 1, none⟩) (by simp) _, ?_⟩
     rw [HE.out]
     exact ⟨T, rfl⟩
    ·have HNo : Hid (¬ (c.toNat = 0 ∧ 0 < k)) := fun h => hform ⟨h.2, h.1⟩
     by_cases hk0 : 0 < k
     ·have u1 : (0 : Int) < (k : Int) := by omega
      have u1d : decide ((0 : Int) < (k : Int)) = true := decide_eq_true u1
      have u1e : decide (0 < k) = true := decide_eq_true hk0
      have u2 : ((c.toNat : Int) == 0) = false := beq_no (fun h => hform ⟨hk0, by omega⟩)
      clear hform
      by_cases hhi : 128 ≤ c.toNat
      ·have v1 : ¬ (c.toNat : Int) < 128 := by omega
       have v1d : decide ((c.toNat : Int) < 128) = false := decide_eq_false v1
       have v1e : decide (c.toNat < 128) = false := decide_eq_false (by omega)
       have HE : Hid (q = numL (7 - (k + 1)) (k + 1) y T.data.toList) := by
        have h := HStep.out
        rw [if_pos hhi] at h
        rw [show 7 - (k + 1) = j by omega]
        exact h
       clear HStep
       go_wp2_with fail
       go_roundg (6 - (k + 1))
       case measure => omega
       case rel => exact ⟨k + 1, y, M2, T, by omega, rfl, rfl, rfl, by go_num, hyl, hM2l, hTs, HMk, HY2, HE, HT0, HT1, HTB⟩
      ·have v1 : (c.toNat : Int) < 128 := by omega
       have v1d : decide ((c.toNat : Int) < 128) = true := decide_eq_true v1
       have v1e : decide (c.toNat < 128) = true := decide_eq_true (by omega)
       by_cases hbg : 1099511627776 ≤ y
       ·have v2 : (1099511627776 : Int) ≤ (y : Int) := by omega
        have v2d : decide ((1099511627776 : Int) ≤ (y : Int)) = true := decide_eq_true v2
        have v2e : decide (1099511627776 ≤ y) = true := decide_eq_true hbg
        have HE : Hid (q = .no 11) := by
         have h := HStep.out
         rw [if_neg hhi, if_pos (.inl hbg)] at h
         exact h
        clear HStep
        go_wp2_with fail
        (try simp only [Exit.inBlock, Exit.then])
        obtain ⟨r0, r1⟩ := res_two (.string T) (.int .i64 11) HE1.out
        refine bodyPost_ret (v := .tuple #[.agg #[.string T, .int .i64 11], .int .i64 0]) (by simp [results, Tryz.results24, go_sem, r0, r1]) rfl ?_
        refine ⟨(HEB.out.setCell (p := ⟨w.heap.size + 1, 0, none⟩) (by simp) _).setCell (p := ⟨w.heap.size + 1, 1, none⟩) (by simp) _, ?_⟩
        rw [HE.out]
        exact ⟨T, rfl⟩
       ·have v2 : ¬ (1099511627776 : Int) ≤ (y : Int) := by omega
        have v2d : decide ((1099511627776 : Int) ≤ (y : Int)) = false := decide_eq_false v2
        have v2e : decide (1099511627776 ≤ y) = false := decide_eq_false hbg
        have HE : Hid (q = .ok y T.data.toList) := by
         have h := HStep.out
         rw [if_neg hhi, if_neg (fun h => h.elim hbg HNo.out)] at h
         exact h
        clear HStep
        go_wp2_with fail
        (try simp only [Exit.inBlock, Exit.then])
        obtain ⟨r0, r1⟩ := res_two (.string T) (.int .i64 0) HT1.out
        refine bodyPost_ret (v := .tuple #[.agg #[.string T, .int .i64 0], .int .i64 (y : Int)]) (by simp [results, Tryz.results24, go_sem, r0, r1]) rfl ?_
        refine ⟨(HTB.out.setCell (p := ⟨w.heap.size + 1, 0, none⟩) (by simp) _).setCell (p := ⟨w.heap.size + 1, 1, none⟩) (by simp) _, ?_⟩
        rw [HE.out]
        exact ⟨T, rfl, rfl⟩
     ·have u1 : ¬ (0 : Int) < (k : Int) := by omega
      have u1d : decide ((0 : Int) < (k : Int)) = false := decide_eq_false u1
      have u1e : decide (0 < k) = false := decide_eq_false hk0
      clear hform
      by_cases hhi : 128 ≤ c.toNat
      ·have v1 : ¬ (c.toNat : Int) < 128 := by omega
       have v1d : decide ((c.toNat : Int) < 128) = false := decide_eq_false v1
       have v1e : decide (c.toNat < 128) = false := decide_eq_false (by omega)
       have HE : Hid (q = numL (7 - (k + 1)) (k + 1) y T.data.toList) := by
        have h := HStep.out
        rw [if_pos hhi] at h
        rw [show 7 - (k + 1) = j by omega]
        exact h
       clear HStep
       go_wp2_with fail
       go_roundg (6 - (k + 1))
       case measure => omega
       case rel => exact ⟨k + 1, y, M2, T, by omega, rfl, rfl, rfl, by go_num, hyl, hM2l, hTs, HMk, HY2, HE, HT0, HT1, HTB⟩
      ·have v1 : (c.toNat : Int) < 128 := by omega
       have v1d : decide ((c.toNat : Int) < 128) = true := decide_eq_true v1
       have v1e : decide (c.toNat < 128) = true := decide_eq_true (by omega)
       by_cases hbg : 1099511627776 ≤ y
       ·have v2 : (1099511627776 : Int) ≤ (y : Int) := by omega
        have v2d : decide ((1099511627776 : Int) ≤ (y : Int)) = true := decide_eq_true v2
        have v2e : decide (1099511627776 ≤ y) = true := decide_eq_true hbg
        have HE : Hid (q = .no 11) := by
         have h := HStep.out
         rw [if_neg hhi, if_pos (.inl hbg)] at h
         exact h
        clear HStep
        go_wp2_with fail
        (try simp only [Exit.inBlock, Exit.then])
        obtain ⟨r0, r1⟩ := res_two (.string T) (.int .i64 11) HE1.out
        refine bodyPost_ret (v := .tuple #[.agg #[.string T, .int .i64 11], .int .i64 0]) (by simp [results, Tryz.results24, go_sem, r0, r1]) rfl ?_
        refine ⟨(HEB.out.setCell (p := ⟨w.heap.size + 1, 0, none⟩) (by simp) _).setCell (p := ⟨w.heap.size + 1, 1, none⟩) (by simp) _, ?_⟩
        rw [HE.out]
        exact ⟨T, rfl⟩
       ·have v2 : ¬ (1099511627776 : Int) ≤ (y : Int) := by omega
        have v2d : decide ((1099511627776 : Int) ≤ (y : Int)) = false := decide_eq_false v2
        have v2e : decide (1099511627776 ≤ y) = false := decide_eq_false hbg
        have HE : Hid (q = .ok y T.data.toList) := by
         have h := HStep.out
         rw [if_neg hhi, if_neg (fun h => h.elim hbg HNo.out)] at h
         exact h
        clear HStep
        go_wp2_with fail
        (try simp only [Exit.inBlock, Exit.then])
        obtain ⟨r0, r1⟩ := res_two (.string T) (.int .i64 0) HT1.out
        refine bodyPost_ret (v := .tuple #[.agg #[.string T, .int .i64 0], .int .i64 (y : Int)]) (by simp [results, Tryz.results24, go_sem, r0, r1]) rfl ?_
        refine ⟨(HTB.out.setCell (p := ⟨w.heap.size + 1, 0, none⟩) (by simp) _).setCell (p := ⟨w.heap.size + 1, 1, none⟩) (by simp) _, ?_⟩
        rw [HE.out]
        exact ⟨T, rfl, rfl⟩
  ·obtain rfl : k = 6 := by omega
   by_cases hs0 : S.size = 0
   ·have t0 : (S.toList == []) = true := by rw [beq_iff_eq]; exact (toList_nil_iff S).2 hs0
    have t0' : S.toList = [] := (toList_nil_iff S).2 hs0
    have HE : Hid (q = .no 10) := by
     have h2 := HQr.out
     rw [numL_seven, if_pos (List.eq_nil_of_length_eq_zero (by rw [len_toList]; exact hs0))] at h2
     exact h2
    have HW1 := Lib.hid (other_set (i := 1) (B' := w.heap.size) (.int .i64 10) H1.out (by omega))
    have HWB := Lib.hid (HB.out.setCell (p := ⟨w.heap.size, 1, none⟩) (by simp) (.int .i64 10))
    go_wp2_with fail
    (try simp only [Exit.inBlock, Exit.then])
    obtain ⟨r0, r1⟩ := res_two (.string S) (.int .i64 10) HW1.out
    refine bodyPost_ret (v := .tuple #[.agg #[.string S, .int .i64 10], .int .i64 0]) (by simp [results, Tryz.results24, go_sem, r0, r1]) rfl ?_
    refine ⟨(HWB.out.setCell (p := ⟨w.heap.size + 1, 0, none⟩) (by simp) _).setCell (p := ⟨w.heap.size + 1, 1, none⟩) (by simp) _, ?_⟩
    rw [HE.out]
    exact ⟨S, rfl⟩
   ·have t0 : (S.toList == []) = false := by
     cases h : (S.toList == []) with
     | false => rfl
     | true => exact absurd ((toList_nil_iff S).1 (by simpa using h)) hs0
    have t0' : ¬ S.toList = [] := fun h => hs0 ((toList_nil_iff S).1 h)
    have HE : Hid (q = .no 11) := by
     have h2 := HQr.out
     rw [numL_seven, if_neg (fun h => hs0 (by rw [bytes_len, h]; rfl))] at h2
     exact h2
    have HW1 := Lib.hid (other_set (i := 1) (B' := w.heap.size) (.int .i64 11) H1.out (by omega))
    have HWB := Lib.hid (HB.out.setCell (p := ⟨w.heap.size, 1, none⟩) (by simp) (.int .i64 11))
    go_wp2_with fail
    (try simp only [Exit.inBlock, Exit.then])
    obtain ⟨r0, r1⟩ := res_two (.string S) (.int .i64 11) HW1.out
    refine bodyPost_ret (v := .tuple #[.agg #[.string S, .int .i64 11], .int .i64 0]) (by simp [results, Tryz.results24, go_sem, r0, r1]) rfl ?_
    refine ⟨(HWB.out.setCell (p := ⟨w.heap.size + 1, 0, none⟩) (by simp) _).setCell (p := ⟨w.heap.size + 1, 1, none⟩) (by simp) _, ?_⟩
    rw [HE.out]
    exact ⟨S, rfl⟩
set_option maxRecDepth 100000 in
set_option maxHeartbeats 2000000 in
theorem refTake_stuck (S : ByteArray) (x : Nat) (hx : x ≠ 0) (w : World) : Calls Tryz.prog 24 #[rV S (x : Int)] w fun e w' => e = .returned (.tuple #[rV S (x : Int), .int .i64 0]) ∧ Below w.heap.size w w' := by
 obtain ⟨X, hX⟩ : ∃ X, X = (w.alloc (rO S (x : Int))).alloc (rO ⟨#[]⟩ 0) := ⟨_, rfl⟩
 have HBX : Hid (Below w.heap.size w X) := by unfold Hid; rw [hX]; exact ((Below.refl _ _).alloc (Nat.le_refl _) _).alloc (by simp) _
 have HX0 : Hid (X.heap[w.heap.size]? = some (rO S (x : Int))) := by unfold Hid; rw [hX]; exact heap_alloc2_old w _ _
 have HX1 : Hid (X.heap[w.heap.size + 1]? = some (rO ⟨#[]⟩ 0)) := by unfold Hid; rw [hX]; exact heap_alloc2_new w _ _
 have t1 : ((x : Int) == 0) = false := beq_no (by omega)
 unfold rO at hX HX0 HX1
 unfold rV
 go_enter Tryz.func24, Tryz.ntmps24
 go_upto_region 1 with fail
 rw [← hX]
 clear hX
 obtain ⟨c0, c1⟩ := two_cells HX0.out
 obtain ⟨d0, d1⟩ := two_cells HX1.out
 obtain ⟨g0, g1⟩ := two_frozen HX1.out
 go_wp2_with fail
 refine wp_loop_rounds 1 ?_
 rw [rounds_succ]
 go_wp2_with fail
 (try simp only [Exit.inBlock, Exit.then])
 obtain ⟨r0, r1⟩ := res_two (.string S) (.int .i64 (x : Int)) HX1.out
 refine bodyPost_ret (v := .tuple #[.agg #[.string S, .int .i64 (x : Int)], .int .i64 0]) (by simp [results, Tryz.results24, go_sem, r0, r1]) rfl ?_
 exact ⟨rfl, (HBX.out.setCell (p := ⟨w.heap.size + 1, 0, none⟩) (by simp) _).setCell (p := ⟨w.heap.size + 1, 1, none⟩) (by simp) _⟩
def isSt {α : Type} (q : Rs α) (S : ByteArray) (e : Nat) : Prop := match q with
 | .ok _ s => e = 0 ∧ S.data.toList = s ∧ S.size ≤ 1000000
 | .no x => e = x ∧ x ≠ 0
def nOf : Rs Nat → Nat
 | .ok n _ => n
 | .no _ => 0
def nextN {α : Type} (st : Rs α) : Rs Nat := st.bind fun _ s => numP s
theorem nOf_lt {α : Type} (st : Rs α) : nOf (nextN st) < 1099511627776 := by
 cases st with
 | no x => show (0 : Nat) < _; decide
 | ok v s =>
  show nOf (numP s) < _
  cases h : numP s with
  | no x => show (0 : Nat) < _; decide
  | ok n r => exact (numP_inv h).2
theorem refTakeS {α : Type} (st : Rs α) (S : ByteArray) (e : Nat) (w : World) (h : isSt st S e) :
  Calls Tryz.prog 24 #[rV S (e : Int)] w fun e' w' => ∃ (T : ByteArray) (e2 : Nat), e' = .returned (.tuple #[rV T (e2 : Int), .int .i64 (nOf (nextN st) : Nat)]) ∧ isSt (nextN st) T e2 ∧ Below w.heap.size w w' := by
 cases st with
 | no x =>
  obtain ⟨rfl, hx⟩ := h
  refine (refTake_stuck S e hx w).mono ?_
  rintro e' w' ⟨rfl, hb⟩
  exact ⟨S, e, rfl, ⟨rfl, hx⟩, hb⟩
 | ok v s =>
  obtain ⟨rfl, rfl, hsz⟩ := h
  refine (refTake_any S w hsz).mono ?_
  rintro e' w' ⟨hb, hp⟩
  show ∃ (T : ByteArray) (e2 : Nat), e' = .returned (.tuple #[rV T (e2 : Int), .int .i64 (nOf (numP S.data.toList) : Nat)]) ∧ isSt (numP S.data.toList) T e2 ∧ Below w.heap.size w w'
  cases hq : numP S.data.toList with
  | no x =>
   rw [hq] at hp
   obtain ⟨T, rfl⟩ := hp
   exact ⟨T, x, rfl, ⟨rfl, numP_nz _ _ hq⟩, hb⟩
  | ok n r =>
   rw [hq] at hp
   obtain ⟨T, hT, rfl⟩ := hp
   have h1 := numP_less hq
   exact ⟨T, 0, rfl, ⟨rfl, hT, by rw [bytes_len, hT]; rw [len_toList] at h1; omega⟩, hb⟩
def spNext {α : Type} (st : Rs α) (f : Nat) : Sp := (f + nOf (nextN st), f + nOf (nextN st) + nOf (nextN (nextN st)))
theorem isSt_span {α : Type} (st : Rs α) (f : Nat) (T : ByteArray) (e : Nat) (h : isSt (nextN (nextN st)) T e) : isSt (st.bind fun _ s => apP f s) T e ∧ ∀ v s, (st.bind fun _ s => apP f s) = .ok v s → v = spNext st f := by
 cases st with
 | no x => exact ⟨h, fun v s hh => by cases hh⟩
 | ok u s =>
  have e1 : nextN (.ok u s : Rs α) = numP s := rfl
  show isSt (apP f s) T e ∧ ∀ v r, apP f s = .ok v r → v = spNext (.ok u s) f
  unfold spNext
  rw [e1] at h ⊢
  unfold apP
  cases h1 : numP s with
  | no x => rw [h1] at h; exact ⟨h, fun v r hh => by cases hh⟩
  | ok n r =>
   rw [h1] at h
   have e2 : nextN (.ok n r : Rs Nat) = numP r := rfl
   rw [e2] at h ⊢
   show isSt ((numP r).bind fun y r => .ok (f + n, f + n + y) r) T e ∧ ∀ v s, ((numP r).bind fun y r => .ok (f + n, f + n + y) r) = .ok v s → v = (f + nOf (.ok n r), f + nOf (.ok n r) + nOf (numP r))
   cases h2 : numP r with
   | no x => rw [h2] at h; exact ⟨h, fun v r hh => by cases hh⟩
   | ok m r2 =>
    rw [h2] at h
    exact ⟨h, fun v s hh => by cases hh; rfl⟩
structure Bx (w : World) (o1 o2 : Obj) (S : ByteArray) (e : Nat) (W : World) : Prop where
 r0 : W.heap[w.heap.size]? = some (.cells #[.string S, .int .i64 (e : Int)] 66 (0, 0))
 r1 : W.heap[w.heap.size + 1]? = some o1
 r2 : W.heap[w.heap.size + 1 + 1]? = some o2
 below : Below w.heap.size w W
theorem Bx.new (w : World) (o1 o2 : Obj) (S : ByteArray) (e : Nat) : Bx w o1 o2 S e (((w.alloc (.cells #[.string S, .int .i64 (e : Int)] 66)).alloc o1).alloc o2) :=
  ⟨(Below.heap_alloc _ _ _ (by simp; omega)).trans (heap_alloc2_old w _ _), (Below.heap_alloc _ _ _ (by simp)).trans (heap_alloc2_new w _ _), by
    have := heap_alloc_new ((w.alloc (.cells #[.string S, .int .i64 (e : Int)] 66)).alloc o1) o2
    simp only [World.size_alloc] at this
    exact this, (((Below.refl _ _).alloc (Nat.le_refl _) _).alloc (by simp) _).alloc (by simp; omega) _⟩
theorem Bx.lt {w : World} {o1 o2 : Obj} {S : ByteArray} {e : Nat} {W : World} (h : Bx w o1 o2 S e W) : w.heap.size + 1 + 1 < W.heap.size := blk_lt h.r2
theorem Bx.keep {w : World} {o1 o2 : Obj} {S : ByteArray} {e : Nat} {W W' : World} (h : Bx w o1 o2 S e W) (hb : Below W.heap.size W W') : Bx w o1 o2 S e W' :=
 have hz := h.lt
 ⟨(hb.block _ (by omega)).trans h.r0, (hb.block _ (by omega)).trans h.r1, (hb.block _ (by omega)).trans h.r2, h.below.trans (hb.mono h.below.size)⟩
theorem Bx.set {w : World} {o1 o2 : Obj} {S : ByteArray} {e : Nat} {W : World} (h : Bx w o1 o2 S e W) (T : ByteArray) (e2 : Nat) : Bx w o1 o2 T e2 ((W.setCell ⟨w.heap.size, 0, none⟩ (.string T)).setCell ⟨w.heap.size, 1, none⟩ (.int .i64 (e2 : Int))) :=
 ⟨two_set1 _ (two_set0 _ h.r0), other_set _ (other_set _ h.r1 (by omega)) (by omega), other_set _ (other_set _ h.r2 (by omega)) (by omega), (h.below.setCell (p := ⟨w.heap.size, 0, none⟩) (Nat.le_refl _) _).setCell (p := ⟨w.heap.size, 1, none⟩) (Nat.le_refl _) _⟩
theorem Bx.err {w : World} {o1 o2 : Obj} {S : ByteArray} {e : Nat} {W : World} (h : Bx w o1 o2 S e W) (e2 : Nat) : Bx w o1 o2 S e2 (W.setCell ⟨w.heap.size, 1, none⟩ (.int .i64 (e2 : Int))) :=
 ⟨two_set1 _ h.r0, other_set _ h.r1 (by omega), other_set _ h.r2 (by omega), h.below.setCell (p := ⟨w.heap.size, 1, none⟩) (Nat.le_refl _) _⟩
set_option maxRecDepth 100000 in
set_option maxHeartbeats 4000000 in
theorem refSpanS {α : Type} (st : Rs α) (S : ByteArray) (e f : Nat) (w : World) (h : isSt st S e) (hf : f ≤ 1152921504606846976) :
  Calls Tryz.prog 49 #[rV S (e : Int), .int .i64 (f : Int)] w fun e' w' => ∃ (T : ByteArray) (e2 : Nat), e' = .returned (.tuple #[rV T (e2 : Int), .agg #[.int .i64 ((spNext st f).1 : Nat), .int .i64 ((spNext st f).2 : Nat)]]) ∧ isSt (st.bind fun _ s => apP f s) T e2 ∧ Below w.heap.size w w' := by
 have HT1 := Lib.hid (fun W => refTakeS st S e W h)
 have HT2 := Lib.hid (fun T e2 W (h : isSt (nextN st) T e2) => refTakeS (nextN st) T e2 W h)
 have hx := nOf_lt st
 have hy := nOf_lt (nextN st)
 have HSp := Lib.hid (fun T e (h : isSt (nextN (nextN st)) T e) => (isSt_span st f T e h).1)
 obtain ⟨x, hxe⟩ : ∃ x, x = nOf (nextN st) := ⟨_, rfl⟩
 obtain ⟨y, hye⟩ : ∃ y, y = nOf (nextN (nextN st)) := ⟨_, rfl⟩
 unfold spNext
 rw [← hxe] at hx HT1
 rw [← hye] at hy HT2
 rw [← hxe, ← hye]
 obtain ⟨X, hX⟩ : ∃ X, X = ((w.alloc (.cells #[.string S, .int .i64 (e : Int)] 66)).alloc (.cells #[.string ⟨#[]⟩, .int .i64 0] 66)).alloc (.cells #[.int .i64 0, .int .i64 0] 27) := ⟨_, rfl⟩
 have HX : Hid (Bx w (.cells #[.string ⟨#[]⟩, .int .i64 0] 66) (.cells #[.int .i64 0, .int .i64 0] 27) S e X) := by unfold Hid; rw [hX]; exact Bx.new w _ _ S e
 obtain ⟨b0, hb0⟩ : ∃ b0, b0 = w.heap.size := ⟨_, rfl⟩
 obtain ⟨fx, hfx⟩ : ∃ fx, fx = f + x := ⟨_, rfl⟩
 have efx : (f : Int) + (x : Int) = (fx : Int) := by omega
 obtain ⟨fy, hfy⟩ : ∃ fy, fy = fx + y := ⟨_, rfl⟩
 have efy : (fx : Int) + (y : Int) = (fy : Int) := by omega
 rw [← hfx, ← hfy]
 have hfyl : fy ≤ 1152923703630102528 := by omega
 unfold rV at HT1 HT2 ⊢
 clear h hxe hye hfx hfy hx hy
 go_enter Tryz.func49, Tryz.ntmps49
 go_upto_region 1 with fail
 rw [← hX]
 clear hX
 obtain ⟨c0, c1⟩ := two_cells HX.out.r0
 obtain ⟨f0, f1⟩ := two_frozen HX.out.r0
 go_wp2_with fail
 with_reducible refine (HT1.out _).mono ?_
 rintro e' w2 ⟨T1, e1, rfl, hs1, hb1⟩
 have HX2 := Lib.hid (HX.out.keep hb1)
 have HS1 := Lib.hid hs1
 clear hb1 c0 c1 f0 f1 hs1 HT1
 obtain ⟨c0, c1⟩ := two_cells HX2.out.r0
 obtain ⟨f0, f1⟩ := two_frozen HX2.out.r0
 go_upto_region 2 with fail
 have HX3 := Lib.hid (HX2.out.set T1 e1)
 obtain ⟨W3, hW3⟩ : ∃ W3, W3 = ((w2.setCell ⟨w.heap.size, 0, none⟩ (.string T1)).setCell ⟨w.heap.size, 1, none⟩ (.int .i64 (e1 : Int))) := ⟨_, rfl⟩
 rw [← hW3] at HX3 ⊢
 clear hW3 c0 c1 f0 f1
 obtain ⟨c0, c1⟩ := two_cells HX3.out.r0
 obtain ⟨f0, f1⟩ := two_frozen HX3.out.r0
 go_wp2_with fail
 with_reducible refine (HT2.out _ _ _ HS1.out).mono ?_
 rintro e' w4 ⟨T2, e2, rfl, hs2, hb2⟩
 have HX4 := Lib.hid (HX3.out.keep hb2)
 have HS2 := Lib.hid (HSp.out _ _ hs2)
 clear hb2 c0 c1 f0 f1 hs2 HT2
 obtain ⟨c0, c1⟩ := two_cells HX4.out.r0
 obtain ⟨f0, f1⟩ := two_frozen HX4.out.r0
 go_upto_region 3 with fail
 have HX5 := Lib.hid (HX4.out.set T2 e2)
 obtain ⟨W5, hW5⟩ : ∃ W5, W5 = ((w4.setCell ⟨w.heap.size, 0, none⟩ (.string T2)).setCell ⟨w.heap.size, 1, none⟩ (.int .i64 (e2 : Int))) := ⟨_, rfl⟩
 rw [← hW5] at HX5 ⊢
 clear hW5 c0 c1 f0 f1
 obtain ⟨c0, c1⟩ := two_cells HX5.out.r0
 obtain ⟨d0, d1⟩ := two_frozen HX5.out.r1
 obtain ⟨g0, g1⟩ := two_frozen HX5.out.r2
 obtain ⟨d2, d3⟩ := two_cells HX5.out.r1
 obtain ⟨g2, g3⟩ := two_cells HX5.out.r2
 go_wp2_with fail
 (try simp only [Exit.inBlock, Exit.then])
 have hq1 := two_set1 (.int .i64 (e2 : Int)) (two_set0 (.string T2) HX5.out.r1)
 have hq2 := other_set (i := 1) (B' := w.heap.size + 1 + 1) (.int .i64 (fy : Int)) (other_set (i := 0) (B' := w.heap.size + 1 + 1) (.int .i64 (fx : Int)) hq1 (by omega)) (by omega)
 have hp2 := two_set1 (.int .i64 (fy : Int)) (two_set0 (.int .i64 (fx : Int)) (other_set (i := 1) (B' := w.heap.size + 1) (.int .i64 (e2 : Int)) (other_set (i := 0) (B' := w.heap.size + 1) (.string T2) HX5.out.r2 (by omega)) (by omega)))
 obtain ⟨r0, r1⟩ := two_cells hq2
 obtain ⟨s0, s1⟩ := two_cells hp2
 refine bodyPost_ret (v := .tuple #[.agg #[.string T2, .int .i64 (e2 : Int)], .agg #[.int .i64 (fx : Int), .int .i64 (fy : Int)]]) (by simp [results, Tryz.results49, go_sem, r0, r1, s0, s1]) rfl ?_
 exact ⟨T2, e2, rfl, HS2.out, (((HX5.out.below.setCell (p := ⟨w.heap.size + 1, 0, none⟩) (by simp) _).setCell (p := ⟨w.heap.size + 1, 1, none⟩) (by simp) _).setCell (p := ⟨w.heap.size + 1 + 1, 0, none⟩) (by simp; omega) _).setCell (p := ⟨w.heap.size + 1 + 1, 1, none⟩) (by simp; omega) _⟩
theorem treeP_same : ∀ (d a : Nat) (s : List UInt8) (t : Tr) (X : List UInt8), treeR d a s = .ok t X → treeP d a s = .ok t X
 | 0, a, s, t, X, h => by
  obtain ⟨k, s1, h1, h⟩ := bind_ok h
  cases h
 | d + 1, a, s, t, X, h => by
  obtain ⟨k, s1, h1, h⟩ := bind_ok h
  show (numP s).bind _ = _
  rw [h1]
  show (if 2 < k then _ else _) = _
  by_cases hk : 2 < k
  ·rw [if_pos hk] at h; cases h
  ·rw [if_neg hk] at h ⊢
   exact restP_same (treeP_same d) a k s1 t X h
def kindN {α : Type} (d : Nat) (st : Rs α) : Rs Nat := (nextN st).bind fun k s => if 2 < k ∨ d = 0 then .no 11 else .ok k s
def treeQ {α : Type} (d a : Nat) (st : Rs α) : Rs Tr := st.bind fun _ s => treeR d a s
theorem no_conv {α β : Type} {y x : Nat} (h : (Rs.no y : Rs α) = .no x) : (Rs.no y : Rs β) = .no x := by cases h; rfl
theorem treeQ_err {α : Type} {d a : Nat} {st : Rs α} {x : Nat} (h : nextN (nextN (kindN d st)) = .no x) : treeQ d a st = .no x := by
 unfold treeQ
 cases st with
 | no y => exact no_conv (α := Nat) h
 | ok v s =>
  show treeR d a s = .no x
  have e1 : kindN d (.ok v s : Rs α) = (numP s).bind fun k s => if 2 < k ∨ d = 0 then .no 11 else .ok k s := rfl
  rw [e1] at h
  cases d with
  | zero =>
   show (numP s).bind _ = _
   cases h1 : numP s with
   | no y => rw [h1] at h; exact no_conv (α := Nat) h
   | ok k s1 =>
    rw [h1] at h
    replace h : nextN (nextN (if 2 < k ∨ 0 = 0 then (Rs.no 11 : Rs Nat) else .ok k s1)) = .no x := h
    rw [if_pos (.inr rfl)] at h
    exact no_conv (α := Nat) h
  | succ d =>
   show (numP s).bind _ = _
   cases h1 : numP s with
   | no y => rw [h1] at h; exact no_conv (α := Nat) h
   | ok k s1 =>
    rw [h1] at h
    replace h : nextN (nextN (if 2 < k ∨ d + 1 = 0 then (Rs.no 11 : Rs Nat) else .ok k s1)) = .no x := h
    show (if 2 < k then _ else _) = _
    by_cases hk : 2 < k
    ·rw [if_pos (.inl hk)] at h
     rw [if_pos hk]
     exact no_conv (α := Nat) h
    ·rw [if_neg (fun hh => hh.elim hk (by omega))] at h
     rw [if_neg hk]
     show (numP s1).bind _ = _
     have h' : (numP s1).bind (fun _ s => numP s) = .no x := h
     cases h2 : numP s1 with
     | no y => rw [h2] at h'; cases h'; rfl
     | ok m s2 =>
      rw [h2] at h'
      have h'' : numP s2 = .no x := h'
      show (numP s2).bind _ = _
      rw [h'']
      rfl
theorem treeQ_ok {α : Type} {d a : Nat} {st : Rs α} {n : Nat} {s3 : List UInt8} (h : nextN (nextN (kindN d st)) = .ok n s3) : ∃ (d' k hh bb : Nat), d = d' + 1 ∧ k ≤ 2 ∧ nOf (nextN st) = k ∧ nOf (nextN (kindN d st)) = hh ∧ nOf (nextN (nextN (kindN d st))) = bb ∧
  (∀ b : Nat, (∀ v s, st = .ok v s → a + s.length * 1099511627776 ≤ b) → a + hh + bb + s3.length * 1099511627776 ≤ b) ∧
  treeQ d a st = if k = 1 then (numP s3).bind fun n s => if 1000 < n then .no 11 else (rkidsP (treeR d') n (a + hh) s).bind fun q s => (numP s).bind fun x s => (numP s).bind fun y s =>
   .ok (.mk 1 (a, a + hh) (a + hh, a + hh + bb) q.1 q.2.1 (q.2.2 + x, q.2.2 + x + y)) s
  else if k = 2 then (treeR d' (a + hh) s3).bind fun q s => .ok (.mk 2 (a, a + hh) (a + hh, a + hh + bb) [q] [] (0, 0)) s
  else .ok (leafT a (a + hh) (a + hh + bb)) s3 := by
 cases st with
 | no y => cases h
 | ok v s =>
  have e1 : kindN d (.ok v s : Rs α) = (numP s).bind fun k s => if 2 < k ∨ d = 0 then .no 11 else .ok k s := rfl
  have e0 : nextN (.ok v s : Rs α) = numP s := rfl
  have e2 : treeQ d a (.ok v s : Rs α) = treeR d a s := rfl
  rw [e1] at h
  rw [e2, e1, e0]
  cases h1 : numP s with
  | no y => rw [h1] at h; cases h
  | ok k s1 =>
   rw [h1] at h
   simp only [Rs.bind] at h ⊢
   by_cases hk : 2 < k ∨ d = 0
   ·rw [if_pos hk] at h; cases h
   ·rw [if_neg hk] at h ⊢
    obtain ⟨d', rfl⟩ : ∃ d', d = d' + 1 := ⟨d - 1, by omega⟩
    obtain ⟨hh, s2, h2, h3⟩ := bind_ok h
    obtain ⟨hh', s2', h4, h5⟩ := bind_ok h2
    cases h4
    have e3 : nextN (.ok k s1 : Rs Nat) = numP s1 := rfl
    rw [e3, h5]
    have e4 : nextN (.ok hh s2 : Rs Nat) = numP s2 := rfl
    rw [e4, h3]
    refine ⟨d', k, hh, n, rfl, by omega, rfl, rfl, rfl, fun b hb => ?_, ?_⟩
    ·have b0 := hb v s rfl
     have b1 := (numP_bud h1).1
     have b2 := (numP_bud h5).1
     have b3 := (numP_bud h3).1
     omega
    ·show (numP s).bind _ = _
     rw [h1]
     show (if 2 < k then _ else _) = _
     rw [if_neg (by omega)]
     show (numP s1).bind _ = _
     rw [h5]
     show (numP s2).bind _ = _
     rw [h3]
     rfl
def getPostR (q : Rs Tr) (a : Nat) (w : World) (e : Ending) (w' : World) : Prop := Below w.heap.size w w' ∧ ∃ (T : ByteArray) (e2 : Nat) (k0 a1 a2 a3 : Int) (a4 : Nat) (ka : Option Addr) (kn kc : Nat) (ca : Option Addr) (cn cc : Nat) (a7 a8 : Int),
 e = .returned (.tuple #[rV T (e2 : Int), .agg #[.int .i64 k0, .int .i64 a1, .int .i64 a2, .int .i64 a3, .int .i64 (a4 : Int), .slice ka kn kc, .slice ca cn cc, .int .i64 a7, .int .i64 a8]]) ∧ isSt q T e2 ∧ a4 ≤ a + 2199023255552 ∧
 ∀ t r, q = .ok t r → refAt (fun k => w.heap.size ≤ k) w' t (.agg #[.int .i64 k0, .int .i64 a1, .int .i64 a2, .int .i64 a3, .int .i64 (a4 : Int), .slice ka kn kc, .slice ca cn cc, .int .i64 a7, .int .i64 a8])
def set9 (W : World) (g : Nat) (a0 a1 a2 a3 a4 a5 a6 a7 a8 : Value) : World := ((((((((W.setCell ⟨g, 0, none⟩ a0).setCell ⟨g, 1, none⟩ a1).setCell ⟨g, 2, none⟩ a2).setCell ⟨g, 3, none⟩ a3).setCell ⟨g, 4, none⟩ a4).setCell ⟨g, 5, none⟩ a5).setCell ⟨g, 6, none⟩ a6).setCell ⟨g, 7, none⟩ a7).setCell ⟨g, 8, none⟩ a8
theorem set9_heap {W : World} {g q : Nat} (a0 a1 a2 a3 a4 a5 a6 a7 a8 : Value) (hq : q ≠ g) : (set9 W g a0 a1 a2 a3 a4 a5 a6 a7 a8).heap[q]? = W.heap[q]? := heap_set9 hq
theorem set9_row {W : World} {g : Nat} {x0 x1 x2 x3 x4 x5 x6 x7 x8 : Value} (a0 a1 a2 a3 a4 a5 a6 a7 a8 : Value) {t : TypeId} (h : W.heap[g]? = some (.cells #[x0, x1, x2, x3, x4, x5, x6, x7, x8] t (0, 0))) : (set9 W g a0 a1 a2 a3 a4 a5 a6 a7 a8).heap[g]? = some (.cells #[a0, a1, a2, a3, a4, a5, a6, a7, a8] t (0, 0)) := row_set9 h
theorem set9_below {base : Nat} {w W : World} {g : Nat} (a0 a1 a2 a3 a4 a5 a6 a7 a8 : Value) (h : Below base w W) (hg : base ≤ g) : Below base w (set9 W g a0 a1 a2 a3 a4 a5 a6 a7 a8) := below_set9 h hg
theorem drew_heap (W : World) : W.drew.heap = W.heap := rfl
theorem drew_cell (W : World) (p : Addr) : W.drew.cell? p = W.cell? p := rfl
theorem nine_cells {W : World} {B : Nat} {a0 a1 a2 a3 a4 a5 a6 a7 a8 : Value} {t : TypeId} (h : W.heap[B]? = some (.cells #[a0, a1, a2, a3, a4, a5, a6, a7, a8] t (0, 0))) : W.cell? ⟨B, 0, none⟩ = some a0 ∧ W.cell? ⟨B, 1, none⟩ = some a1 ∧ W.cell? ⟨B, 2, none⟩ = some a2 ∧ W.cell? ⟨B, 3, none⟩ = some a3 ∧ W.cell? ⟨B, 4, none⟩ = some a4 ∧ W.cell? ⟨B, 5, none⟩ = some a5 ∧ W.cell? ⟨B, 6, none⟩ = some a6 ∧ W.cell? ⟨B, 7, none⟩ = some a7 ∧ W.cell? ⟨B, 8, none⟩ = some a8 := by simp [World.cell?, h]
theorem Bx.far {w : World} {o1 o2 : Obj} {S : ByteArray} {e : Nat} {W : World} {p : Addr} {v : Value} (h : Bx w o1 o2 S e W) (hp : w.heap.size + 1 + 1 < p.block) : Bx w o1 o2 S e (W.setCell p v) :=
 ⟨(Below.heap_setCell _ _ _ _ (by omega)).trans h.r0, (Below.heap_setCell _ _ _ _ (by omega)).trans h.r1, (Below.heap_setCell _ _ _ _ (by omega)).trans h.r2, h.below.setCell (by omega) _⟩
theorem Bx.far9 {w : World} {o1 o2 : Obj} {S : ByteArray} {e : Nat} {W : World} {g : Nat} (a0 a1 a2 a3 a4 a5 a6 a7 a8 : Value) (h : Bx w o1 o2 S e W) (hp : w.heap.size + 1 + 1 < g) : Bx w o1 o2 S e (set9 W g a0 a1 a2 a3 a4 a5 a6 a7 a8) :=
 ⟨(set9_heap a0 a1 a2 a3 a4 a5 a6 a7 a8 (by omega)).trans h.r0, (set9_heap a0 a1 a2 a3 a4 a5 a6 a7 a8 (by omega)).trans h.r1, (set9_heap a0 a1 a2 a3 a4 a5 a6 a7 a8 (by omega)).trans h.r2, set9_below a0 a1 a2 a3 a4 a5 a6 a7 a8 h.below (by omega)⟩
theorem Bx.grown {w : World} {o1 o2 : Obj} {S : ByteArray} {e : Nat} {W W' : World} {row : Option Nat} (h : Bx w o1 o2 S e W) (g : W.grownBy W' row) (hr : ∀ k, row = some k → w.heap.size + 1 + 1 < k) : Bx w o1 o2 S e W' :=
 have hz := h.lt
 ⟨(g.block _ (by omega) (fun e => by have := hr _ e.symm; omega)).trans h.r0, (g.block _ (by omega) (fun e => by have := hr _ e.symm; omega)).trans h.r1, (g.block _ (by omega) (fun e => by have := hr _ e.symm; omega)).trans h.r2, h.below.grown g h.below.size (fun k e => by have := hr k e; omega)⟩
theorem refKs_last {S : Nat → Prop} {W : World} : ∀ {ts : List Tr} {us : List Value} {t : Tr} {u : Value}, refKs S W (ts ++ [t]) (us ++ [u]) → refAt S W t u := fun {ts us t u} h => by
 have hl := refKs_len h
 have hl2 : us.length = ts.length := by simpa using hl
 obtain ⟨x, h1, h2⟩ := refKs_get h ts.length (by simp)
 rw [← hl2, List.getElem?_append_right (Nat.le_refl _)] at h1
 simp at h1
 rw [List.getElem_append_right (Nat.le_refl _)] at h2
 simp at h2
 rw [h1]
 exact h2
theorem isSt_map {α β : Type} {q : Rs α} {T : ByteArray} {e : Nat} (g : α → β) (h : isSt q T e) : isSt (q.bind fun v s => .ok (g v) s) T e := by
 cases q with
 | no x => exact h
 | ok v s => exact h
def outW (b : Nat) (V : World) (T : ByteArray) (e : Int) (a0 a1 a2 a3 a4 a5 a6 a7 a8 : Value) : World := (set9 ((V.setCell ⟨b, 0, none⟩ (.string T)).setCell ⟨b, 1, none⟩ (.int .i64 e)) (b + 1) a0 a1 a2 a3 a4 a5 a6 a7 a8).drew
theorem out_cells {b : Nat} {V : World} {T : ByteArray} {e : Int} {a0 a1 a2 a3 a4 a5 a6 a7 a8 x y : Value} {x0 x1 x2 x3 x4 x5 x6 x7 x8 : Value} {t t2 : TypeId} (h1 : V.heap[b]? = some (.cells #[x, y] t (0, 0))) (h2 : V.heap[b + 1]? = some (.cells #[x0, x1, x2, x3, x4, x5, x6, x7, x8] t2 (0, 0))) :
  ((outW b V T e a0 a1 a2 a3 a4 a5 a6 a7 a8).cell? ⟨b, 0, none⟩ = some (.string T) ∧ (outW b V T e a0 a1 a2 a3 a4 a5 a6 a7 a8).cell? ⟨b, 1, none⟩ = some (.int .i64 e)) ∧
  ((outW b V T e a0 a1 a2 a3 a4 a5 a6 a7 a8).cell? ⟨b + 1, 0, none⟩ = some a0 ∧ (outW b V T e a0 a1 a2 a3 a4 a5 a6 a7 a8).cell? ⟨b + 1, 1, none⟩ = some a1 ∧ (outW b V T e a0 a1 a2 a3 a4 a5 a6 a7 a8).cell? ⟨b + 1, 2, none⟩ = some a2 ∧ (outW b V T e a0 a1 a2 a3 a4 a5 a6 a7 a8).cell? ⟨b + 1, 3, none⟩ = some a3 ∧ (outW b V T e a0 a1 a2 a3 a4 a5 a6 a7 a8).cell? ⟨b + 1, 4, none⟩ = some a4 ∧ (outW b V T e a0 a1 a2 a3 a4 a5 a6 a7 a8).cell? ⟨b + 1, 5, none⟩ = some a5 ∧ (outW b V T e a0 a1 a2 a3 a4 a5 a6 a7 a8).cell? ⟨b + 1, 6, none⟩ = some a6 ∧ (outW b V T e a0 a1 a2 a3 a4 a5 a6 a7 a8).cell? ⟨b + 1, 7, none⟩ = some a7 ∧ (outW b V T e a0 a1 a2 a3 a4 a5 a6 a7 a8).cell? ⟨b + 1, 8, none⟩ = some a8) := by
 unfold outW
 have g1 := two_set1 (.int .i64 e) (two_set0 (.string T) h1)
 have g2 := other_set (i := 1) (B' := b) (.int .i64 e) (other_set (i := 0) (B' := b) (.string T) h2 (by omega)) (by omega)
 obtain ⟨W1, hW1⟩ : ∃ W1, W1 = (V.setCell ⟨b, 0, none⟩ (.string T)).setCell ⟨b, 1, none⟩ (.int .i64 e) := ⟨_, rfl⟩
 rw [← hW1] at g1 g2 ⊢
 have k1 := (set9_heap a0 a1 a2 a3 a4 a5 a6 a7 a8 (show b ≠ b + 1 by omega)).trans g1
 have k2 := set9_row a0 a1 a2 a3 a4 a5 a6 a7 a8 g2
 obtain ⟨W2, hW2⟩ : ∃ W2, W2 = set9 W1 (b + 1) a0 a1 a2 a3 a4 a5 a6 a7 a8 := ⟨_, rfl⟩
 rw [← hW2] at k1 k2 ⊢
 simp only [drew_cell]
 exact ⟨two_cells k1, nine_cells k2⟩
theorem out_below {w V : World} {b : Nat} {T : ByteArray} {e : Int} {a0 a1 a2 a3 a4 a5 a6 a7 a8 : Value} (h : Below w.heap.size w V) (hb : w.heap.size ≤ b) : Below w.heap.size w (outW b V T e a0 a1 a2 a3 a4 a5 a6 a7 a8) := by
 have h1 := (h.setCell (p := ⟨b, 0, none⟩) hb (.string T)).setCell (p := ⟨b, 1, none⟩) hb (.int .i64 e)
 unfold outW
 obtain ⟨W1, hW1⟩ : ∃ W1, W1 = (V.setCell ⟨b, 0, none⟩ (.string T)).setCell ⟨b, 1, none⟩ (.int .i64 e) := ⟨_, rfl⟩
 rw [← hW1] at h1 ⊢
 have h2 := set9_below (g := b + 1) a0 a1 a2 a3 a4 a5 a6 a7 a8 h1 (by omega)
 obtain ⟨W2, hW2⟩ : ∃ W2, W2 = set9 W1 (b + 1) a0 a1 a2 a3 a4 a5 a6 a7 a8 := ⟨_, rfl⟩
 rw [← hW2] at h2 ⊢
 exact h2.drew
theorem out_heap {V : World} {b q : Nat} {T : ByteArray} {e : Int} {a0 a1 a2 a3 a4 a5 a6 a7 a8 : Value} (h1 : q ≠ b) (h2 : q ≠ b + 1) : (outW b V T e a0 a1 a2 a3 a4 a5 a6 a7 a8).heap[q]? = V.heap[q]? := by
 unfold outW
 rw [drew_heap, set9_heap a0 a1 a2 a3 a4 a5 a6 a7 a8 h2]
 exact (Below.heap_setCell _ _ _ _ h1).trans (Below.heap_setCell _ _ _ _ h1)
theorem refLeaf_at (S : Nat → Prop) (W : World) (f h t : Nat) : refAt S W (leafT f h t) (partV 0 (f, h) (h, t) (.slice none 0 0) (.slice none 0 0) (0, 0)) := by
 unfold leafT refAt
 exact ⟨none, 0, 0, none, 0, 0, [], rfl, ownS_nil _ _ _ _, ownS_nil _ _ _ _, refKs_nil _ _⟩
theorem bind_assoc {α β γ : Type} (r : Rs α) (f : α → List UInt8 → Rs β) (g : β → List UInt8 → Rs γ) : (r.bind f).bind g = r.bind fun v s => (f v s).bind g := by cases r <;> rfl
theorem rkidsP_snoc (F : Nat → List UInt8 → Rs Tr) : ∀ (n a : Nat) (s : List UInt8), rkidsP F (n + 1) a s = (rkidsP F n a s).bind fun q s => (apP q.2.2 s).bind fun c s => (F c.2 s).bind fun k s => .ok (q.1 ++ [k], q.2.1 ++ [c], k.bd.2) s
 | 0, a, s => by
  rw [rkidsP_one]
  show _ = (apP a s).bind fun c s => (F c.2 s).bind fun k s => .ok ([] ++ [k], [] ++ [c], k.bd.2) s
  rfl
 | n + 1, a, s => by
  rw [rkidsP_one (n := n + 1), rkidsP_one (n := n)]
  simp only [bind_assoc]
  congr 1
  funext c s1
  congr 1
  funext k s2
  rw [rkidsP_snoc F n k.bd.2 s2]
  simp only [bind_assoc]
  rfl
def cntN (s : List UInt8) : Rs Nat := (numP s).bind fun n s => if 1000 < n then .no 11 else .ok n s
def partK (F : Nat → List UInt8 → Rs Tr) (a i : Nat) (c : Rs Nat) : Rs (List Tr × List Sp × Nat) := c.bind fun _ s => rkidsP F i a s
theorem partK_snoc (F : Nat → List UInt8 → Rs Tr) (a i : Nat) (c : Rs Nat) : partK F a (i + 1) c = (partK F a i c).bind fun q s => (apP q.2.2 s).bind fun c s => (F c.2 s).bind fun k s => .ok (q.1 ++ [k], q.2.1 ++ [c], k.bd.2) s := by
 unfold partK
 rw [bind_assoc]
 congr 1
 funext v s
 exact rkidsP_snoc F i a s
theorem partK_err {F : Nat → List UInt8 → Rs Tr} {a i x : Nat} {c : Rs Nat} (h : partK F a i c = .no x) : ∀ n, i ≤ n → partK F a n c = .no x := fun n hn => by
  induction n with
  | zero => obtain rfl : i = 0 := by omega
            exact h
  | succ n ih =>
    by_cases hi : i = n + 1
    · subst hi; exact h
    · rw [partK_snoc, ih (by omega)]
      rfl
theorem cntN_le {s r : List UInt8} {n : Nat} (h : cntN s = .ok n r) : n ≤ 1000 ∧ nOf (numP s) = n ∧ r.length < s.length := by
 obtain ⟨m, s1, h1, h⟩ := bind_ok h
 by_cases hm : 1000 < m
 ·rw [if_pos hm] at h; cases h
 ·rw [if_neg hm] at h
  cases h
  rw [h1]
  exact ⟨by omega, rfl, numP_less h1⟩
theorem multi_eq (F : Nat → List UInt8 → Rs Tr) (a ah ab : Nat) (s3 : List UInt8) : ((numP s3).bind fun n s => if 1000 < n then (.no 11 : Rs Tr) else (rkidsP F n ah s).bind fun q s => (numP s).bind fun x s => (numP s).bind fun y s => .ok (.mk 1 (a, ah) (ah, ab) q.1 q.2.1 (q.2.2 + x, q.2.2 + x + y)) s) =
  (partK F ah (nOf (numP s3)) (cntN s3)).bind fun q s => (apP q.2.2 s).bind fun e s => .ok (.mk 1 (a, ah) (ah, ab) q.1 q.2.1 e) s := by
 unfold partK cntN
 cases numP s3 with
 | no x => rfl
 | ok n s =>
  show (if 1000 < n then _ else _) = _
  simp only [bind_assoc, apP]
  show _ = (if 1000 < n then (.no 11 : Rs Nat) else .ok n s).bind _
  by_cases h : 1000 < n
  ·rw [if_pos h, if_pos h]; rfl
  ·rw [if_neg h, if_neg h]; rfl
theorem own_is_slice {W : World} {base size n : Nat} {ty : TypeId} {v : Value} {xs : List Value} (h : W.ownsRow base ty size v n xs) : ∃ a n c, v = .slice a n c := by
 rcases h.2 with ⟨rfl, _⟩ | ⟨g, cap, cur, rfl, _⟩
 ·exact ⟨_, _, _, rfl⟩
 ·exact ⟨_, _, _, rfl⟩
theorem spNext_ok {α : Type} {st : Rs α} {f : Nat} {v : Sp} {s : List UInt8} (h : (st.bind fun _ s => apP f s) = .ok v s) : v = spNext st f := by
 obtain ⟨u, s1, h1, h⟩ := bind_ok h
 obtain ⟨x, s2, h2, h⟩ := bind_ok h
 obtain ⟨y, s3, h3, h⟩ := bind_ok h
 cases h
 subst h1
 have e1 : nextN (.ok u s1 : Rs α) = numP s1 := rfl
 have e2 : nextN (.ok x s2 : Rs Nat) = numP s2 := rfl
 unfold spNext
 rw [e1, h2, e2, h3]
 rfl
structure Lq (V : World) (R p : Nat) (kd h1 h2 b1 b2 : Int) (cs : List Sp) (us : List Value) (pv cv : Value) (W : World) : Prop where
 hp : W.heap[p]? = some (rfO kd h1 h2 b1 b2 pv cv 0 0)
 row : W.ownsRow V.heap.size 40 9 pv us.length (us.flatMap partCells)
 cut : W.ownsRow V.heap.size 27 2 cv cs.length (spCells cs)
 dj : ∀ q, pv.ownBlock = some q → ¬ cv.ownBlock = some q
 k2 : K2 R p V W
def Lz (V : World) (pv cv : Value) (k : Nat) : Prop := V.heap.size ≤ k ∧ ¬ pv.ownBlock = some k ∧ ¬ cv.ownBlock = some k
section
variable {V : World} {R p : Nat} {kd h1 h2 b1 b2 : Int} {cs : List Sp} {us : List Value} {pv cv : Value} {W W' : World}
theorem Lq.below (h : Lq V R p kd h1 h2 b1 b2 cs us pv cv W) (hp : p < V.heap.size) (g : Below W.heap.size W W') : Lq V R p kd h1 h2 b1 b2 cs us pv cv W' :=
 have hz := h.k2.size
 ⟨(g.block p (by omega)).trans h.hp, ownsRow_below h.row g, ownsRow_below h.cut g, h.dj, h.k2.below g⟩
theorem Lq.gr (h : Lq V R p kd h1 h2 b1 b2 cs us pv cv W) (hR : R < V.heap.size) (hp : p < V.heap.size) (hRp : R ≠ p) (g : Gr R W W') : Lq V R p kd h1 h2 b1 b2 cs us pv cv W' :=
 have hz := h.k2.size
 have hk : K2 R p W W' := (K2.refl R p W).gr g
 ⟨(g.block p (by omega) (by intro e; exact hRp (Option.some.inj e).symm)).trans h.hp, own_k2 h.row hk hR hp, own_k2 h.cut hk hR hp, h.dj, h.k2.gr g⟩
theorem Lz.gr {ts : List Tr} (h : refKs (Lz V pv cv) W ts us) (hR : R < V.heap.size) (g : Gr R W W') : refKs (Lz V pv cv) W' ts us :=
 refKs.keep (fun q hq hz => ⟨g.block q hz (by intro e; have := Option.some.inj e; have := hq.1; omega), hq⟩) _ _ h
theorem own_row {base size n : Nat} {ty : TypeId} {v u : Value} {xs : List Value} (h : W.ownsRow base ty size v n xs) (g : W.grownBy W' u.ownBlock) (hd : ∀ q, v.ownBlock = some q → ¬ u.ownBlock = some q) : W'.ownsRow base ty size v n xs := by
 have hlt := h.lt
 refine ⟨h.1, ?_⟩
 rcases h.2 with h2 | ⟨g', cap, cur, rfl, hg, hh, r⟩
 ·exact .inl h2
 ·have hgo : (Value.slice (some ⟨g', 0, none⟩) n cap).ownBlock = some g' := rfl
  exact .inr ⟨g', cap, cur, rfl, hg, (g.block g' (hlt g' hgo).2 (fun e => hd g' hgo e.symm)).trans hh, r⟩
theorem Lq.cutapp {g13 cap13 n : Nat} {w13 : World} {c : Sp} {ts : List Tr} {us2 : List Value} (h : Lq V R p kd h1 h2 b1 b2 cs us pv cv W) (hp : p < V.heap.size) (hn : n = cs.length)
  (hown : w13.ownsRow V.heap.size 27 2 (.slice (some ⟨g13, 0, none⟩) (n + 1) cap13) (n + 1) (spCells cs ++ [.int .i64 (c.1 : Int), .int .i64 (c.2 : Int)])) (hgrow : W.grownBy w13 cv.ownBlock) (hor : cv.ownBlock = some g13 ∨ g13 = W.heap.size) :
  Lq V R p kd h1 h2 b1 b2 (cs ++ [c]) us pv (.slice (some ⟨g13, 0, none⟩) (n + 1) cap13) (w13.setCell ⟨p, 6, none⟩ (.slice (some ⟨g13, 0, none⟩) (n + 1) cap13)) ∧
  (refKs (Lz V pv cv) W ts us2 → refKs (Lz V pv (.slice (some ⟨g13, 0, none⟩) (n + 1) cap13)) (w13.setCell ⟨p, 6, none⟩ (.slice (some ⟨g13, 0, none⟩) (n + 1) cap13)) ts us2) := by
 have hz := h.k2.size
 have hob := h.cut.lt
 have hkb := h.row.lt
 have hgb : V.heap.size ≤ g13 := by
  rcases hor with e | e
  ·exact (hob _ e).1
  ·omega
 have hkr : ∀ q, q < W.heap.size → ¬ cv.ownBlock = some q → w13.heap[q]? = W.heap[q]? := fun q hq hc => hgrow.block q hq (fun e => hc e.symm)
 have hp13 : w13.heap[p]? = some (rfO kd h1 h2 b1 b2 pv cv 0 0) := (hkr p (by omega) (fun e => by have := hob _ e; omega)).trans h.hp
 have hdj : ∀ q, pv.ownBlock = some q → ¬ (Value.slice (some ⟨g13, 0, none⟩) (n + 1) cap13).ownBlock = some q := fun q hq e => by
  have hgq : g13 = q := Option.some.inj e
  rcases hor with e2 | e2
  ·exact h.dj q hq (by rw [e2, hgq])
  ·have := hkb q hq; omega
 refine ⟨⟨?_, ?_, ?_, hdj, ?_⟩, fun hk => ?_⟩
 ·unfold rfO at hp13
  exact row_set hp13
 ·exact ownsRow_setCell_below (a := ⟨p, 6, none⟩) (own_row h.row hgrow (fun q hq e => h.dj q hq e)) hp _
 ·have := ownsRow_setCell_below (a := ⟨p, 6, none⟩) hown hp (.slice (some ⟨g13, 0, none⟩) (n + 1) cap13)
  rw [spCells_snoc, List.length_append]
  rw [hn] at this ⊢
  exact this
 ·exact (h.k2.grown hgrow (fun q hq => (hob q hq).1)).set 6 _
 ·refine refKs.keep (fun q hq hqz => ⟨?_, hq.1, hq.2.1, fun e => ?_⟩) _ _ hk
  ·rw [Below.heap_setCell _ _ _ _ (show q ≠ p by have := hq.1; omega)]
   exact hkr q hqz hq.2.2
  ·have hgq : g13 = q := Option.some.inj e
   rcases hor with e2 | e2
   ·exact hq.2.2 (by rw [e2, hgq])
   ·omega
theorem Lq.kidapp {g13 cap13 n : Nat} {w13 : World} {u : Value} {ts : List Tr} {us2 : List Value} (h : Lq V R p kd h1 h2 b1 b2 cs us pv cv W) (hp : p < V.heap.size) (hn : n = us.length)
  (hown : w13.ownsRow V.heap.size 40 9 (.slice (some ⟨g13, 0, none⟩) (n + 1) cap13) (n + 1) (us.flatMap partCells ++ partCells u)) (hgrow : W.grownBy w13 pv.ownBlock) (hor : pv.ownBlock = some g13 ∨ g13 = W.heap.size) :
  Lq V R p kd h1 h2 b1 b2 cs (us ++ [u]) (.slice (some ⟨g13, 0, none⟩) (n + 1) cap13) cv (w13.setCell ⟨p, 5, none⟩ (.slice (some ⟨g13, 0, none⟩) (n + 1) cap13)) ∧
  (refKs (Lz V pv cv) W ts us2 → refKs (Lz V (.slice (some ⟨g13, 0, none⟩) (n + 1) cap13) cv) (w13.setCell ⟨p, 5, none⟩ (.slice (some ⟨g13, 0, none⟩) (n + 1) cap13)) ts us2) := by
 have hz := h.k2.size
 have hob := h.row.lt
 have hkb := h.cut.lt
 have hgb : V.heap.size ≤ g13 := by
  rcases hor with e | e
  ·exact (hob _ e).1
  ·omega
 have hkr : ∀ q, q < W.heap.size → ¬ pv.ownBlock = some q → w13.heap[q]? = W.heap[q]? := fun q hq hc => hgrow.block q hq (fun e => hc e.symm)
 have hp13 : w13.heap[p]? = some (rfO kd h1 h2 b1 b2 pv cv 0 0) := (hkr p (by omega) (fun e => by have := hob _ e; omega)).trans h.hp
 have hdj : ∀ q, (Value.slice (some ⟨g13, 0, none⟩) (n + 1) cap13).ownBlock = some q → ¬ cv.ownBlock = some q := fun q e hq => by
  have hgq : g13 = q := Option.some.inj e
  rcases hor with e2 | e2
  ·exact h.dj q (by rw [e2, hgq]) hq
  ·have := hkb q hq; omega
 refine ⟨⟨?_, ?_, ?_, hdj, ?_⟩, fun hk => ?_⟩
 ·unfold rfO at hp13
  exact row_set hp13
 ·have := ownsRow_setCell_below (a := ⟨p, 5, none⟩) hown hp (.slice (some ⟨g13, 0, none⟩) (n + 1) cap13)
  rw [List.flatMap_append, List.length_append, List.flatMap_cons, List.flatMap_nil, List.append_nil]
  rw [hn] at this ⊢
  exact this
 ·exact ownsRow_setCell_below (a := ⟨p, 5, none⟩) (own_row h.cut hgrow (fun q hq e => h.dj q e hq)) hp _
 ·exact (h.k2.grown hgrow (fun q hq => (hob q hq).1)).set 5 _
 ·refine refKs.keep (fun q hq hqz => ⟨?_, hq.1, fun e => ?_, hq.2.2⟩) _ _ hk
  ·rw [Below.heap_setCell _ _ _ _ (show q ≠ p by have := hq.1; omega)]
   exact hkr q hqz hq.2.1
  ·have hgq : g13 = q := Option.some.inj e
   rcases hor with e2 | e2
   ·exact hq.2.1 (by rw [e2, hgq])
   ·omega
end
set_option maxRecDepth 100000 in
set_option maxHeartbeats 32000000 in
theorem refGet_step (d D : Nat) (hD : D + d = 33)
  (ih : ∀ d', d = d' + 1 → ∀ (α : Type) (st : Rs α) (S : ByteArray) (e a : Nat) (w : World), isSt st S e → (∀ v s, st = .ok v s → a + s.length * 1099511627776 ≤ 576460752303423488) → a ≤ 1152921504606846976 →
   Calls Tryz.prog 27 #[rV S (e : Int), .int .i64 (a : Int), .int .i64 ((D : Int) + 1)] w (getPostR (treeQ d' a st) a w))
  (α : Type) (st : Rs α) (S : ByteArray) (e a : Nat) (w : World) (h : isSt st S e) (hbud : ∀ v s, st = .ok v s → a + s.length * 1099511627776 ≤ 576460752303423488) (ha : a ≤ 1152921504606846976) :
  Calls Tryz.prog 27 #[rV S (e : Int), .int .i64 (a : Int), .int .i64 (D : Int)] w (getPostR (treeQ d a st) a w) := by
 have HIh := Lib.hid ih
 have HBud := Lib.hid hbud
 have HT1 := Lib.hid (fun W => refTakeS st S e W h)
 have HT2 := Lib.hid (fun T e2 W (h : isSt (kindN d st) T e2) => refTakeS (kindN d st) T e2 W h)
 have HT3 := Lib.hid (fun T e2 W (h : isSt (nextN (kindN d st)) T e2) => refTakeS (nextN (kindN d st)) T e2 W h)
 have hkk := nOf_lt st
 have hhh := nOf_lt (kindN d st)
 have hbb := nOf_lt (nextN (kindN d st))
 have HTr := Lib.hid (fun (n : Nat) s3 (h : nextN (nextN (kindN d st)) = .ok n s3) => treeQ_ok (d := d) (a := a) (st := st) h)
 have HTe := Lib.hid (fun (x : Nat) (h : nextN (nextN (kindN d st)) = .no x) => treeQ_err (d := d) (a := a) (st := st) h)
 obtain ⟨kk, hk⟩ : ∃ kk, kk = nOf (nextN st) := ⟨_, rfl⟩
 obtain ⟨hd, hh⟩ : ∃ hd, hd = nOf (nextN (kindN d st)) := ⟨_, rfl⟩
 obtain ⟨bd, hb⟩ : ∃ bd, bd = nOf (nextN (nextN (kindN d st))) := ⟨_, rfl⟩
 have HKv : Hid (kk = nOf (nextN st)) := hk
 have HHv : Hid (hd = nOf (nextN (kindN d st))) := hh
 have HBv : Hid (bd = nOf (nextN (nextN (kindN d st)))) := hb
 rw [← hk] at hkk HT1
 rw [← hh] at hhh HT2
 rw [← hb] at hbb HT3
 obtain ⟨ah, hah⟩ : ∃ ah, ah = a + hd := ⟨_, rfl⟩
 have eah : (a : Int) + (hd : Int) = (ah : Int) := by omega
 obtain ⟨ab, hab⟩ : ∃ ab, ab = ah + bd := ⟨_, rfl⟩
 have eab : (ah : Int) + (bd : Int) = (ab : Int) := by omega
 have HAh := Lib.hid hah
 have HAb := Lib.hid hab
 have hahl : ah ≤ 1152922604118474752 := by omega
 have habl : ab ≤ 1152923703630102528 := by omega
 have habl2 : ab ≤ a + 2199023255552 := by omega
 obtain ⟨Q, hQ⟩ : ∃ Q, Q = treeQ d a st := ⟨_, rfl⟩
 rw [← hQ] at HTr HTe ⊢
 obtain ⟨X, hX⟩ : ∃ X, X = ((w.alloc (.cells #[.string S, .int .i64 (e : Int)] 66)).alloc (.cells #[.string ⟨#[]⟩, .int .i64 0] 66)).alloc (.cells #[.int .i64 0, .int .i64 0, .int .i64 0, .int .i64 0, .int .i64 0, .slice none 0 0, .slice none 0 0, .int .i64 0, .int .i64 0] 40) := ⟨_, rfl⟩
 have HX : Hid (Bx w (.cells #[.string ⟨#[]⟩, .int .i64 0] 66) (.cells #[.int .i64 0, .int .i64 0, .int .i64 0, .int .i64 0, .int .i64 0, .slice none 0 0, .slice none 0 0, .int .i64 0, .int .i64 0] 40) S e X) := by unfold Hid; rw [hX]; exact Bx.new w _ _ S e
 unfold rV at HT1 HT2 HT3 ⊢
 clear h hbud ih hk hh hb hah hab hQ
 go_enter Tryz.func27, Tryz.ntmps27
 go_upto_region 1 with fail
 rw [← hX]
 clear hX
 obtain ⟨c0, c1⟩ := two_cells HX.out.r0
 obtain ⟨f0, f1⟩ := two_frozen HX.out.r0
 go_wp2_with fail
 with_reducible refine (HT1.out _).mono ?_
 rintro e' v1 ⟨T1, e1, rfl, hs, hb⟩
 have HY1 := Lib.hid (HX.out.keep hb)
 have HS1 := Lib.hid hs
 clear hb c0 c1 f0 f1 hs
 obtain ⟨c0, c1⟩ := two_cells HY1.out.r0
 obtain ⟨f0, f1⟩ := two_frozen HY1.out.r0
 go_upto_region 2 with fail
 have HX1 := Lib.hid (HY1.out.set T1 e1)
 obtain ⟨W1, hW⟩ : ∃ W, W = ((v1.setCell ⟨w.heap.size, 0, none⟩ (.string T1)).setCell ⟨w.heap.size, 1, none⟩ (.int .i64 (e1 : Int))) := ⟨_, rfl⟩
 rw [← hW] at HX1 ⊢
 clear hW c0 c1 f0 f1 HY1
 clear HT1
 obtain ⟨c0, c1⟩ := two_cells HX1.out.r0
 obtain ⟨f0, f1⟩ := two_frozen HX1.out.r0
 go_cut [33] (fun x33 wx => ∃ B : Bool, x33 = .bool B ∧ Hid (B = true → isSt (kindN d st) T1 11) ∧ Hid (B = false → isSt (kindN d st) T1 e1) ∧ W1 = wx)
 case first =>
  have hs := HS1.out
  have hkv := HKv.out
  cases hq : nextN st with
  | no x =>
   rw [hq] at hs hkv
   obtain ⟨rfl, hx⟩ := hs
   have t1 : ((e1 : Int) == 0) = false := beq_no (by omega)
   have HKn : Hid (isSt (kindN d st) T1 e1) := by unfold Hid kindN; rw [hq]; exact ⟨rfl, hx⟩
   clear hq hkv
   go_wp2_with fail
   go_meet
   exact ⟨false, rfl, fun hh => (by cases hh), fun _ => HKn.out, rfl⟩
  | ok k s =>
   rw [hq] at hs hkv
   obtain ⟨rfl, hTl, hTz⟩ := hs
   replace hkv : kk = k := hkv
   subst hkv
   have HKd : Hid (kindN d st = if 2 < kk ∨ d = 0 then .no 11 else .ok kk s) := by unfold Hid kindN; rw [hq]; rfl
   have HTl : Hid (T1.data.toList = s ∧ T1.size ≤ 1000000) := ⟨hTl, hTz⟩
   clear hq hTl hTz
   by_cases h2 : 2 < kk
   ·have u1 : (2 : Int) < (kk : Int) := by omega
    have u2 : decide ((2 : Int) < (kk : Int)) = true := decide_eq_true u1
    have u3 : decide (2 < kk) = true := decide_eq_true h2
    have HKn : Hid (isSt (kindN d st) T1 11) := by unfold Hid; rw [HKd.out, if_pos (.inl h2)]; exact ⟨rfl, by decide⟩
    go_wp2_with fail
    go_meet
    exact ⟨true, rfl, fun _ => HKn.out, fun hh => (by cases hh), rfl⟩
   ·have u1 : ¬ (2 : Int) < (kk : Int) := by omega
    have u2 : decide ((2 : Int) < (kk : Int)) = false := decide_eq_false u1
    have u3 : decide (2 < kk) = false := decide_eq_false h2
    by_cases hd0 : d = 0
    ·have s1 : (32 : Int) < (D : Int) := by omega
     have s2 : decide ((32 : Int) < (D : Int)) = true := decide_eq_true s1
     have s3 : decide (32 < D) = true := decide_eq_true (by omega)
     have HKn : Hid (isSt (kindN d st) T1 11) := by unfold Hid; rw [HKd.out, if_pos (.inr hd0)]; exact ⟨rfl, by decide⟩
     go_wp2_with fail
     go_meet
     exact ⟨true, rfl, fun _ => HKn.out, fun hh => (by cases hh), rfl⟩
    ·have s1 : ¬ (32 : Int) < (D : Int) := by omega
     have s2 : decide ((32 : Int) < (D : Int)) = false := decide_eq_false s1
     have s3 : decide (32 < D) = false := decide_eq_false (by omega)
     have HKn : Hid (isSt (kindN d st) T1 0) := by unfold Hid; rw [HKd.out, if_neg (fun hh => hh.elim h2 hd0)]; exact ⟨rfl, HTl.out.1, HTl.out.2⟩
     go_wp2_with fail
     go_meet
     exact ⟨false, rfl, fun hh => (by cases hh), fun _ => HKn.out, rfl⟩
 case rest =>
  obtain ⟨B, rfl, HBt, HBf, rfl⟩ := hcut
  have HEr := Lib.hid (HX1.out.err 11)
  go_upto_if 33 with fail
  go_cut [8] (fun x8 wx => ∃ (e9 : Nat), x8 = .int .i64 (kk : Int) ∧ Hid (isSt (kindN d st) T1 e9) ∧ Hid (Bx w (.cells #[.string ⟨#[]⟩, .int .i64 0] 66) (.cells #[.int .i64 0, .int .i64 0, .int .i64 0, .int .i64 0, .int .i64 0, .slice none 0 0, .slice none 0 0, .int .i64 0, .int .i64 0] 40) T1 e9 wx))
  case first =>
   cases B with
   | true =>
    have HKn := Lib.hid (HBt.out rfl)
    go_wp2_with fail
    go_meet
    exact ⟨11, rfl, HKn.out, HEr.out⟩
   | false =>
    have HKn := Lib.hid (HBf.out rfl)
    go_wp2_with fail
    go_meet
    exact ⟨e1, rfl, HKn.out, HX1.out⟩
  case rest =>
   obtain ⟨e9, rfl, HS9, HX9⟩ := hcut
   clear c0 c1 f0 f1 HS1 HX1 HEr HBt HBf B
   obtain ⟨c0, c1⟩ := two_cells HX9.out.r0
   obtain ⟨f0, f1⟩ := two_frozen HX9.out.r0
   go_wp2_with fail
   with_reducible refine (HT2.out _ _ _ HS9.out).mono ?_
   rintro e' v2 ⟨T2, e2, rfl, hs, hb⟩
   have HY2 := Lib.hid (HX9.out.keep hb)
   have HS2 := Lib.hid hs
   clear hb c0 c1 f0 f1 hs
   obtain ⟨c0, c1⟩ := two_cells HY2.out.r0
   obtain ⟨f0, f1⟩ := two_frozen HY2.out.r0
   go_upto_region 5 with fail
   have HX2 := Lib.hid (HY2.out.set T2 e2)
   obtain ⟨W2, hW⟩ : ∃ W, W = ((v2.setCell ⟨w.heap.size, 0, none⟩ (.string T2)).setCell ⟨w.heap.size, 1, none⟩ (.int .i64 (e2 : Int))) := ⟨_, rfl⟩
   rw [← hW] at HX2 ⊢
   clear hW c0 c1 f0 f1 HY2
   obtain ⟨c0, c1⟩ := two_cells HX2.out.r0
   obtain ⟨f0, f1⟩ := two_frozen HX2.out.r0
   go_wp2_with fail
   with_reducible refine (HT3.out _ _ _ HS2.out).mono ?_
   rintro e' v3 ⟨T3, e3, rfl, hs, hb⟩
   have HY3 := Lib.hid (HX2.out.keep hb)
   have HS3 := Lib.hid hs
   clear hb c0 c1 f0 f1 hs
   obtain ⟨c0, c1⟩ := two_cells HY3.out.r0
   obtain ⟨f0, f1⟩ := two_frozen HY3.out.r0
   go_upto_region 6 with fail
   have HX3 := Lib.hid (HY3.out.set T3 e3)
   obtain ⟨W3, hW⟩ : ∃ W, W = ((v3.setCell ⟨w.heap.size, 0, none⟩ (.string T3)).setCell ⟨w.heap.size, 1, none⟩ (.int .i64 (e3 : Int))) := ⟨_, rfl⟩
   rw [← hW] at HX3 ⊢
   clear hW c0 c1 f0 f1 HY3
   clear HT2 HT3
   go_upto_region 7 with fail
   obtain ⟨p0, hp0⟩ : ∃ p0, p0 = W3.heap.size := ⟨_, rfl⟩
   obtain ⟨V, hV⟩ : ∃ V, V = W3.alloc (.cells #[.int .i64 (kk : Int), .int .i64 (a : Int), .int .i64 (ah : Int), .int .i64 (ah : Int), .int .i64 (ab : Int), .slice none 0 0, .slice none 0 0, .int .i64 0, .int .i64 0] 40) := ⟨_, rfl⟩
   have HV : Hid (Bx w (.cells #[.string ⟨#[]⟩, .int .i64 0] 66) (.cells #[.int .i64 0, .int .i64 0, .int .i64 0, .int .i64 0, .int .i64 0, .slice none 0 0, .slice none 0 0, .int .i64 0, .int .i64 0] 40) T3 e3 V) := by unfold Hid; rw [hV]; exact HX3.out.keep ((Below.refl _ _).alloc (Nat.le_refl _) _)
   have HP : Hid (V.heap[p0]? = some (rfO (kk : Int) (a : Int) (ah : Int) (ah : Int) (ab : Int) (.slice none 0 0) (.slice none 0 0) 0 0)) := by unfold Hid; rw [hV, hp0]; exact heap_alloc_new W3 _
   have HP0 : Hid (w.heap.size + 1 + 1 < p0) := by rw [hp0]; exact HX3.out.lt
   have HPz : Hid (p0 + 1 = V.heap.size) := by unfold Hid; rw [hV, hp0]; simp
   rw [← hV, ← hp0]
   clear hV hp0 HX3
   obtain ⟨c0, c1⟩ := two_cells HV.out.r0
   obtain ⟨q0, q1, q2, q3, q4, q5, q6, q7, q8⟩ := rf_cells HP.out
   have hs3 := HS3.out
   have hbv := HBv.out
   cases hq3 : nextN (nextN (kindN d st)) with
   | no x =>
    rw [hq3] at hs3 hbv
    obtain ⟨rfl, hx⟩ := hs3
    have HQ := Lib.hid (HTe.out _ hq3)
    have t1 : ((e3 : Int) != 0) = true := bne_yes (by omega)
    have HX0 := Lib.hid hx
    clear hq3 hbv hx
    have hO1 := HV.out.r1
    have hO2 := HV.out.r2
    obtain ⟨j0, j1⟩ := two_frozen hO1
    obtain ⟨y0, y1⟩ := two_cells hO1
    obtain ⟨z0, z1, z2, z3, z4, z5, z6, z7, z8⟩ := rf_cells (W := V) (B := w.heap.size + 1 + 1) hO2
    have jj := rf_frozen (W := V) (B := w.heap.size + 1 + 1) hO2
    have j2 := jj 0
    have j3 := jj 1
    have j4 := jj 2
    have j5 := jj 3
    have j6 := jj 4
    have j7 := jj 5
    have j8 := jj 6
    have j9 := jj 7
    have j10 := jj 8
    have hpp := HP0.out
    have n1 : ¬ p0 = w.heap.size + 1 := by omega
    have n2 : ¬ p0 = w.heap.size + 1 + 1 := by omega
    have n3 : ¬ w.heap.size + 1 = p0 := by omega
    have n4 : ¬ w.heap.size + 1 + 1 = p0 := by omega
    clear hpp jj hO1 hO2
    go_wp2_with fail
    go_region
    go_wp2_with fail
    (try simp only [Exit.inBlock, Exit.then])
    have ho := out_cells (b := w.heap.size + 1) (V := V) (T := T3) (e := (e3 : Int)) (a0 := .int .i64 (kk : Int)) (a1 := .int .i64 (a : Int)) (a2 := .int .i64 (ah : Int)) (a3 := .int .i64 (ah : Int)) (a4 := .int .i64 (ab : Int)) (a5 := (.slice none 0 0)) (a6 := (.slice none 0 0)) (a7 := .int .i64 0) (a8 := .int .i64 0) HV.out.r1 HV.out.r2
    unfold outW set9 at ho
    obtain ⟨⟨r0, r1⟩, s0, s1, s2, s3', s4, s5, s6, s7, s8⟩ := ho
    refine bodyPost_ret (v := .tuple #[.agg #[.string T3, .int .i64 (e3 : Int)], .agg #[.int .i64 (kk : Int), .int .i64 (a : Int), .int .i64 (ah : Int), .int .i64 (ah : Int), .int .i64 (ab : Int), (.slice none 0 0), (.slice none 0 0), .int .i64 0, .int .i64 0]]) (by simp [results, Tryz.results27, go_sem, r0, r1, s0, s1, s2, s3', s4, s5, s6, s7, s8]) rfl ?_
    exact ⟨out_below HV.out.below (by omega), T3, e3, (kk : Int), (a : Int), (ah : Int), (ah : Int), ab, none, 0, 0, none, 0, 0, 0, 0, rfl, by rw [HQ.out]; exact ⟨rfl, HX0.out⟩, habl2, fun t r hh => by rw [HQ.out] at hh; cases hh⟩
   | ok n s3 =>
    rw [hq3] at hs3 hbv
    obtain ⟨rfl, hTl, hTz⟩ := hs3
    obtain ⟨d', k, hh', bb, rfl, hk2, e1', e2', e3', hbud', hQ⟩ := HTr.out n s3 hq3
    have ek : k = kk := by rw [HKv.out]; exact e1'.symm
    have eh : hh' = hd := by rw [HHv.out]; exact e2'.symm
    have eb : bb = bd := by rw [HBv.out]; exact e3'.symm
    subst ek eh eb
    rw [← HAh.out, ← HAb.out] at hQ
    have hB' := hbud' _ HBud.out
    have HBu : Hid (ah + s3.length * 1099511627776 ≤ 576460752303423488) := by
     unfold Hid
     rw [HAh.out]
     omega
    have HTl : Hid (T3.data.toList = s3 ∧ T3.size ≤ 1000000) := ⟨hTl, hTz⟩
    have HQ0 := Lib.hid hQ
    clear hq3 hbv hTl hTz e1' e2' e3' hbud' hQ hB' HTr HTe HBud
    rcases (show k = 0 ∨ k = 1 ∨ k = 2 by omega) with rfl | rfl | rfl
    ·have HQ : Hid (Q = .ok (leafT a ah ab) s3) := by
      have hh := HQ0.out
      rw [if_neg (by decide), if_neg (by decide)] at hh
      exact hh
     have hO1 := HV.out.r1
     have hO2 := HV.out.r2
     obtain ⟨j0, j1⟩ := two_frozen hO1
     obtain ⟨y0, y1⟩ := two_cells hO1
     obtain ⟨z0, z1, z2, z3, z4, z5, z6, z7, z8⟩ := rf_cells (W := V) (B := w.heap.size + 1 + 1) hO2
     have jj := rf_frozen (W := V) (B := w.heap.size + 1 + 1) hO2
     have j2 := jj 0
     have j3 := jj 1
     have j4 := jj 2
     have j5 := jj 3
     have j6 := jj 4
     have j7 := jj 5
     have j8 := jj 6
     have j9 := jj 7
     have j10 := jj 8
     have hpp := HP0.out
     have n1 : ¬ p0 = w.heap.size + 1 := by omega
     have n2 : ¬ p0 = w.heap.size + 1 + 1 := by omega
     have n3 : ¬ w.heap.size + 1 = p0 := by omega
     have n4 : ¬ w.heap.size + 1 + 1 = p0 := by omega
     clear hpp jj hO1 hO2
     go_wp2_with fail
     go_region
     go_wp2_with fail
     (try simp only [Exit.inBlock, Exit.then])
     have ho := out_cells (b := w.heap.size + 1) (V := V) (T := T3) (e := 0) (a0 := .int .i64 0) (a1 := .int .i64 (a : Int)) (a2 := .int .i64 (ah : Int)) (a3 := .int .i64 (ah : Int)) (a4 := .int .i64 (ab : Int)) (a5 := (.slice none 0 0)) (a6 := (.slice none 0 0)) (a7 := .int .i64 0) (a8 := .int .i64 0) HV.out.r1 HV.out.r2
     unfold outW set9 at ho
     obtain ⟨⟨r0, r1⟩, s0, s1, s2, s3', s4, s5, s6, s7, s8⟩ := ho
     refine bodyPost_ret (v := .tuple #[.agg #[.string T3, .int .i64 0], .agg #[.int .i64 0, .int .i64 (a : Int), .int .i64 (ah : Int), .int .i64 (ah : Int), .int .i64 (ab : Int), (.slice none 0 0), (.slice none 0 0), .int .i64 0, .int .i64 0]]) (by simp [results, Tryz.results27, go_sem, r0, r1, s0, s1, s2, s3', s4, s5, s6, s7, s8]) rfl ?_
     exact ⟨out_below HV.out.below (by omega), T3, 0, 0, (a : Int), (ah : Int), (ah : Int), ab, none, 0, 0, none, 0, 0, 0, 0, rfl, by rw [HQ.out]; exact ⟨rfl, HTl.out.1, HTl.out.2⟩, habl2, fun t r hh => by rw [HQ.out] at hh; cases hh; exact refLeaf_at _ _ _ _ _⟩
    ·have HQ : Hid (Q = (partK (treeR d') ah (nOf (numP s3)) (cntN s3)).bind fun q s => (apP q.2.2 s).bind fun e s => .ok (.mk 1 (a, ah) (ah, ab) q.1 q.2.1 e) s) := by
      have hh := HQ0.out
      rw [if_pos rfl, multi_eq] at hh
      exact hh
     have hN := nOf_lt (.ok n s3 : Rs Nat)
     have HT4 := Lib.hid (fun W => refTakeS (.ok n s3 : Rs Nat) T3 0 W ⟨rfl, HTl.out.1, HTl.out.2⟩)
     rw [show nextN (.ok n s3 : Rs Nat) = numP s3 from rfl] at hN HT4
     obtain ⟨N, hNe⟩ : ∃ N, N = nOf (numP s3) := ⟨_, rfl⟩
     have HNe : Hid (N = nOf (numP s3)) := hNe
     rw [← hNe] at hN HT4 HQ
     rw [show ((0 : Nat) : Int) = 0 from rfl] at HT4
     have HL : Hid (Lq V w.heap.size p0 1 (a : Int) (ah : Int) (ah : Int) (ab : Int) [] [] (.slice none 0 0) (.slice none 0 0) V) := ⟨HP.out, World.ownsRow_nil _ _ _ _, World.ownsRow_nil _ _ _ _, fun q hq => (by cases hq), K2.refl _ _ _⟩
     have HpV : Hid (p0 < V.heap.size) := by have := HPz.out; unfold Hid; omega
     have HRV : Hid (w.heap.size < V.heap.size ∧ w.heap.size ≠ p0) := by have := HPz.out; have := HP0.out; unfold Hid; omega
     unfold rV at HT4
     clear hNe HQ0
     go_wp2_with fail
     with_reducible refine (HT4.out _).mono ?_
     rintro e' v4 ⟨T4, e4, rfl, hs, hb⟩
     have HV4 := Lib.hid (HV.out.keep hb)
     have HL4 := Lib.hid (HL.out.below HpV.out hb)
     have HS4 := Lib.hid hs
     clear hb hs c0 c1 q0 q1 q2 q3 q4 q5 q6 q7 q8 HT4
     obtain ⟨c0, c1⟩ := two_cells HV4.out.r0
     obtain ⟨f0, f1⟩ := two_frozen HV4.out.r0
     go_upto_region 15 with fail
     have HX4 := Lib.hid (HV4.out.set T4 e4)
     have HL5 := Lib.hid (HL4.out.gr HRV.out.1 HpV.out HRV.out.2 (((Gr.refl _ _).set 0 (.string T4)).set 1 (.int .i64 (e4 : Int))))
     obtain ⟨W4, hW⟩ : ∃ W, W = ((v4.setCell ⟨w.heap.size, 0, none⟩ (.string T4)).setCell ⟨w.heap.size, 1, none⟩ (.int .i64 (e4 : Int))) := ⟨_, rfl⟩
     rw [← hW] at HX4 HL5 ⊢
     clear hW c0 c1 f0 f1 HV4 HL4 HL
     obtain ⟨c0, c1⟩ := two_cells HX4.out.r0
     obtain ⟨f0, f1⟩ := two_frozen HX4.out.r0
     go_cut [102] (fun x102 wx => ∃ B : Bool, x102 = .bool B ∧ Hid (B = true → isSt (cntN s3) T4 11) ∧ Hid (B = false → isSt (cntN s3) T4 e4) ∧ W4 = wx)
     case first =>
      have hs := HS4.out
      have hkv := HNe.out
      cases hq : numP s3 with
      | no x =>
       rw [hq] at hs hkv
       obtain ⟨rfl, hx⟩ := hs
       have t1 : ((e4 : Int) == 0) = false := beq_no (by omega)
       have HKn : Hid (isSt (cntN s3) T4 e4) := by unfold Hid cntN; rw [hq]; exact ⟨rfl, hx⟩
       clear hq hkv
       go_wp2_with fail
       go_meet
       exact ⟨false, rfl, fun hh => (by cases hh), fun _ => HKn.out, rfl⟩
      | ok k s =>
       rw [hq] at hs hkv
       obtain ⟨rfl, hTl, hTz⟩ := hs
       replace hkv : N = k := hkv
       subst hkv
       have HKd : Hid (cntN s3 = if 1000 < N then .no 11 else .ok N s) := by unfold Hid cntN; rw [hq]; rfl
       have HTl4 : Hid (T4.data.toList = s ∧ T4.size ≤ 1000000) := ⟨hTl, hTz⟩
       clear hq hTl hTz
       by_cases h2 : 1000 < N
       ·have u1 : (1000 : Int) < (N : Int) := by omega
        have u2 : decide ((1000 : Int) < (N : Int)) = true := decide_eq_true u1
        have u3 : decide (1000 < N) = true := decide_eq_true h2
        have HKn : Hid (isSt (cntN s3) T4 11) := by unfold Hid; rw [HKd.out, if_pos h2]; exact ⟨rfl, by decide⟩
        go_wp2_with fail
        go_meet
        exact ⟨true, rfl, fun _ => HKn.out, fun hh => (by cases hh), rfl⟩
       ·have u1 : ¬ (1000 : Int) < (N : Int) := by omega
        have u2 : decide ((1000 : Int) < (N : Int)) = false := decide_eq_false u1
        have u3 : decide (1000 < N) = false := decide_eq_false h2
        have HKn : Hid (isSt (cntN s3) T4 0) := by unfold Hid; rw [HKd.out, if_neg h2]; exact ⟨rfl, HTl4.out.1, HTl4.out.2⟩
        go_wp2_with fail
        go_meet
        exact ⟨false, rfl, fun hh => (by cases hh), fun _ => HKn.out, rfl⟩
     case rest =>
      obtain ⟨B, rfl, HBt, HBf, rfl⟩ := hcut
      have HEr := Lib.hid (HX4.out.err 11)
      have HLe := Lib.hid (HL5.out.gr HRV.out.1 HpV.out HRV.out.2 ((Gr.refl _ _).set 1 (.int .i64 (11 : Nat))))
      go_upto_if 102 with fail
      go_cut [14] (fun x14 wx => ∃ (e5 : Nat), x14 = .int .i64 (N : Int) ∧ Hid (isSt (cntN s3) T4 e5) ∧ Hid (Bx w (.cells #[.string ⟨#[]⟩, .int .i64 0] 66) (.cells #[.int .i64 0, .int .i64 0, .int .i64 0, .int .i64 0, .int .i64 0, .slice none 0 0, .slice none 0 0, .int .i64 0, .int .i64 0] 40) T4 e5 wx) ∧ Hid (Lq V w.heap.size p0 1 (a : Int) (ah : Int) (ah : Int) (ab : Int) [] [] (.slice none 0 0) (.slice none 0 0) wx))
      case first =>
       cases B with
       | true =>
        have HKn := Lib.hid (HBt.out rfl)
        go_wp2_with fail
        go_meet
        exact ⟨11, rfl, HKn.out, HEr.out, HLe.out⟩
       | false =>
        have HKn := Lib.hid (HBf.out rfl)
        go_wp2_with fail
        go_meet
        exact ⟨e4, rfl, HKn.out, HX4.out, HL5.out⟩
      case rest =>
       obtain ⟨e5, rfl, HS5, HX5, HL6⟩ := hcut
       clear c0 c1 f0 f1 HS4 HX4 HL5 HEr HLe HBt HBf B
       have HIh2 := Lib.hid (fun (α : Type) (st : Rs α) S e a w h hb ha => HIh.out d' rfl α st S e a w h hb ha)
       clear HIh
       go_wp2_with fail
       go_loopg [1, 15, 16, 17] N (fun gg x1 x15 x16 x17 wr => ∃ (i at0 : Nat) (ts : List Tr) (cs : List Sp) (us : List Value) (pv cv : Value) (T : ByteArray) (e : Nat), i ≤ N ∧ gg = N - i ∧ x1 = .int .i64 (at0 : Int) ∧ x15 = .int .i64 (i : Int) ∧ at0 ≤ 576465150349934592 ∧ Hid (cs.length = i) ∧ Hid (us.length = i) ∧ Hid (isSt (partK (treeR d') ah i (cntN s3)) T e) ∧
        Hid (∀ q s, partK (treeR d') ah i (cntN s3) = .ok q s → q = (ts, cs, at0) ∧ at0 + s.length * 1099511627776 ≤ 576460752303423488 ∧ N ≤ 1000 ∧ refKs (Lz V pv cv) wr ts us) ∧ Hid (Bx w (.cells #[.string ⟨#[]⟩, .int .i64 0] 66) (.cells #[.int .i64 0, .int .i64 0, .int .i64 0, .int .i64 0, .int .i64 0, .slice none 0 0, .slice none 0 0, .int .i64 0, .int .i64 0] 40) T e wr) ∧ Hid (Lq V w.heap.size p0 1 (a : Int) (ah : Int) (ah : Int) (ab : Int) cs us pv cv wr))
       case atStart =>
        refine ⟨0, ah, [], [], [], .slice none 0 0, .slice none 0 0, T4, e5, Nat.zero_le _, rfl, rfl, rfl, by have := HBu.out; omega, rfl, rfl, ?_, ?_, HX5.out, HL6.out⟩
        ·have hs := HS5.out
         unfold Hid partK
         cases hc : cntN s3 with
         | no x => rw [hc] at hs; exact hs
         | ok m s => rw [hc] at hs; exact hs
        ·intro q s hq
         cases hc : cntN s3 with
         | no x => rw [hc] at hq; cases hq
         | ok m s4 =>
          rw [hc] at hq
          cases hq
          have h3 := cntN_le hc
          refine ⟨rfl, ?_, by rw [HNe.out, h3.2.1]; exact h3.1, refKs_nil _ _⟩
          exact Nat.le_trans (Nat.add_le_add_left (Nat.mul_le_mul_right _ (Nat.le_of_lt h3.2.2)) _) HBu.out
       case round =>
        clear HS5 HX5 HL6
        obtain ⟨i, at0, ts, cs, us, pv, cv, T, e, hi, rfl, rfl, rfl, hat, HCl, HUl, HSi, HOi, HBx, HLq⟩ := hrel
        by_cases hlt : i < N
        ·have hl1 : (i : Int) < (N : Int) := by omega
         have hl2 : decide ((i : Int) < (N : Int)) = true := decide_eq_true hl1
         have hl3 : decide (i < N) = true := decide_eq_true hlt
         have hsi := HSi.out
         have hoi := HOi.out
         cases hP : partK (treeR d') ah i (cntN s3) with
         | no x =>
          rw [hP] at hsi
          obtain ⟨rfl, hx⟩ := hsi
          have t1 : ((e : Int) == 0) = false := beq_no (by omega)
          have HSn : Hid (isSt (partK (treeR d') ah N (cntN s3)) T e) := by unfold Hid; rw [partK_err hP N hi]; exact ⟨rfl, hx⟩
          have HOn : Hid (∀ q s, partK (treeR d') ah N (cntN s3) = .ok q s → q = (ts, cs, at0) ∧ refKs (Lz V pv cv) wr ts us) := fun q s hh => by rw [partK_err hP N hi] at hh; cases hh
          clear hP hoi hx
          obtain ⟨pa, pn, pc, rfl⟩ := own_is_slice HLq.out.row
          obtain ⟨ca, cn, cc, rfl⟩ := own_is_slice HLq.out.cut
          have HSp := Lib.hid (refSpanS (partK (treeR d') ah N (cntN s3)) T e at0 wr HSn.out (by omega))
          have hy := nOf_lt (partK (treeR d') ah N (cntN s3))
          have hy' := nOf_lt (nextN (partK (treeR d') ah N (cntN s3)))
          obtain ⟨fa, hfa⟩ : ∃ fa, fa = (spNext (partK (treeR d') ah N (cntN s3)) at0).1 := ⟨_, rfl⟩
          obtain ⟨fb, hfb⟩ : ∃ fb, fb = (spNext (partK (treeR d') ah N (cntN s3)) at0).2 := ⟨_, rfl⟩
          have HY : Hid (∀ v s, ((partK (treeR d') ah N (cntN s3)).bind fun _ s => apP at0 s) = .ok v s → v = (fa, fb)) := fun v s hh => by rw [spNext_ok hh, hfa, hfb]
          rw [← hfa, ← hfb] at HSp
          unfold rV at HSp
          clear hy hy' hfa hfb
          obtain ⟨c0, c1⟩ := two_cells HBx.out.r0
          go_wp2_with fail
          with_reducible refine (HSp.out).mono ?_
          rintro e' v9 ⟨T9, e9, rfl, hs9, hb9⟩
          have HB9 := Lib.hid (HBx.out.keep hb9)
          have HL9 := Lib.hid (HLq.out.below HpV.out hb9)
          have HS9 := Lib.hid hs9
          have HO9 : Hid (∀ q s, partK (treeR d') ah N (cntN s3) = .ok q s → q = (ts, cs, at0) ∧ refKs (Lz V (.slice pa pn pc) (.slice ca cn cc)) v9 ts us) := fun q s hh => ⟨(HOn.out q s hh).1, refKs.keep (fun k hk hz => ⟨hb9.block k hz, hk⟩) _ _ (HOn.out q s hh).2⟩
          clear hs9 hb9 c0 c1 HSp
          obtain ⟨c0, c1⟩ := two_cells HB9.out.r0
          obtain ⟨f0, f1⟩ := two_frozen HB9.out.r0
          obtain ⟨q0, q1, q2, q3, q4, q5, q6, q7, q8⟩ := rf_cells HL9.out.hp
          have jf7 := rf_frozen HL9.out.hp 7
          have jf8 := rf_frozen HL9.out.hp 8
          have hpr := HRV.out
          have hp0 := HP0.out
          have nr1 : ¬ p0 = w.heap.size := by omega
          have nr2 : ¬ w.heap.size = p0 := by omega
          go_upto_region 28 with fail
          have hg := ((Gr.refl w.heap.size v9).set 0 (.string T9)).set 1 (.int .i64 (e9 : Int))
          have HBs := HB9.out.set T9 e9
          have HLs := HL9.out.gr HRV.out.1 HpV.out HRV.out.2 hg
          have HOs : ∀ q s, partK (treeR d') ah N (cntN s3) = .ok q s → q = (ts, cs, at0) ∧ refKs (Lz V (.slice pa pn pc) (.slice ca cn cc)) ((v9.setCell ⟨w.heap.size, 0, none⟩ (.string T9)).setCell ⟨w.heap.size, 1, none⟩ (.int .i64 (e9 : Int))) ts us := fun q s hh => ⟨(HO9.out q s hh).1, Lz.gr (HO9.out q s hh).2 HRV.out.1 hg⟩
          clear hg c0 c1 f0 f1 q0 q1 q2 q3 q4 q5 q6 q7 q8 jf7 jf8
          obtain ⟨Ws, hWs⟩ : ∃ W, W = ((v9.setCell ⟨w.heap.size, 0, none⟩ (.string T9)).setCell ⟨w.heap.size, 1, none⟩ (.int .i64 (e9 : Int))) := ⟨_, rfl⟩
          rw [← hWs] at HBs HLs HOs ⊢
          have HVe := Lib.hid ((HBs.far (p := ⟨p0, 7, none⟩) (v := .int .i64 (fa : Int)) hp0).far (p := ⟨p0, 8, none⟩) (v := .int .i64 (fb : Int)) hp0)
          have HPe : Hid (((Ws.setCell ⟨p0, 7, none⟩ (.int .i64 (fa : Int))).setCell ⟨p0, 8, none⟩ (.int .i64 (fb : Int))).heap[p0]? = some (rfO 1 (a : Int) (ah : Int) (ah : Int) (ab : Int) (.slice pa pn pc) (.slice ca cn cc) (fa : Int) (fb : Int))) := by
           have hh := HLs.hp
           unfold rfO at hh
           exact row_set (row_set hh)
          have HRe : Hid (((Ws.setCell ⟨p0, 7, none⟩ (.int .i64 (fa : Int))).setCell ⟨p0, 8, none⟩ (.int .i64 (fb : Int))).ownsRow V.heap.size 40 9 (.slice pa pn pc) us.length (us.flatMap partCells)) := ownsRow_setCell_below (a := ⟨p0, 8, none⟩) (ownsRow_setCell_below (a := ⟨p0, 7, none⟩) HLs.row HpV.out _) HpV.out _
          have HCe : Hid (((Ws.setCell ⟨p0, 7, none⟩ (.int .i64 (fa : Int))).setCell ⟨p0, 8, none⟩ (.int .i64 (fb : Int))).ownsRow V.heap.size 27 2 (.slice ca cn cc) cs.length (spCells cs)) := ownsRow_setCell_below (a := ⟨p0, 8, none⟩) (ownsRow_setCell_below (a := ⟨p0, 7, none⟩) HLs.cut HpV.out _) HpV.out _
          have HOe : Hid (∀ q s, partK (treeR d') ah N (cntN s3) = .ok q s → q = (ts, cs, at0) ∧ refKs (Lz V (.slice pa pn pc) (.slice ca cn cc)) ((Ws.setCell ⟨p0, 7, none⟩ (.int .i64 (fa : Int))).setCell ⟨p0, 8, none⟩ (.int .i64 (fb : Int))) ts us) := fun q s hh => ⟨(HOs q s hh).1, refKs.keep (fun k hk _ => ⟨by have h1 := HpV.out; have h2 := hk.1; rw [Below.heap_setCell _ _ _ _ (show k ≠ p0 by omega), Below.heap_setCell _ _ _ _ (show k ≠ p0 by omega)], hk⟩) _ _ (HOs q s hh).2⟩
          obtain ⟨Y, hY⟩ : ∃ Y, Y = (Ws.setCell ⟨p0, 7, none⟩ (.int .i64 (fa : Int))).setCell ⟨p0, 8, none⟩ (.int .i64 (fb : Int)) := ⟨_, rfl⟩
          rw [← hY] at HVe HPe HRe HCe HOe ⊢
          clear hY hWs HBs HLs HOs HB9 HL9 HO9 HBx HLq HOn hpr hp0 nr1 nr2
          obtain ⟨q0, q1, q2, q3, q4, q5, q6, q7, q8⟩ := rf_cells HPe.out
          obtain ⟨c0, c1⟩ := two_cells HVe.out.r0
          have hO1 := HVe.out.r1
          have hO2 := HVe.out.r2
          obtain ⟨j0, j1⟩ := two_frozen hO1
          obtain ⟨y0, y1⟩ := two_cells hO1
          obtain ⟨z0, z1, z2, z3, z4, z5, z6, z7, z8⟩ := rf_cells (W := Y) (B := w.heap.size + 1 + 1) hO2
          have jj := rf_frozen (W := Y) (B := w.heap.size + 1 + 1) hO2
          have j2 := jj 0
          have j3 := jj 1
          have j4 := jj 2
          have j5 := jj 3
          have j6 := jj 4
          have j7 := jj 5
          have j8 := jj 6
          have j9 := jj 7
          have j10 := jj 8
          have hpp := HP0.out
          have n1 : ¬ p0 = w.heap.size + 1 := by omega
          have n2 : ¬ p0 = w.heap.size + 1 + 1 := by omega
          have n3 : ¬ w.heap.size + 1 = p0 := by omega
          have n4 : ¬ w.heap.size + 1 + 1 = p0 := by omega
          clear hpp jj hO1 hO2
          go_wp2_with fail
          go_region
          go_wp2_with fail
          (try simp only [Exit.inBlock, Exit.then])
          have ho := out_cells (b := w.heap.size + 1) (V := Y) (T := T9) (e := (e9 : Int)) (a0 := .int .i64 1) (a1 := .int .i64 (a : Int)) (a2 := .int .i64 (ah : Int)) (a3 := .int .i64 (ah : Int)) (a4 := .int .i64 (ab : Int)) (a5 := (.slice pa pn pc)) (a6 := (.slice ca cn cc)) (a7 := .int .i64 (fa : Int)) (a8 := .int .i64 (fb : Int)) HVe.out.r1 HVe.out.r2
          unfold outW set9 at ho
          obtain ⟨⟨r0, r1⟩, s0, s1, s2, s3', s4, s5, s6, s7, s8⟩ := ho
          refine bodyPost_ret (v := .tuple #[.agg #[.string T9, .int .i64 (e9 : Int)], .agg #[.int .i64 1, .int .i64 (a : Int), .int .i64 (ah : Int), .int .i64 (ah : Int), .int .i64 (ab : Int), (.slice pa pn pc), (.slice ca cn cc), .int .i64 (fa : Int), .int .i64 (fb : Int)]]) (by simp [results, Tryz.results27, go_sem, r0, r1, s0, s1, s2, s3', s4, s5, s6, s7, s8]) rfl ?_
          refine ⟨out_below HVe.out.below (by omega), T9, e9, 1, (a : Int), (ah : Int), (ah : Int), ab, pa, pn, pc, ca, cn, cc, (fa : Int), (fb : Int), rfl, ?_, habl2, fun t r hh => ?_⟩
          ·rw [HQ.out]
           have hs := HS9.out
           have ho := HOe.out
           cases hst : partK (treeR d') ah N (cntN s3) with
           | no x => rw [hst] at hs; exact hs
           | ok q s =>
            rw [hst] at hs
            rw [(ho q s hst).1]
            exact isSt_map _ hs
          ·rw [HQ.out] at hh
           obtain ⟨q, s, hst, hh⟩ := bind_ok hh
           obtain ⟨hq, hkd⟩ := HOe.out q s hst
           subst hq
           obtain ⟨v, r', hv, hh⟩ := bind_ok hh
           cases hh
           have hv2 : v = (fa, fb) := HY.out v _ (by rw [hst]; exact hv)
           subst hv2
           have hpv := HpV.out
           have hpp := HP0.out
           unfold refAt
           refine ⟨pa, pn, pc, ca, cn, cc, us, rfl, ?_, ?_, ?_⟩
           ·have ho : ownS (fun k => V.heap.size ≤ k) Y 27 2 (.slice ca cn cc) cs.length (spCells cs) := own_base0 HCe.out (fun a h1 _ => h1)
            exact ho.keep (fun k hk _ => ⟨out_heap (by omega) (by omega), by omega⟩)
           ·have ho : ownS (fun k => V.heap.size ≤ k) Y 40 9 (.slice pa pn pc) us.length (us.flatMap partCells) := own_base0 HRe.out (fun a h1 _ => h1)
            exact ho.keep (fun k hk _ => ⟨out_heap (by omega) (by omega), by omega⟩)
           ·exact refKs.keep (fun k hk _ => ⟨out_heap (by have := hk.1; omega) (by have := hk.1; omega), by have := hk.1; omega⟩) _ _ hkd
         | ok q s =>
          rw [hP] at hsi
          obtain ⟨rfl, hTs, hTz⟩ := hsi
          obtain ⟨hq0, hb0, hN0, hk0⟩ := hoi q s hP
          have HSt : Hid (T.data.toList = s ∧ T.size ≤ 1000000) := ⟨hTs, hTz⟩
          have HPi : Hid (partK (treeR d') ah (i + 1) (cntN s3) = (apP at0 s).bind fun c s => (treeR d' c.2 s).bind fun k s => .ok (ts ++ [k], cs ++ [c], k.bd.2) s) := by
           unfold Hid
           rw [partK_snoc, hP, hq0]
           rfl
          have HKs := Lib.hid hk0
          have HB0 := Lib.hid hb0
          clear hTs hTz hq0 hk0 hoi hP
          have hwr := HBx.out.lt
          obtain ⟨X1, hX1⟩ : ∃ X1, X1 = (wr.alloc (.cells #[.int .i64 0, .int .i64 0] 27)).alloc (.cells #[.int .i64 0, .int .i64 0, .int .i64 0, .int .i64 0, .int .i64 0, .slice none 0 0, .slice none 0 0, .int .i64 0, .int .i64 0] 40) := ⟨_, rfl⟩
          have hbX : Below wr.heap.size wr X1 := by rw [hX1]; exact ((Below.refl _ _).alloc (Nat.le_refl _) _).alloc (by simp) _
          have HBX := Lib.hid hbX
          have HXb := Lib.hid (HBx.out.keep hbX)
          obtain ⟨cB, hcB⟩ : ∃ cB, cB = wr.heap.size := ⟨_, rfl⟩
          have HXc : Hid (X1.heap[cB]? = some (.cells #[.int .i64 0, .int .i64 0] 27 (0, 0))) := by unfold Hid; rw [hX1, hcB]; exact heap_alloc2_old wr _ _
          have HXk : Hid (X1.heap[cB + 1]? = some (.cells #[.int .i64 0, .int .i64 0, .int .i64 0, .int .i64 0, .int .i64 0, .slice none 0 0, .slice none 0 0, .int .i64 0, .int .i64 0] 40 (0, 0))) := by unfold Hid; rw [hX1, hcB]; exact heap_alloc2_new wr _ _
          have HXz : Hid (X1.heap.size = cB + 2) := by unfold Hid; rw [hX1, hcB]; simp
          have HcB : Hid (cB = wr.heap.size) := hcB
          have HcV : Hid (V.heap.size ≤ cB) := by unfold Hid; rw [hcB]; exact HLq.out.k2.size
          have HSp := Lib.hid (refSpanS (.ok () s : Rs Unit) T 0 at0 X1 ⟨rfl, HSt.out.1, HSt.out.2⟩ (by omega))
          have hy := nOf_lt (.ok () s : Rs Unit)
          have hy' := nOf_lt (nextN (.ok () s : Rs Unit))
          obtain ⟨c1v, hc1v⟩ : ∃ z, z = (spNext (.ok () s : Rs Unit) at0).1 := ⟨_, rfl⟩
          obtain ⟨c2v, hc2v⟩ : ∃ z, z = (spNext (.ok () s : Rs Unit) at0).2 := ⟨_, rfl⟩
          have hc2l : c2v ≤ at0 + 2199023255552 := by
           rw [hc2v]
           unfold spNext
           show at0 + _ + _ ≤ _
           omega
          have HCv : Hid (∀ v s', apP at0 s = .ok v s' → v = (c1v, c2v)) := fun v s' hh => by rw [spNext_ok (st := (.ok () s : Rs Unit)) hh, hc1v, hc2v]
          have HBu2 : Hid (∀ v s', apP at0 s = .ok v s' → c2v + s'.length * 1099511627776 ≤ 576460752303423488) := fun v s' hh => by
           have h1 := apP_bud hh
           have h2 := HCv.out v s' hh
           subst h2
           have h3 := HB0.out
           exact Nat.le_trans h1.2.2 h3
          rw [← hc1v, ← hc2v, show ((0 : Nat) : Int) = 0 from rfl, show ((.ok () s : Rs Unit).bind fun _ s => apP at0 s) = apP at0 s from rfl] at HSp
          unfold rV at HSp
          clear hy hy' hc1v hc2v hbX
          obtain ⟨c0, c1⟩ := two_cells HBx.out.r0
          go_upto_region 22 with fail
          rw [← hX1, ← hcB]
          clear c0 c1 hX1 hcB
          obtain ⟨c0, c1⟩ := two_cells HXb.out.r0
          go_wp2_with fail
          with_reducible refine (HSp.out).mono ?_
          rintro e' v7 ⟨T7, e7, rfl, hs7, hb7⟩
          have HB7 := Lib.hid (HXb.out.keep hb7)
          have HS7 := Lib.hid hs7
          have hzX := HXz.out
          have HC7 := Lib.hid ((hb7.block cB (by omega)).trans HXc.out)
          have HK7 := Lib.hid ((hb7.block (cB + 1) (by omega)).trans HXk.out)
          have HG7 := Lib.hid ((((Gr.refl w.heap.size wr).below HBX.out).below hb7).set 0 (.string T7) |>.set 1 (.int .i64 (e7 : Int)))
          have HZ7 : Hid (cB + 2 ≤ v7.heap.size) := by have := hb7.size; unfold Hid; omega
          clear hs7 hb7 c0 c1 HSp HXb HXc HXk
          obtain ⟨c0, c1⟩ := two_cells HB7.out.r0
          obtain ⟨f0, f1⟩ := two_frozen HB7.out.r0
          obtain ⟨d0, d1⟩ := two_cells HC7.out
          obtain ⟨k0, k1⟩ := two_frozen HC7.out
          have hcw : w.heap.size + 1 + 1 < cB := by have := HcB.out; omega
          have na1 : ¬ cB = w.heap.size := by omega
          have na2 : ¬ w.heap.size = cB := by omega
          go_upto_region 23 with fail
          have hB7 := HB7.out.set T7 e7
          have hC7 := other_set (i := 1) (B' := w.heap.size) (.int .i64 (e7 : Int)) (other_set (i := 0) (B' := w.heap.size) (.string T7) HC7.out (by omega)) (by omega)
          have hK7 := other_set (i := 1) (B' := w.heap.size) (.int .i64 (e7 : Int)) (other_set (i := 0) (B' := w.heap.size) (.string T7) HK7.out (by omega)) (by omega)
          obtain ⟨Wa, hWa⟩ : ∃ W, W = ((v7.setCell ⟨w.heap.size, 0, none⟩ (.string T7)).setCell ⟨w.heap.size, 1, none⟩ (.int .i64 (e7 : Int))) := ⟨_, rfl⟩
          have hGa := HG7.out
          have hza : cB + 2 ≤ Wa.heap.size := by rw [hWa, size_set, size_set]; exact HZ7.out
          rw [← hWa] at hB7 hC7 hK7 hGa ⊢
          have HW7 := Lib.hid ((hB7.far (p := ⟨cB, 0, none⟩) (v := .int .i64 (c1v : Int)) hcw).far (p := ⟨cB, 1, none⟩) (v := .int .i64 (c2v : Int)) hcw)
          have HCc := Lib.hid (two_set1 (.int .i64 (c2v : Int)) (two_set0 (.int .i64 (c1v : Int)) hC7))
          have HKk := Lib.hid (other_set (i := 1) (B' := cB) (.int .i64 (c2v : Int)) (other_set (i := 0) (B' := cB) (.int .i64 (c1v : Int)) hK7 (by omega)) (by omega))
          have HGg := Lib.hid (gr_set (p := ⟨cB, 1, none⟩) (gr_set (p := ⟨cB, 0, none⟩) hGa (by rw [HcB.out]; exact Nat.le_refl _) (.int .i64 (c1v : Int))) (by rw [HcB.out]; exact Nat.le_refl _) (.int .i64 (c2v : Int)))
          obtain ⟨Wb, hWb⟩ : ∃ W, W = (Wa.setCell ⟨cB, 0, none⟩ (.int .i64 (c1v : Int))).setCell ⟨cB, 1, none⟩ (.int .i64 (c2v : Int)) := ⟨_, rfl⟩
          have HWz : Hid (cB + 2 ≤ Wb.heap.size) := by unfold Hid; rw [hWb, size_set, size_set]; exact hza
          rw [← hWb] at HW7 HCc HKk HGg ⊢
          clear hWa hWb hB7 hC7 hK7 hGa hza c0 c1 f0 f1 d0 d1 k0 k1 HB7 HC7 HK7 HG7 HZ7
          have HGt := Lib.hid (HIh2.out Sp (apP at0 s) T7 e7 c2v Wb HS7.out HBu2.out (by omega))
          unfold getPostR rV at HGt
          obtain ⟨c0, c1⟩ := two_cells HW7.out.r0
          obtain ⟨d0, d1⟩ := two_cells HCc.out
          go_wp2_with fail
          with_reducible refine (HGt.out).mono ?_
          rintro e' v8 ⟨hb8, T8, e8, g0, g1, g2, g3, g4, ka, kn, kc, ca, cn, cc, g7, g8, rfl, hs8, hg4, hr8⟩
          have HB8 := Lib.hid (HW7.out.keep hb8)
          have HC8 := Lib.hid ((hb8.block cB (by have := HWz.out; omega)).trans HCc.out)
          have HK8 := Lib.hid ((hb8.block (cB + 1) (by have := HWz.out; omega)).trans HKk.out)
          have HG8 := Lib.hid (((HGg.out.below hb8).set 0 (.string T8)).set 1 (.int .i64 (e8 : Int)))
          have HS8 := Lib.hid hs8
          have HR8 := Lib.hid hr8
          have HZ8 : Hid (cB + 2 ≤ v8.heap.size) := Nat.le_trans HWz.out hb8.size
          have hg4l : g4 ≤ 576465150349934592 := by have := HB0.out; omega
          clear hb8 hs8 hr8 hg4 c0 c1 d0 d1 HGt HW7 HCc HKk HGg
          obtain ⟨c0, c1⟩ := two_cells HB8.out.r0
          obtain ⟨f0, f1⟩ := two_frozen HB8.out.r0
          obtain ⟨z0, z1, z2, z3, z4, z5, z6, z7, z8⟩ := nine_cells HK8.out
          have zf := fun j => rf_frozen (W := v8) (B := cB + 1) (ks := .slice none 0 0) (cs := .slice none 0 0) (k := 0) (a := 0) (b := 0) (c := 0) (d := 0) (e := 0) (f := 0) HK8.out j
          have zf0 := zf 0
          have zf1 := zf 1
          have zf2 := zf 2
          have zf3 := zf 3
          have zf4 := zf 4
          have zf5 := zf 5
          have zf6 := zf 6
          have zf7 := zf 7
          have zf8 := zf 8
          clear zf
          have nb1 : ¬ cB + 1 = w.heap.size := by omega
          have nb2 : ¬ w.heap.size = cB + 1 := by omega
          go_upto_region 24 with fail
          have hB8 := HB8.out.set T8 e8
          have hC8 := other_set (i := 1) (B' := w.heap.size) (.int .i64 (e8 : Int)) (other_set (i := 0) (B' := w.heap.size) (.string T8) HC8.out (by omega)) (by omega)
          have hK8 := other_set (i := 1) (B' := w.heap.size) (.int .i64 (e8 : Int)) (other_set (i := 0) (B' := w.heap.size) (.string T8) HK8.out (by omega)) (by omega)
          have hG8 := HG8.out
          obtain ⟨Wc, hWc⟩ : ∃ W, W = ((v8.setCell ⟨w.heap.size, 0, none⟩ (.string T8)).setCell ⟨w.heap.size, 1, none⟩ (.int .i64 (e8 : Int))) := ⟨_, rfl⟩
          have hR8 : ∀ t r, treeQ d' c2v (apP at0 s) = .ok t r → refAt (fun k => Wb.heap.size ≤ k) Wc t (.agg #[.int .i64 g0, .int .i64 g1, .int .i64 g2, .int .i64 g3, .int .i64 (g4 : Int), .slice ka kn kc, .slice ca cn cc, .int .i64 g7, .int .i64 g8]) := fun t r hh => refAt.keep (fun k hk _ => ⟨by rw [hWc, Below.heap_setCell _ _ _ _ (show k ≠ w.heap.size by have := HWz.out; omega), Below.heap_setCell _ _ _ _ (show k ≠ w.heap.size by have := HWz.out; omega)], hk⟩) _ _ (HR8.out t r hh)
          have hzc : cB + 2 ≤ Wc.heap.size := by rw [hWc, size_set, size_set]; exact HZ8.out
          rw [← hWc] at hB8 hC8 hK8 hG8 ⊢
          clear hWc c0 c1 f0 f1 z0 z1 z2 z3 z4 z5 z6 z7 z8 zf0 zf1 zf2 zf3 zf4 zf5 zf6 zf7 zf8 HB8 HC8 HK8 HG8 HR8 HZ8
          have HWd := Lib.hid (hB8.far9 (g := cB + 1) (.int .i64 g0) (.int .i64 g1) (.int .i64 g2) (.int .i64 g3) (.int .i64 (g4 : Int)) (.slice ka kn kc) (.slice ca cn cc) (.int .i64 g7) (.int .i64 g8) (by omega))
          have HCd := Lib.hid ((set9_heap (W := Wc) (g := cB + 1) (.int .i64 g0) (.int .i64 g1) (.int .i64 g2) (.int .i64 g3) (.int .i64 (g4 : Int)) (.slice ka kn kc) (.slice ca cn cc) (.int .i64 g7) (.int .i64 g8) (show cB ≠ cB + 1 by omega)).trans hC8)
          have HKd := Lib.hid (set9_row (W := Wc) (g := cB + 1) (.int .i64 g0) (.int .i64 g1) (.int .i64 g2) (.int .i64 g3) (.int .i64 (g4 : Int)) (.slice ka kn kc) (.slice ca cn cc) (.int .i64 g7) (.int .i64 g8) hK8)
          have HGd : Hid (Gr w.heap.size wr (set9 Wc (cB + 1) (.int .i64 g0) (.int .i64 g1) (.int .i64 g2) (.int .i64 g3) (.int .i64 (g4 : Int)) (.slice ka kn kc) (.slice ca cn cc) (.int .i64 g7) (.int .i64 g8))) := gr_set9 (g := cB + 1) hG8 (by rw [HcB.out]; omega)
          have HRd : Hid (∀ t r, treeQ d' c2v (apP at0 s) = .ok t r → refAt (fun k => Wb.heap.size ≤ k) (set9 Wc (cB + 1) (.int .i64 g0) (.int .i64 g1) (.int .i64 g2) (.int .i64 g3) (.int .i64 (g4 : Int)) (.slice ka kn kc) (.slice ca cn cc) (.int .i64 g7) (.int .i64 g8)) t (.agg #[.int .i64 g0, .int .i64 g1, .int .i64 g2, .int .i64 g3, .int .i64 (g4 : Int), .slice ka kn kc, .slice ca cn cc, .int .i64 g7, .int .i64 g8])) := fun t r hh => refAt.keep (fun k hk _ => ⟨set9_heap _ _ _ _ _ _ _ _ _ (show k ≠ cB + 1 by have := HWz.out; omega), hk⟩) _ _ (hR8 t r hh)
          have HZd : Hid (cB + 2 ≤ (set9 Wc (cB + 1) (.int .i64 g0) (.int .i64 g1) (.int .i64 g2) (.int .i64 g3) (.int .i64 (g4 : Int)) (.slice ka kn kc) (.slice ca cn cc) (.int .i64 g7) (.int .i64 g8)).heap.size) := by unfold Hid set9; simp only [size_set]; exact hzc
          obtain ⟨Wd, hWd⟩ : ∃ W, W = set9 Wc (cB + 1) (.int .i64 g0) (.int .i64 g1) (.int .i64 g2) (.int .i64 g3) (.int .i64 (g4 : Int)) (.slice ka kn kc) (.slice ca cn cc) (.int .i64 g7) (.int .i64 g8) := ⟨_, rfl⟩
          rw [← hWd] at HWd HCd HKd HGd HRd HZd
          unfold set9 at hWd
          rw [← hWd]
          clear hWd hB8 hC8 hK8 hG8 hR8 hzc
          have hown := HLq.out.row.lt
          have hcut := HLq.out.cut.lt
          have HLd := Lib.hid (HLq.out.gr HRV.out.1 HpV.out HRV.out.2 HGd.out)
          have HKt : Hid (∀ t r, treeQ d' c2v (apP at0 s) = .ok t r → refKs (Lz V pv cv) Wd (ts ++ [t]) (us ++ [.agg #[.int .i64 g0, .int .i64 g1, .int .i64 g2, .int .i64 g3, .int .i64 (g4 : Int), .slice ka kn kc, .slice ca cn cc, .int .i64 g7, .int .i64 g8]])) := fun t r hh => refKs_snoc (Lz.gr HKs.out HRV.out.1 HGd.out) (refAt.keep (fun k hk _ => ⟨rfl, by have := HcV.out; have := HWz.out; omega, fun e => by have := hown k e; have := HcB.out; have := HWz.out; omega, fun e => by have := hcut k e; have := HcB.out; have := HWz.out; omega⟩) _ _ (HRd.out t r hh))
          have HOp : Hid (∀ q, pv.ownBlock = some q → V.heap.size ≤ q ∧ q < cB) := fun q hq => by have := hown q hq; have := HcB.out; omega
          have HOc : Hid (∀ q, cv.ownBlock = some q → V.heap.size ≤ q ∧ q < cB) := fun q hq => by have := hcut q hq; have := HcB.out; omega
          clear hown hcut HGd HRd HKs HLq
          obtain ⟨q0, q1, q2, q3, q4, q5, q6, q7, q8⟩ := rf_cells HLd.out.hp
          have jf6 := rf_frozen HLd.out.hp 6
          obtain ⟨d0, d1⟩ := two_cells HCd.out
          obtain ⟨iS, hSi, hS0, hS1, hS2⟩ := info_parts Tryz.infoSp
          have hcl := HCl.out
          have hul := HUl.out
          have hle1 : cs.length + 1 ≤ maxLen := by unfold maxLen; omega
          have hle2 : (cs.length + 1) * 16 ≤ 140737488355328 := by omega
          have hle3 : us.length + 1 ≤ maxLen := by unfold maxLen; omega
          have hle4 : (us.length + 1) * 104 ≤ 140737488355328 := by omega
          clear hcl hul
          have hpd : p0 < Wd.heap.size := by have := HpV.out; have := HcV.out; have := HZd.out; omega
          go_upto_region 25 with (at_builtin; refine wpList_append_lies _ rfl _ _ 29 rfl V.heap.size 27 iS (.agg #[.int .i64 0, .int .i64 0]) 2 16 Tryz.underlying29 hSi hS0 hS1 hS2 rfl (by decide) _ cs.length (spCells cs) rfl (HLd.out.cut.alloc _) ⟨Wd.heap.size, 0, none⟩ 1 1 [.int .i64 (c1v : Int), .int .i64 (c2v : Int)] rfl rfl (World.news_of_block (cs := #[.int .i64 (c1v : Int), .int .i64 (c2v : Int)]) (heap_alloc_new Wd _)) (by simp [Value.oneCell']) (by decide) hle1 hle2 (by have := HcV.out; have := HZd.out; simp; omega) _ rfl ?_; intro g13 cap13 w13 hown13 hgrow13 hor13 hlt13; have hp13 := (hgrow13.block p0 (by simp; omega) (fun e => by have := HOc.out p0 e.symm; have := HpV.out; omega)).trans ((Below.heap_alloc _ _ _ hpd).trans HLd.out.hp); have q6 := (rf_cells hp13).2.2.2.2.2.2.1; have jf6 := rf_frozen hp13 6)
          have hLa := HLd.out.below HpV.out ((Below.refl Wd.heap.size Wd).alloc (Nat.le_refl _) (.cells #[.int .i64 (c1v : Int), .int .i64 (c2v : Int)] 27))
          have HKa : Hid (∀ t r, treeQ d' c2v (apP at0 s) = .ok t r → refKs (Lz V pv (.slice (some ⟨g13, 0, none⟩) (cs.length + 1) cap13)) (w13.setCell ⟨p0, 6, none⟩ (.slice (some ⟨g13, 0, none⟩) (cs.length + 1) cap13)) (ts ++ [t]) (us ++ [.agg #[.int .i64 g0, .int .i64 g1, .int .i64 g2, .int .i64 g3, .int .i64 (g4 : Int), .slice ka kn kc, .slice ca cn cc, .int .i64 g7, .int .i64 g8]])) := fun t r hh => (hLa.cutapp (c := (c1v, c2v)) HpV.out rfl hown13 hgrow13 hor13).2 (refKs.keep (fun k hk hz => ⟨Below.heap_alloc _ _ _ hz, hk⟩) _ _ (HKt.out t r hh))
          have HLe := Lib.hid (hLa.cutapp (c := (c1v, c2v)) (ts := []) (us2 := []) HpV.out rfl hown13 hgrow13 hor13).1
          have hWa13 := (hgrow13.block (cB + 1) (by have := HZd.out; simp; omega) (fun e => by have := HOc.out (cB + 1) e.symm; omega)).trans ((Below.heap_alloc _ _ _ (by have := HZd.out; omega)).trans HKd.out)
          have HWe := Lib.hid (((HWd.out.keep ((Below.refl Wd.heap.size Wd).alloc (Nat.le_refl _) (.cells #[.int .i64 (c1v : Int), .int .i64 (c2v : Int)] 27))).grown hgrow13 (fun k e => by have := HOc.out k e; have := HcV.out; have := HP0.out; have := HpV.out; omega)).far (p := ⟨p0, 6, none⟩) (v := .slice (some ⟨g13, 0, none⟩) (cs.length + 1) cap13) HP0.out)
          have HKe := Lib.hid (other_set (i := 6) (B' := p0) (.slice (some ⟨g13, 0, none⟩) (cs.length + 1) cap13) hWa13 (by have := HpV.out; have := HcV.out; omega))
          have HZe : Hid (cB + 2 ≤ (w13.setCell ⟨p0, 6, none⟩ (.slice (some ⟨g13, 0, none⟩) (cs.length + 1) cap13)).heap.size) := by
           have h1 := hgrow13.size
           have h2 := HZd.out
           unfold Hid
           rw [size_set]
           simp only [World.size_alloc] at h1
           omega
          obtain ⟨We, hWe⟩ : ∃ W, W = w13.setCell ⟨p0, 6, none⟩ (.slice (some ⟨g13, 0, none⟩) (cs.length + 1) cap13) := ⟨_, rfl⟩
          obtain ⟨cv2, hcv2⟩ : ∃ v, v = Value.slice (some ⟨g13, 0, none⟩) (cs.length + 1) cap13 := ⟨_, rfl⟩
          clear q0 q1 q2 q3 q4 q5 q7 q8 d0 d1 hLa hWa13
          rw [← hWe] at HKa HLe HWe HKe HZe ⊢
          clear hWe hown13 hgrow13 hor13 hlt13 hp13 q6 jf6 HLd HKt HWd HKd HCd HZd hpd
          obtain ⟨q0, q1, q2, q3, q4, q5, q6, q7, q8⟩ := rf_cells HLe.out.hp
          have jf5 := rf_frozen HLe.out.hp 5
          obtain ⟨m0, m1, m2, m3, m4, m5, m6, m7, m8⟩ := nine_cells HKe.out
          obtain ⟨iP, hPi, hP0', hP1, hP2⟩ := info_parts Tryz.infoRp
          have hpe : p0 < We.heap.size := by have := HpV.out; have := HcV.out; have := HZe.out; omega
          go_upto_region 26 with (at_builtin; refine wpList_append_lies _ rfl _ _ 38 rfl V.heap.size 40 iP (.agg #[.int .i64 0, .int .i64 0, .int .i64 0, .int .i64 0, .int .i64 0, .slice none 0 0, .slice none 0 0, .int .i64 0, .int .i64 0]) 9 104 Tryz.underlying38 hPi hP0' hP1 hP2 rfl (by decide) _ us.length (us.flatMap partCells) rfl (HLe.out.row.alloc _) ⟨We.heap.size, 0, none⟩ 1 1 [.int .i64 g0, .int .i64 g1, .int .i64 g2, .int .i64 g3, .int .i64 (g4 : Int), .slice ka kn kc, .slice ca cn cc, .int .i64 g7, .int .i64 g8] rfl rfl (World.news_of_block (cs := #[.int .i64 g0, .int .i64 g1, .int .i64 g2, .int .i64 g3, .int .i64 (g4 : Int), .slice ka kn kc, .slice ca cn cc, .int .i64 g7, .int .i64 g8]) (heap_alloc_new We _)) (by simp [Value.oneCell']) (by decide) hle3 hle4 (by have := HcV.out; have := HZe.out; simp; omega) _ rfl ?_; intro g14 cap14 w14 hown14 hgrow14 hor14 hlt14; have hp14 := (hgrow14.block p0 (by simp; omega) (fun e => by have := HOp.out p0 e.symm; have := HpV.out; omega)).trans ((Below.heap_alloc _ _ _ hpe).trans HLe.out.hp); have q5 := (rf_cells hp14).2.2.2.2.2.1; have jf5 := rf_frozen hp14 5)
          have hLa := HLe.out.below HpV.out ((Below.refl We.heap.size We).alloc (Nat.le_refl _) (.cells #[.int .i64 g0, .int .i64 g1, .int .i64 g2, .int .i64 g3, .int .i64 (g4 : Int), .slice ka kn kc, .slice ca cn cc, .int .i64 g7, .int .i64 g8] 40))
          have HKf : Hid (∀ t r, treeQ d' c2v (apP at0 s) = .ok t r → refKs (Lz V (.slice (some ⟨g14, 0, none⟩) (us.length + 1) cap14) (.slice (some ⟨g13, 0, none⟩) (cs.length + 1) cap13)) (w14.setCell ⟨p0, 5, none⟩ (.slice (some ⟨g14, 0, none⟩) (us.length + 1) cap14)) (ts ++ [t]) (us ++ [.agg #[.int .i64 g0, .int .i64 g1, .int .i64 g2, .int .i64 g3, .int .i64 (g4 : Int), .slice ka kn kc, .slice ca cn cc, .int .i64 g7, .int .i64 g8]])) := fun t r hh => (hLa.kidapp (u := .agg #[.int .i64 g0, .int .i64 g1, .int .i64 g2, .int .i64 g3, .int .i64 (g4 : Int), .slice ka kn kc, .slice ca cn cc, .int .i64 g7, .int .i64 g8]) HpV.out rfl hown14 hgrow14 hor14).2 (refKs.keep (fun k hk hz => ⟨Below.heap_alloc _ _ _ hz, hk⟩) _ _ (HKa.out t r hh))
          have HLf := Lib.hid (hLa.kidapp (u := .agg #[.int .i64 g0, .int .i64 g1, .int .i64 g2, .int .i64 g3, .int .i64 (g4 : Int), .slice ka kn kc, .slice ca cn cc, .int .i64 g7, .int .i64 g8]) (ts := []) (us2 := []) HpV.out rfl hown14 hgrow14 hor14).1
          have hWa14 := (hgrow14.block (cB + 1) (by have := HZe.out; simp; omega) (fun e => by have := HOp.out (cB + 1) e.symm; omega)).trans ((Below.heap_alloc _ _ _ (by have := HZe.out; omega)).trans HKe.out)
          have HWf := Lib.hid (((HWe.out.keep ((Below.refl We.heap.size We).alloc (Nat.le_refl _) (.cells #[.int .i64 g0, .int .i64 g1, .int .i64 g2, .int .i64 g3, .int .i64 (g4 : Int), .slice ka kn kc, .slice ca cn cc, .int .i64 g7, .int .i64 g8] 40))).grown hgrow14 (fun k e => by have := HOp.out k e; have := HcV.out; have := HP0.out; have := HpV.out; omega)).far (p := ⟨p0, 5, none⟩) (v := .slice (some ⟨g14, 0, none⟩) (us.length + 1) cap14) HP0.out)
          have HKk := Lib.hid (other_set (i := 5) (B' := p0) (.slice (some ⟨g14, 0, none⟩) (us.length + 1) cap14) hWa14 (by have := HpV.out; have := HcV.out; omega))
          obtain ⟨Wf, hWf⟩ : ∃ W, W = w14.setCell ⟨p0, 5, none⟩ (.slice (some ⟨g14, 0, none⟩) (us.length + 1) cap14) := ⟨_, rfl⟩
          clear q0 q1 q2 q3 q4 q6 q7 q8 m0 m1 m2 m3 m4 m5 m6 m7 m8 hLa hWa14
          rw [← hWf] at HKf HLf HWf HKk ⊢
          clear hWf hown14 hgrow14 hor14 hlt14 hp14 q5 jf5 HLe HKa HWe HKe HZe hpe
          obtain ⟨m0, m1, m2, m3, m4, m5, m6, m7, m8⟩ := nine_cells HKk.out
          have HTs : Hid (∃ ts', ∀ t r, treeQ d' c2v (apP at0 s) = .ok t r → ts' = ts ++ [t]) := by
           cases treeQ d' c2v (apP at0 s) with
           | no x => exact ⟨ts, fun t r hh => by cases hh⟩
           | ok t r => exact ⟨ts ++ [t], fun t' r' hh => by cases hh; rfl⟩
          obtain ⟨ts', hts'⟩ := HTs.out
          have HTt := Lib.hid hts'
          have HSn : Hid (isSt (partK (treeR d') ah (i + 1) (cntN s3)) T8 e8) := by
           unfold Hid
           rw [HPi.out]
           have h := HS8.out
           have hc := HCv.out
           cases ha : apP at0 s with
           | no x => rw [ha] at h; exact h
           | ok v s' =>
            rw [ha] at h
            have hv := hc v s' ha
            subst hv
            exact isSt_map _ h
          have HOn : Hid (∀ q s', partK (treeR d') ah (i + 1) (cntN s3) = .ok q s' → q = (ts', cs ++ [(c1v, c2v)], g4) ∧ g4 + s'.length * 1099511627776 ≤ 576460752303423488 ∧ N ≤ 1000 ∧ refKs (Lz V (.slice (some ⟨g14, 0, none⟩) (us.length + 1) cap14) (.slice (some ⟨g13, 0, none⟩) (cs.length + 1) cap13)) Wf ts' (us ++ [.agg #[.int .i64 g0, .int .i64 g1, .int .i64 g2, .int .i64 g3, .int .i64 (g4 : Int), .slice ka kn kc, .slice ca cn cc, .int .i64 g7, .int .i64 g8]])) := fun q s' hh => by
           rw [HPi.out] at hh
           obtain ⟨v, s1, hv, hh⟩ := bind_ok hh
           obtain ⟨t, s2, ht, hh⟩ := bind_ok hh
           cases hh
           have hv2 := HCv.out v s1 hv
           subst hv2
           have hq : treeQ d' c2v (apP at0 s) = .ok t s' := by rw [hv]; exact ht
           have hb1 := HBu2.out _ s1 hv
           have hb2 := (treeP_bud d' c2v s1 t s' (treeP_same d' c2v s1 t s' ht)).1
           have hg : g4 = t.bd.2 := by
            have hr := refKs_last (HKf.out t s' hq)
            obtain ⟨_, _, _, _, _, _, he⟩ := refAt_agg hr
            simp only [Value.agg.injEq, Array.mk.injEq, List.cons.injEq, Value.int.injEq] at he
            have := he.2.2.2.2.1.2
            omega
           refine ⟨by rw [HTt.out t s' hq, hg], by rw [hg]; exact Nat.le_trans hb2 hb1, hN0, ?_⟩
           rw [HTt.out t s' hq]
           exact HKf.out t s' hq
          have HCn : Hid ((cs ++ [(c1v, c2v)]).length = i + 1) := by unfold Hid; rw [List.length_append, HCl.out]; rfl
          have HUn : Hid ((us ++ [Value.agg #[.int .i64 g0, .int .i64 g1, .int .i64 g2, .int .i64 g3, .int .i64 (g4 : Int), .slice ka kn kc, .slice ca cn cc, .int .i64 g7, .int .i64 g8]]).length = i + 1) := by unfold Hid; rw [List.length_append, HUl.out]; rfl
          have HDn : Hid (N - (i + 1) < N - i) := by unfold Hid; omega
          clear hts' HTs HPi HS8 HKf
          go_wp2_with fail
          go_roundg (N - (i + 1))
          case measure => exact HDn.out
          case rel => exact ⟨i + 1, g4, ts', cs ++ [(c1v, c2v)], us ++ [.agg #[.int .i64 g0, .int .i64 g1, .int .i64 g2, .int .i64 g3, .int .i64 (g4 : Int), .slice ka kn kc, .slice ca cn cc, .int .i64 g7, .int .i64 g8]], .slice (some ⟨g14, 0, none⟩) (us.length + 1) cap14, .slice (some ⟨g13, 0, none⟩) (cs.length + 1) cap13, T8, e8, hlt, rfl, rfl, by go_num, hg4l, HCn, HUn, HSn, HOn, HWf, HLf⟩
        ·have hl1 : ¬ (i : Int) < (N : Int) := by omega
         have hl2 : decide ((i : Int) < (N : Int)) = false := decide_eq_false hl1
         have hl3 : decide (i < N) = false := decide_eq_false hlt
         obtain rfl : i = N := by omega
         have HSn : Hid (isSt (partK (treeR d') ah i (cntN s3)) T e) := HSi.out
         have HOn : Hid (∀ q s, partK (treeR d') ah i (cntN s3) = .ok q s → q = (ts, cs, at0) ∧ refKs (Lz V pv cv) wr ts us) := fun q s hh => ⟨(HOi.out q s hh).1, (HOi.out q s hh).2.2.2⟩
         obtain ⟨pa, pn, pc, rfl⟩ := own_is_slice HLq.out.row
         obtain ⟨ca, cn, cc, rfl⟩ := own_is_slice HLq.out.cut
         have HSp := Lib.hid (refSpanS (partK (treeR d') ah i (cntN s3)) T e at0 wr HSn.out (by omega))
         have hy := nOf_lt (partK (treeR d') ah i (cntN s3))
         have hy' := nOf_lt (nextN (partK (treeR d') ah i (cntN s3)))
         obtain ⟨fa, hfa⟩ : ∃ fa, fa = (spNext (partK (treeR d') ah i (cntN s3)) at0).1 := ⟨_, rfl⟩
         obtain ⟨fb, hfb⟩ : ∃ fb, fb = (spNext (partK (treeR d') ah i (cntN s3)) at0).2 := ⟨_, rfl⟩
         have HY : Hid (∀ v s, ((partK (treeR d') ah i (cntN s3)).bind fun _ s => apP at0 s) = .ok v s → v = (fa, fb)) := fun v s hh => by rw [spNext_ok hh, hfa, hfb]
         rw [← hfa, ← hfb] at HSp
         unfold rV at HSp
         clear hy hy' hfa hfb
         obtain ⟨c0, c1⟩ := two_cells HBx.out.r0
         go_wp2_with fail
         with_reducible refine (HSp.out).mono ?_
         rintro e' v9 ⟨T9, e9, rfl, hs9, hb9⟩
         have HB9 := Lib.hid (HBx.out.keep hb9)
         have HL9 := Lib.hid (HLq.out.below HpV.out hb9)
         have HS9 := Lib.hid hs9
         have HO9 : Hid (∀ q s, partK (treeR d') ah i (cntN s3) = .ok q s → q = (ts, cs, at0) ∧ refKs (Lz V (.slice pa pn pc) (.slice ca cn cc)) v9 ts us) := fun q s hh => ⟨(HOn.out q s hh).1, refKs.keep (fun k hk hz => ⟨hb9.block k hz, hk⟩) _ _ (HOn.out q s hh).2⟩
         clear hs9 hb9 c0 c1 HSp
         obtain ⟨c0, c1⟩ := two_cells HB9.out.r0
         obtain ⟨f0, f1⟩ := two_frozen HB9.out.r0
         obtain ⟨q0, q1, q2, q3, q4, q5, q6, q7, q8⟩ := rf_cells HL9.out.hp
         have jf7 := rf_frozen HL9.out.hp 7
         have jf8 := rf_frozen HL9.out.hp 8
         have hpr := HRV.out
         have hp0 := HP0.out
         have nr1 : ¬ p0 = w.heap.size := by omega
         have nr2 : ¬ w.heap.size = p0 := by omega
         go_upto_region 28 with fail
         have hg := ((Gr.refl w.heap.size v9).set 0 (.string T9)).set 1 (.int .i64 (e9 : Int))
         have HBs := HB9.out.set T9 e9
         have HLs := HL9.out.gr HRV.out.1 HpV.out HRV.out.2 hg
         have HOs : ∀ q s, partK (treeR d') ah i (cntN s3) = .ok q s → q = (ts, cs, at0) ∧ refKs (Lz V (.slice pa pn pc) (.slice ca cn cc)) ((v9.setCell ⟨w.heap.size, 0, none⟩ (.string T9)).setCell ⟨w.heap.size, 1, none⟩ (.int .i64 (e9 : Int))) ts us := fun q s hh => ⟨(HO9.out q s hh).1, Lz.gr (HO9.out q s hh).2 HRV.out.1 hg⟩
         clear hg c0 c1 f0 f1 q0 q1 q2 q3 q4 q5 q6 q7 q8 jf7 jf8
         obtain ⟨Ws, hWs⟩ : ∃ W, W = ((v9.setCell ⟨w.heap.size, 0, none⟩ (.string T9)).setCell ⟨w.heap.size, 1, none⟩ (.int .i64 (e9 : Int))) := ⟨_, rfl⟩
         rw [← hWs] at HBs HLs HOs ⊢
         have HVe := Lib.hid ((HBs.far (p := ⟨p0, 7, none⟩) (v := .int .i64 (fa : Int)) hp0).far (p := ⟨p0, 8, none⟩) (v := .int .i64 (fb : Int)) hp0)
         have HPe : Hid (((Ws.setCell ⟨p0, 7, none⟩ (.int .i64 (fa : Int))).setCell ⟨p0, 8, none⟩ (.int .i64 (fb : Int))).heap[p0]? = some (rfO 1 (a : Int) (ah : Int) (ah : Int) (ab : Int) (.slice pa pn pc) (.slice ca cn cc) (fa : Int) (fb : Int))) := by
          have hh := HLs.hp
          unfold rfO at hh
          exact row_set (row_set hh)
         have HRe : Hid (((Ws.setCell ⟨p0, 7, none⟩ (.int .i64 (fa : Int))).setCell ⟨p0, 8, none⟩ (.int .i64 (fb : Int))).ownsRow V.heap.size 40 9 (.slice pa pn pc) us.length (us.flatMap partCells)) := ownsRow_setCell_below (a := ⟨p0, 8, none⟩) (ownsRow_setCell_below (a := ⟨p0, 7, none⟩) HLs.row HpV.out _) HpV.out _
         have HCe : Hid (((Ws.setCell ⟨p0, 7, none⟩ (.int .i64 (fa : Int))).setCell ⟨p0, 8, none⟩ (.int .i64 (fb : Int))).ownsRow V.heap.size 27 2 (.slice ca cn cc) cs.length (spCells cs)) := ownsRow_setCell_below (a := ⟨p0, 8, none⟩) (ownsRow_setCell_below (a := ⟨p0, 7, none⟩) HLs.cut HpV.out _) HpV.out _
         have HOe : Hid (∀ q s, partK (treeR d') ah i (cntN s3) = .ok q s → q = (ts, cs, at0) ∧ refKs (Lz V (.slice pa pn pc) (.slice ca cn cc)) ((Ws.setCell ⟨p0, 7, none⟩ (.int .i64 (fa : Int))).setCell ⟨p0, 8, none⟩ (.int .i64 (fb : Int))) ts us) := fun q s hh => ⟨(HOs q s hh).1, refKs.keep (fun k hk _ => ⟨by have h1 := HpV.out; have h2 := hk.1; rw [Below.heap_setCell _ _ _ _ (show k ≠ p0 by omega), Below.heap_setCell _ _ _ _ (show k ≠ p0 by omega)], hk⟩) _ _ (HOs q s hh).2⟩
         obtain ⟨Y, hY⟩ : ∃ Y, Y = (Ws.setCell ⟨p0, 7, none⟩ (.int .i64 (fa : Int))).setCell ⟨p0, 8, none⟩ (.int .i64 (fb : Int)) := ⟨_, rfl⟩
         rw [← hY] at HVe HPe HRe HCe HOe ⊢
         clear hY hWs HBs HLs HOs HB9 HL9 HO9 HBx HLq HOn hpr hp0 nr1 nr2
         obtain ⟨q0, q1, q2, q3, q4, q5, q6, q7, q8⟩ := rf_cells HPe.out
         obtain ⟨c0, c1⟩ := two_cells HVe.out.r0
         have hO1 := HVe.out.r1
         have hO2 := HVe.out.r2
         obtain ⟨j0, j1⟩ := two_frozen hO1
         obtain ⟨y0, y1⟩ := two_cells hO1
         obtain ⟨z0, z1, z2, z3, z4, z5, z6, z7, z8⟩ := rf_cells (W := Y) (B := w.heap.size + 1 + 1) hO2
         have jj := rf_frozen (W := Y) (B := w.heap.size + 1 + 1) hO2
         have j2 := jj 0
         have j3 := jj 1
         have j4 := jj 2
         have j5 := jj 3
         have j6 := jj 4
         have j7 := jj 5
         have j8 := jj 6
         have j9 := jj 7
         have j10 := jj 8
         have hpp := HP0.out
         have n1 : ¬ p0 = w.heap.size + 1 := by omega
         have n2 : ¬ p0 = w.heap.size + 1 + 1 := by omega
         have n3 : ¬ w.heap.size + 1 = p0 := by omega
         have n4 : ¬ w.heap.size + 1 + 1 = p0 := by omega
         clear hpp jj hO1 hO2
         go_wp2_with fail
         go_region
         go_wp2_with fail
         (try simp only [Exit.inBlock, Exit.then])
         have ho := out_cells (b := w.heap.size + 1) (V := Y) (T := T9) (e := (e9 : Int)) (a0 := .int .i64 1) (a1 := .int .i64 (a : Int)) (a2 := .int .i64 (ah : Int)) (a3 := .int .i64 (ah : Int)) (a4 := .int .i64 (ab : Int)) (a5 := (.slice pa pn pc)) (a6 := (.slice ca cn cc)) (a7 := .int .i64 (fa : Int)) (a8 := .int .i64 (fb : Int)) HVe.out.r1 HVe.out.r2
         unfold outW set9 at ho
         obtain ⟨⟨r0, r1⟩, s0, s1, s2, s3', s4, s5, s6, s7, s8⟩ := ho
         refine bodyPost_ret (v := .tuple #[.agg #[.string T9, .int .i64 (e9 : Int)], .agg #[.int .i64 1, .int .i64 (a : Int), .int .i64 (ah : Int), .int .i64 (ah : Int), .int .i64 (ab : Int), (.slice pa pn pc), (.slice ca cn cc), .int .i64 (fa : Int), .int .i64 (fb : Int)]]) (by simp [results, Tryz.results27, go_sem, r0, r1, s0, s1, s2, s3', s4, s5, s6, s7, s8]) rfl ?_
         refine ⟨out_below HVe.out.below (by omega), T9, e9, 1, (a : Int), (ah : Int), (ah : Int), ab, pa, pn, pc, ca, cn, cc, (fa : Int), (fb : Int), rfl, ?_, habl2, fun t r hh => ?_⟩
         ·rw [HQ.out]
          have hs := HS9.out
          have ho := HOe.out
          cases hst : partK (treeR d') ah i (cntN s3) with
          | no x => rw [hst] at hs; exact hs
          | ok q s =>
           rw [hst] at hs
           rw [(ho q s hst).1]
           exact isSt_map _ hs
         ·rw [HQ.out] at hh
          obtain ⟨q, s, hst, hh⟩ := bind_ok hh
          obtain ⟨hq, hkd⟩ := HOe.out q s hst
          subst hq
          obtain ⟨v, r', hv, hh⟩ := bind_ok hh
          cases hh
          have hv2 : v = (fa, fb) := HY.out v _ (by rw [hst]; exact hv)
          subst hv2
          have hpv := HpV.out
          have hpp := HP0.out
          unfold refAt
          refine ⟨pa, pn, pc, ca, cn, cc, us, rfl, ?_, ?_, ?_⟩
          ·have ho : ownS (fun k => V.heap.size ≤ k) Y 27 2 (.slice ca cn cc) cs.length (spCells cs) := own_base0 HCe.out (fun a h1 _ => h1)
           exact ho.keep (fun k hk _ => ⟨out_heap (by omega) (by omega), by omega⟩)
          ·have ho : ownS (fun k => V.heap.size ≤ k) Y 40 9 (.slice pa pn pc) us.length (us.flatMap partCells) := own_base0 HRe.out (fun a h1 _ => h1)
           exact ho.keep (fun k hk _ => ⟨out_heap (by omega) (by omega), by omega⟩)
          ·exact refKs.keep (fun k hk _ => ⟨out_heap (by have := hk.1; omega) (by have := hk.1; omega), by have := hk.1; omega⟩) _ _ hkd
    ·have HQ : Hid (Q = (treeR d' ah s3).bind fun q s => .ok (.mk 2 (a, ah) (ah, ab) [q] [] (0, 0)) s) := by
      have hh := HQ0.out
      rw [if_neg (by decide), if_pos rfl] at hh
      exact hh
     have hg := HIh.out d' rfl Nat (.ok n s3) T3 0 ah V ⟨rfl, HTl.out.1, HTl.out.2⟩ (fun v s hh => by cases hh; exact HBu.out) (by have := HBu.out; omega)
     rw [show ((0 : Nat) : Int) = 0 from rfl] at hg
     have eq2 : treeQ d' ah (.ok n s3 : Rs Nat) = treeR d' ah s3 := rfl
     rw [eq2] at hg
     obtain ⟨q', hq'⟩ : ∃ q', q' = treeR d' ah s3 := ⟨_, rfl⟩
     rw [← hq'] at hg HQ
     unfold getPostR rV at hg
     have HG := Lib.hid hg
     clear hg eq2 hq' HQ0 HIh
     go_wp2_with fail
     with_reducible refine HG.out.mono ?_
     rintro e' v6 ⟨hb6, T6, e6, g0, g1, g2, g3, g4, ka, kn, kc, ca, cn, cc, g7, g8, rfl, hs6, hg4, hr6⟩
     have HV6 := Lib.hid (HV.out.keep hb6)
     have HP6 := Lib.hid ((hb6.block p0 (by have := HPz.out; omega)).trans HP.out)
     have HS6 := Lib.hid hs6
     have HR6 := Lib.hid hr6
     have HG4 := Lib.hid hg4
     have HZ6 : Hid (V.heap.size ≤ v6.heap.size) := hb6.size
     clear hb6 hs6 hr6 hg4 HG c0 c1 q0 q1 q2 q3 q4 q5 q6 q7 q8
     go_upto_region 12 with fail
     obtain ⟨b6, hb6e⟩ : ∃ b6, b6 = v6.heap.size := ⟨_, rfl⟩
     obtain ⟨U, hU⟩ : ∃ U, U = (v6.alloc (.cells #[.string T6, .int .i64 (e6 : Int)] 66)).alloc (.cells #[.int .i64 g0, .int .i64 g1, .int .i64 g2, .int .i64 g3, .int .i64 (g4 : Int), .slice ka kn kc, .slice ca cn cc, .int .i64 g7, .int .i64 g8] 40) := ⟨_, rfl⟩
     have hbU : Below v6.heap.size v6 U := by rw [hU]; exact ((Below.refl _ _).alloc (Nat.le_refl _) _).alloc (by simp) _
     have hz6 : p0 < v6.heap.size := by have := HPz.out; have := HZ6.out; omega
     have HVU := Lib.hid (HV6.out.keep hbU)
     have HPU := Lib.hid ((hbU.block p0 hz6).trans HP6.out)
     have HU6 : Hid (U.heap[b6]? = some (.cells #[.string T6, .int .i64 (e6 : Int)] 66 (0, 0))) := by unfold Hid; rw [hU, hb6e]; exact heap_alloc2_old v6 _ _
     have HU7 : Hid (U.heap[b6 + 1]? = some (rfO g0 g1 g2 g3 (g4 : Int) (.slice ka kn kc) (.slice ca cn cc) g7 g8)) := by unfold Hid; rw [hU, hb6e]; exact heap_alloc2_new v6 _ _
     have HUz : Hid (U.heap.size = b6 + 2) := by unfold Hid; rw [hU, hb6e]; simp
     have HVz : Hid (V.heap.size ≤ b6) := by rw [hb6e]; exact HZ6.out
     have HRU : Hid (∀ t r, q' = .ok t r → refAt (fun k => V.heap.size ≤ k) U t (.agg #[.int .i64 g0, .int .i64 g1, .int .i64 g2, .int .i64 g3, .int .i64 (g4 : Int), .slice ka kn kc, .slice ca cn cc, .int .i64 g7, .int .i64 g8])) := fun t r hh => refAt_below (HR6.out t r hh) hbU
     rw [← hU, ← hb6e]
     clear hU hbU hb6e hz6 HV6 HP6 HR6 HZ6
     obtain ⟨q0, q1, q2, q3, q4, q5, q6, q7, q8⟩ := rf_cells HPU.out
     obtain ⟨m0, m1, m2, m3, m4, m5, m6, m7, m8⟩ := rf_cells HU7.out
     have jf5 := rf_frozen HPU.out 5
     obtain ⟨i0, hi, hz0, hz1, hz2⟩ := info_parts Tryz.infoRp
     go_wp2_with (at_builtin; refine wpList_append_lies _ rfl _ _ 38 rfl U.heap.size 40 i0 (.agg #[.int .i64 0, .int .i64 0, .int .i64 0, .int .i64 0, .int .i64 0, .slice none 0 0, .slice none 0 0, .int .i64 0, .int .i64 0]) 9 104 Tryz.underlying38 hi hz0 hz1 hz2 rfl (by decide) _ 0 [] rfl (World.ownsRow_nil _ _ _ _) ⟨U.heap.size, 0, none⟩ 1 1 [.int .i64 g0, .int .i64 g1, .int .i64 g2, .int .i64 g3, .int .i64 (g4 : Int), .slice ka kn kc, .slice ca cn cc, .int .i64 g7, .int .i64 g8] rfl rfl (World.news_of_block (cs := #[.int .i64 g0, .int .i64 g1, .int .i64 g2, .int .i64 g3, .int .i64 (g4 : Int), .slice ka kn kc, .slice ca cn cc, .int .i64 g7, .int .i64 g8]) (heap_alloc_new U _)) (by simp [Value.oneCell']) (by decide) (by unfold maxLen; omega) (by omega) (by simp) _ rfl ?_; intro g13 cap13 w13 hown13 hgrow13 hor13 hlt13; have hp13 := (hgrow13.block p0 (by have := HPz.out; have := HVz.out; have := HUz.out; simp; omega) (by intro e; cases e)).trans ((Below.heap_alloc _ _ _ (by have := HPz.out; have := HVz.out; have := HUz.out; omega)).trans HPU.out); have q5 := (rf_cells hp13).2.2.2.2.2.1; have jf5 := rf_frozen hp13 5)
     have hb13 : Below U.heap.size U w13 := ((Below.refl U.heap.size U).alloc (Nat.le_refl _) _).grown hgrow13 (by simp) (fun k hk => by cases hk)
     have HO13 := Lib.hid hown13
     have HG13 : Hid (U.heap.size ≤ g13) := by
      rcases hor13 with hh | hh
      ·cases hh
      ·unfold Hid; rw [hh]; simp
     have HB13 := Lib.hid hb13
     have HV13 := Lib.hid (HVU.out.keep hb13)
     have HP13 := Lib.hid ((hb13.block p0 (by have := HPz.out; have := HVz.out; have := HUz.out; omega)).trans HPU.out)
     have HU13 := Lib.hid ((hb13.block b6 (by have := HUz.out; omega)).trans HU6.out)
     clear hown13 hgrow13 hor13 hlt13 hb13 hp13 q0 q1 q2 q3 q4 q5 q6 q7 q8 m0 m1 m2 m3 m4 m5 m6 m7 m8 jf5 HPU HVU HU6
     have HP14 : Hid ((w13.setCell ⟨p0, 5, none⟩ (.slice (some ⟨g13, 0, none⟩) 1 cap13)).heap[p0]? = some (rfO 2 (a : Int) (ah : Int) (ah : Int) (ab : Int) (.slice (some ⟨g13, 0, none⟩) 1 cap13) (.slice none 0 0) 0 0)) := by
      have hh := HP13.out
      unfold rfO at hh
      exact row_set hh
     have hne : w.heap.size + 1 + 1 < p0 ∧ p0 < b6 := ⟨HP0.out, by have := HPz.out; have := HVz.out; omega⟩
     have HN := Lib.hid hne
     have HV14 := Lib.hid (HV13.out.far (p := ⟨p0, 5, none⟩) (v := .slice (some ⟨g13, 0, none⟩) 1 cap13) hne.1)
     have HU14 := Lib.hid (other_set (i := 5) (B' := p0) (.slice (some ⟨g13, 0, none⟩) 1 cap13) HU13.out (by omega))
     have HK14 : Hid (∀ q, q ≠ p0 → (w13.setCell ⟨p0, 5, none⟩ (.slice (some ⟨g13, 0, none⟩) 1 cap13)).heap[q]? = w13.heap[q]?) := fun q hq => Below.heap_setCell _ _ _ _ hq
     have HO14 : Hid ((w13.setCell ⟨p0, 5, none⟩ (.slice (some ⟨g13, 0, none⟩) 1 cap13)).ownsRow U.heap.size 40 9 (.slice (some ⟨g13, 0, none⟩) 1 cap13) 1 [.int .i64 g0, .int .i64 g1, .int .i64 g2, .int .i64 g3, .int .i64 (g4 : Int), .slice ka kn kc, .slice ca cn cc, .int .i64 g7, .int .i64 g8]) := ownsRow_setCell_below (a := ⟨p0, 5, none⟩) HO13.out (by have := HUz.out; show p0 < _; omega) _
     obtain ⟨Y, hY⟩ : ∃ Y, Y = w13.setCell ⟨p0, 5, none⟩ (.slice (some ⟨g13, 0, none⟩) 1 cap13) := ⟨_, rfl⟩
     rw [← hY] at HP14 HV14 HU14 HK14 HO14 ⊢
     clear hY HP13 HV13 HU13 HO13 hne
     obtain ⟨q0, q1, q2, q3, q4, q5, q6, q7, q8⟩ := rf_cells HP14.out
     obtain ⟨c0, c1⟩ := two_cells HU14.out
     have n5 : ¬ b6 = w.heap.size + 1 := by have := HN.out; omega
     have n6 : ¬ b6 = w.heap.size + 1 + 1 := by have := HN.out; omega
     have n7 : ¬ w.heap.size + 1 = b6 := by have := HN.out; omega
     have n8 : ¬ w.heap.size + 1 + 1 = b6 := by have := HN.out; omega
     have hO1 := HV14.out.r1
     have hO2 := HV14.out.r2
     obtain ⟨j0, j1⟩ := two_frozen hO1
     obtain ⟨y0, y1⟩ := two_cells hO1
     obtain ⟨z0, z1, z2, z3, z4, z5, z6, z7, z8⟩ := rf_cells (W := Y) (B := w.heap.size + 1 + 1) hO2
     have jj := rf_frozen (W := Y) (B := w.heap.size + 1 + 1) hO2
     have j2 := jj 0
     have j3 := jj 1
     have j4 := jj 2
     have j5 := jj 3
     have j6 := jj 4
     have j7 := jj 5
     have j8 := jj 6
     have j9 := jj 7
     have j10 := jj 8
     have hpp := HP0.out
     have n1 : ¬ p0 = w.heap.size + 1 := by omega
     have n2 : ¬ p0 = w.heap.size + 1 + 1 := by omega
     have n3 : ¬ w.heap.size + 1 = p0 := by omega
     have n4 : ¬ w.heap.size + 1 + 1 = p0 := by omega
     clear hpp jj hO1 hO2
     go_wp2_with fail
     go_region
     go_wp2_with fail
     (try simp only [Exit.inBlock, Exit.then])
     have ho := out_cells (b := w.heap.size + 1) (V := Y) (T := T6) (e := (e6 : Int)) (a0 := .int .i64 2) (a1 := .int .i64 (a : Int)) (a2 := .int .i64 (ah : Int)) (a3 := .int .i64 (ah : Int)) (a4 := .int .i64 (ab : Int)) (a5 := (.slice (some ⟨g13, 0, none⟩) 1 cap13)) (a6 := (.slice none 0 0)) (a7 := .int .i64 0) (a8 := .int .i64 0) HV14.out.r1 HV14.out.r2
     unfold outW set9 at ho
     obtain ⟨⟨r0, r1⟩, s0, s1, s2, s3', s4, s5, s6, s7, s8⟩ := ho
     refine bodyPost_ret (v := .tuple #[.agg #[.string T6, .int .i64 (e6 : Int)], .agg #[.int .i64 2, .int .i64 (a : Int), .int .i64 (ah : Int), .int .i64 (ah : Int), .int .i64 (ab : Int), (.slice (some ⟨g13, 0, none⟩) 1 cap13), (.slice none 0 0), .int .i64 0, .int .i64 0]]) (by simp [results, Tryz.results27, go_sem, r0, r1, s0, s1, s2, s3', s4, s5, s6, s7, s8]) rfl ?_
     refine ⟨out_below HV14.out.below (by omega), T6, e6, 2, (a : Int), (ah : Int), (ah : Int), ab, some ⟨g13, 0, none⟩, 1, cap13, none, 0, 0, 0, 0, rfl, by rw [HQ.out]; exact isSt_map _ HS6.out, habl2, fun t r hh => ?_⟩
     rw [HQ.out] at hh
     obtain ⟨q1', s1', hq1, hh⟩ := bind_ok hh
     cases hh
     have hz := HUz.out
     have hvz := HVz.out
     have hpz := HPz.out
     have hn := HN.out
     unfold refAt
     refine ⟨some ⟨g13, 0, none⟩, 1, cap13, none, 0, 0, [.agg #[.int .i64 g0, .int .i64 g1, .int .i64 g2, .int .i64 g3, .int .i64 (g4 : Int), .slice ka kn kc, .slice ca cn cc, .int .i64 g7, .int .i64 g8]], rfl, ownS_nil _ _ _ _, ?_, ?_⟩
     ·have ho : ownS (fun k => U.heap.size ≤ k) Y 40 9 (.slice (some ⟨g13, 0, none⟩) 1 cap13) 1 [.int .i64 g0, .int .i64 g1, .int .i64 g2, .int .i64 g3, .int .i64 (g4 : Int), .slice ka kn kc, .slice ca cn cc, .int .i64 g7, .int .i64 g8] := own_base0 HO14.out (fun a h1 _ => h1)
      exact ho.keep (fun k hk _ => ⟨out_heap (by omega) (by omega), by omega⟩)
     ·unfold refKs
      refine ⟨_, [], rfl, ?_, refKs_nil _ _⟩
      exact refAt.keep (fun k hk hkz => ⟨(out_heap (by omega) (by omega)).trans ((HK14.out k (by omega)).trans (HB13.out.block k hkz)), by omega⟩) _ _ (HRU.out _ _ hq1)
theorem refGet_any : ∀ (d D : Nat), D + d = 33 → ∀ (α : Type) (st : Rs α) (S : ByteArray) (e a : Nat) (w : World), isSt st S e → (∀ v s, st = .ok v s → a + s.length * 1099511627776 ≤ 576460752303423488) → a ≤ 1152921504606846976 →
  Calls Tryz.prog 27 #[rV S (e : Int), .int .i64 (a : Int), .int .i64 (D : Int)] w (getPostR (treeQ d a st) a w) := by
 intro d
 induction d with
 | zero => exact fun D hD => refGet_step 0 D hD (fun d' h => absurd h (by omega))
 | succ d ih =>
  refine fun D hD => refGet_step (d + 1) D hD (fun d' h => ?_)
  obtain rfl : d' = d := by omega
  have h1 := ih (D + 1) (by omega)
  intro α st S e a w hs hb ha
  have h2 := h1 α st S e a w hs hb ha
  rw [show ((D + 1 : Nat) : Int) = (D : Int) + 1 from rfl] at h2
  exact h2
end Go.Proofs.YtedminjnnhlknaaGreatDoor
