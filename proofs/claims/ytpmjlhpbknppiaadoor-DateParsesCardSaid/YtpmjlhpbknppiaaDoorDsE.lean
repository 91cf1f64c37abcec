/- Contract of the document's moment of IMAP's form. -/
import Derived.Test.YtpmjlhpbknppiaaDoorDsA
import Derived.Test.YtpmjlhpbknppiaaDoorDrR
import Derived.Test.YtpmjlhpbknppiaaDoorDtL
import Derived.Test.YtpmjlhpbknppiaaDoorDrD
import Derived.Test.YtpmjlhpbknppiaaDoorQB
import Derived.Deep.RegionHeld
namespace Go.Proofs.YtpmjlhpbknppiaaDoor
open Go Go.RowKit

theorem one_at (s : ByteArray) (k : Nat) (h : k < s.size) : (s.extract k (k + 1)).data.toList = [s[k]] := by
  rw [extract_toList, drop_cons s k h]
  simp
theorem marks_R (s : ByteArray) (h : s.size = 28) : ((s.extract 0 1 ++ s.extract 3 4 ++ s.extract 7 8 ++ s.extract 12 13 ++ s.extract 21 22 ++ s.extract 27 28).toList == [34, 45, 45, 32, 32, 34]) = true ↔ (s.data.toList[0]? = some 34 ∧ s.data.toList[3]? = some 45 ∧ s.data.toList[7]? = some 45 ∧ s.data.toList[12]? = some 32 ∧ s.data.toList[21]? = some 32 ∧ s.data.toList[27]? = some 34) := by
  rw [ByteArray.toList_eq]
  simp only [ByteArray.data_append, Array.toList_append]
  rw [one_at s 0 (by omega), one_at s 3 (by omega), one_at s 7 (by omega), one_at s 12 (by omega), one_at s 21 (by omega), one_at s 27 (by omega)]
  rw [list_at s 0 (by omega), list_at s 3 (by omega), list_at s 7 (by omega), list_at s 12 (by omega), list_at s 21 (by omega), list_at s 27 (by omega)]
  simp
theorem numR_le {y m d n : Int} (hd : d ≤ 100000) (h : numR y m d = some n) : -719162 ≤ n ∧ n ≤ 3000000 := by
  unfold numR at h
  split at h
  · cases h
  · next hc =>
    simp only [not_or] at hc
    exact numberK_le (by omega) (by omega) h
theorem offR_le {l : List UInt8} {z : Int} (h : offR l = some z) : -1500 ≤ z ∧ z ≤ 1500 := by
  obtain ⟨h0, h1⟩ := digK_b ((l.drop 1).take 2) 2 2 (by decide)
  obtain ⟨m0, m1⟩ := digK_b (l.drop 3) 2 2 (by decide)
  unfold offR at h
  split at h
  · cases h
  · split at h
    · cases h
    · next hc =>
      simp only [not_or] at hc
      split at h
      · cases h; omega
      · cases h; omega
theorem clockR_le (l : List UInt8) (need : Bool) (most : Int) (hm : most ≤ 60) : -1 ≤ clockR l need most ∧ clockR l need most ≤ 100000 := by
  obtain ⟨h0, h1⟩ := digK_b (l.take 2) 2 2 (by decide)
  obtain ⟨m0, m1⟩ := digK_b ((l.drop 3).take 2) 2 2 (by decide)
  unfold clockR
  generalize (if l.length = 8 then digK (l.drop 6) 2 2 else 0) = x
  split
  · omega
  · split
    · omega
    · split
      · omega
      · next hc =>
        simp only [not_or] at hc
        omega
set_option maxRecDepth 100000 in
set_option maxHeartbeats 8000000 in
theorem refParseInternal_any (s : ByteArray) (w : World) :
    Calls Tryd.prog 8 #[.string s] w fun e w' => e = .returned (momV (intR s.data.toList)) ∧ Below w.heap.size w w' := by
  obtain ⟨X1, hX1⟩ : ∃ X1, X1 = w.alloc (.cells #[.int .i64 0, .int .i64 0] 27) := ⟨_, rfl⟩
  have HB1 : Hid (Below w.heap.size w X1) := by rw [hX1]; exact (Below.refl _ _).alloc (Nat.le_refl _) _
  have HRes1 : Hid (X1.heap[w.heap.size]? = some (.cells #[.int .i64 0, .int .i64 0] 27 (0, 0))) := by rw [hX1]; exact heap_alloc_new w _
  have hwx : w.heap.size < X1.heap.size := by rw [hX1]; simp
  by_cases h28 : s.size = 28
  · have i1 : ((s.size : Int) != 28) = false := bne_no (by omega)
    have _h28 := h28
    have HMk := Lib.hid (marks_R s h28)
    go_enter Tryd.func8, Tryd.ntmps8
    go_wp2_with fail
    rw [← hX1]
    clear hX1
    go_wp2_with fail
    go_quiet (fail)
    have hbn : Below X1.heap.size X1 (X1.drewN nq) := below_drewN' _
    have HB2 : Hid (Below w.heap.size w (X1.drewN nq)) := HB1.out.trans (hbn.mono HB1.out.size)
    have HRes2 : Hid ((X1.drewN nq).heap[w.heap.size]? = some (.cells #[.int .i64 0, .int .i64 0] 27 (0, 0))) := (hbn.block _ hwx).trans HRes1.out
    have hwx2 : w.heap.size < (X1.drewN nq).heap.size := Nat.lt_of_lt_of_le hwx hbn.size
    clear hbn HB1 HRes1
    generalize X1.drewN nq = W2 at HB2 HRes2 hwx2 ⊢
    have hfz : W2.frozen? ⟨w.heap.size, 0, none⟩ = false := by simp [World.frozen?, HRes2.out]
    have hfy : W2.frozen? ⟨w.heap.size, 1, none⟩ = false := by simp [World.frozen?, HRes2.out]
    have r0 : W2.cell? ⟨w.heap.size, 0, none⟩ = some (.int .i64 0) := by simp [World.cell?, HRes2.out]
    have r1 : W2.cell? ⟨w.heap.size, 1, none⟩ = some (.int .i64 0) := by simp [World.cell?, HRes2.out]
    generalize ((s.extract 0 1 ++ s.extract 3 4 ++ s.extract 7 8 ++ s.extract 12 13 ++ s.extract 21 22 ++ s.extract 27 28).toList == [34, 45, 45, 32, 32, 34]) = M at HMk ⊢
    rcases M with _ | _
    case true =>
      rw [Bool.not_true]
      have hm6 := HMk.out.1 rfl
      obtain ⟨y, hy⟩ : ∃ y, y = digK ((s.data.toList.drop 8).take 4) 4 4 := ⟨_, rfl⟩
      obtain ⟨mo, hmo⟩ : ∃ y, y = monR ((s.data.toList.drop 4).take 3) := ⟨_, rfl⟩
      obtain ⟨da, hda⟩ : ∃ y, y = dyR s.data.toList := ⟨_, rfl⟩
      obtain ⟨sec, hsec⟩ : ∃ y, y = clockR ((s.data.toList.drop 13).take 8) true 59 := ⟨_, rfl⟩
      obtain ⟨Z, hZ⟩ : ∃ y, y = offR ((s.data.toList.drop 22).take 5) := ⟨_, rfl⟩
      obtain ⟨R, hR⟩ : ∃ R0, R0 = numR y mo da := ⟨_, rfl⟩
      have HI : Hid (intR s.data.toList = secR R Z sec) := by
        unfold Hid intR
        rw [if_pos ⟨by rw [len_toList]; exact h28, hm6⟩, ← hy, ← hmo, ← hda, ← hsec, ← hZ, ← hR]
      have hyb := digK_b ((s.data.toList.drop 8).take 4) 4 4 (by decide)
      rw [← hy] at hyb
      have hmob := monR_le ((s.data.toList.drop 4).take 3)
      rw [← hmo] at hmob
      have hdab : -1 ≤ da ∧ da ≤ 9999 := by
        rw [hda]
        unfold dyR
        split
        · exact digK_b _ 1 1 (by decide)
        · exact digK_b _ 2 2 (by decide)
      have hsb := clockR_le ((s.data.toList.drop 13).take 8) true 59 (by decide)
      rw [← hsec] at hsb
      have HC := Lib.hid (fun w => refClock_any (s.extract 13 21) true 59 (by decide) (by decide) w)
      rw [extract_toList s 13 21, ← hsec] at HC
      have HO := Lib.hid (fun w => refOffset_any (s.extract 22 27) w)
      rw [extract_toList s 22 27, ← hZ] at HO
      have HY := Lib.hid (fun w => refDigits_any (s.extract 8 12) 4 4 4 4 rfl rfl (by decide) (by rw [extract_size' s 8 12 (by omega)]; decide) w)
      rw [extract_toList s 8 12, ← hy] at HY
      have HMo := Lib.hid (fun w => refMonth_any (s.extract 4 7) (by rw [extract_size' s 4 7 (by omega)]; decide) w)
      rw [extract_toList s 4 7, ← hmo] at HMo
      have HN := Lib.hid (fun w => refNumber_any y mo da hyb.1 (by omega) (by omega) (by omega) hdab.1 (by omega) w)
      rw [← hR] at HN
      have hRb : ∀ n, R = some n → -719162 ≤ n ∧ n ≤ 3000000 := fun n hn => numR_le (by omega) (hR.symm.trans hn)
      have hZb : ∀ z, Z = some z → -1500 ≤ z ∧ z ≤ 1500 := fun z hz => offR_le (hZ.symm.trans hz)
      have HD2 := Lib.hid (fun w => refDigits_any (s.extract 1 3) 2 2 2 2 rfl rfl (by decide) (by rw [extract_size' s 1 3 (by omega)]; decide) w)
      rw [extract_toList s 1 3] at HD2
      have HD1 := Lib.hid (fun w => refDigits_any (s.extract 2 3) 1 1 1 1 rfl rfl (by decide) (by rw [extract_size' s 2 3 (by omega)]; decide) w)
      rw [extract_toList s 2 3] at HD1
      obtain ⟨d2, hd2⟩ : ∃ y, y = digK ((s.data.toList.drop 1).take (3 - 1)) 2 2 := ⟨_, rfl⟩
      obtain ⟨d1, hd1⟩ : ∃ y, y = digK ((s.data.toList.drop 2).take (3 - 2)) 1 1 := ⟨_, rfl⟩
      rw [← hd2] at HD2
      rw [← hd1] at HD1
      have HDa : Hid (da = if s.data.toList[1]? = some 32 then d1 else d2) := by
        unfold Hid
        rw [hda, hd1, hd2]
        rfl
      have HL1 : Hid (s.data.toList[1]? = some (s[1]'(by omega))) := list_at s 1 (by omega)
      clear hy hmo hda hsec hZ hR hd1 hd2 hm6 HMk
      go_wp2_with fail
      with_reducible refine (HD2.out _).mono ?_
      rintro e w3 ⟨rfl, rfl⟩
      by_cases h32 : (s[1]'(by omega)).toNat = 32
      · have t32 : (((s[1]'(by omega)).toNat : Int) == 32) = true := byte_yes 32 h32
        have hD : da = d1 := by
          rw [HDa.out, HL1.out, if_pos (by rw [(u8_eq 32 (by omega)).1 h32]; rfl)]
        subst hD
        clear h32 HDa
        go_wp2_with fail
        with_reducible refine (HD1.out _).mono ?_
        rintro e w4 ⟨rfl, rfl⟩
        go_wp2_with fail
        clear HD1 HD2 HL1
        rcases R with _ | n
        · unfold numV' at HN
          refine wp_region_below (by kernel_rfl) (by kernel_rfl) ?_
          repeat (go_big_quiet_step (first
            | (go_at_call 28; exact BW.calls_same (HY.out _))
            | (go_at_call 32; exact BW.calls (HMo.out _))
            | (go_at_call 31; exact BW.calls_same (HN.out _))))
          refine wpQuiet_nil ?_
          rintro _ ⟨zz, rfl⟩
          have hzb := zz.h
          have HB3 : Hid (Below w.heap.size w zz.v) := HB2.out.trans (hzb.mono HB2.out.size)
          have HRes3 : Hid (zz.v.heap[w.heap.size]? = some (.cells #[.int .i64 0, .int .i64 0] 27 (0, 0))) := (hzb.block _ hwx2).trans HRes2.out
          clear hzb
          generalize zz.v = W3 at HB3 HRes3 ⊢
          clear HB2 HRes2 hfz hfy r0 r1
          have hfz : W3.frozen? ⟨w.heap.size, 0, none⟩ = false := by simp [World.frozen?, HRes3.out]
          have hfy : W3.frozen? ⟨w.heap.size, 1, none⟩ = false := by simp [World.frozen?, HRes3.out]
          have r0 : W3.cell? ⟨w.heap.size, 0, none⟩ = some (.int .i64 0) := by simp [World.cell?, HRes3.out]
          have r1 : W3.cell? ⟨w.heap.size, 1, none⟩ = some (.int .i64 0) := by simp [World.cell?, HRes3.out]
          clear HY HMo HN
          have HR : Hid (intR s.data.toList = none) := HI.out.trans (secR_n Z sec)
          rcases Z with _ | z
          · unfold numV' at HO
            go_wp2_with fail
            with_reducible refine (HC.out _).mono ?_
            rintro e w4 ⟨rfl, rfl⟩
            go_wp2_with fail
            with_reducible refine (HO.out _).mono ?_
            rintro e w5 ⟨rfl, rfl⟩
            go_wp2_with fail
            refine bodyPost_ret (results_cell_tmp (P := Tryd.prog) Tryd.results8 _ _ w.heap.size 27 _ (0, 0) _ rfl (two_set HRes3.out _ _) Tryd.underlying27 rfl (by kernel_rfl)) rfl ?_
            rw [HR.out]
            exact ⟨rfl, (HB3.out.setCell (Nat.le_refl _) _).setCell (Nat.le_refl _) _⟩
          · unfold numV' at HO
            go_wp2_with fail
            with_reducible refine (HC.out _).mono ?_
            rintro e w4 ⟨rfl, rfl⟩
            go_wp2_with fail
            with_reducible refine (HO.out _).mono ?_
            rintro e w5 ⟨rfl, rfl⟩
            go_wp2_with fail
            refine bodyPost_ret (results_cell_tmp (P := Tryd.prog) Tryd.results8 _ _ w.heap.size 27 _ (0, 0) _ rfl (two_set HRes3.out _ _) Tryd.underlying27 rfl (by kernel_rfl)) rfl ?_
            rw [HR.out]
            exact ⟨rfl, (HB3.out.setCell (Nat.le_refl _) _).setCell (Nat.le_refl _) _⟩
        · obtain ⟨n0, n1⟩ := hRb n rfl
          unfold numV' at HN
          refine wp_region_below (by kernel_rfl) (by kernel_rfl) ?_
          repeat (go_big_quiet_step (first
            | (go_at_call 28; exact BW.calls_same (HY.out _))
            | (go_at_call 32; exact BW.calls (HMo.out _))
            | (go_at_call 31; exact BW.calls_same (HN.out _))))
          refine wpQuiet_nil ?_
          rintro _ ⟨zz, rfl⟩
          have hzb := zz.h
          have HB3 : Hid (Below w.heap.size w zz.v) := HB2.out.trans (hzb.mono HB2.out.size)
          have HRes3 : Hid (zz.v.heap[w.heap.size]? = some (.cells #[.int .i64 0, .int .i64 0] 27 (0, 0))) := (hzb.block _ hwx2).trans HRes2.out
          clear hzb
          generalize zz.v = W3 at HB3 HRes3 ⊢
          clear HB2 HRes2 hfz hfy r0 r1
          have hfz : W3.frozen? ⟨w.heap.size, 0, none⟩ = false := by simp [World.frozen?, HRes3.out]
          have hfy : W3.frozen? ⟨w.heap.size, 1, none⟩ = false := by simp [World.frozen?, HRes3.out]
          have r0 : W3.cell? ⟨w.heap.size, 0, none⟩ = some (.int .i64 0) := by simp [World.cell?, HRes3.out]
          have r1 : W3.cell? ⟨w.heap.size, 1, none⟩ = some (.int .i64 0) := by simp [World.cell?, HRes3.out]
          clear HY HMo HN
          rcases Z with _ | z
          · have HR : Hid (intR s.data.toList = none) := HI.out
            unfold numV' at HO
            go_wp2_with fail
            with_reducible refine (HC.out _).mono ?_
            rintro e w4 ⟨rfl, rfl⟩
            go_wp2_with fail
            with_reducible refine (HO.out _).mono ?_
            rintro e w5 ⟨rfl, rfl⟩
            go_wp2_with fail
            refine bodyPost_ret (results_cell_tmp (P := Tryd.prog) Tryd.results8 _ _ w.heap.size 27 _ (0, 0) _ rfl (two_set HRes3.out _ _) Tryd.underlying27 rfl (by kernel_rfl)) rfl ?_
            rw [HR.out]
            exact ⟨rfl, (HB3.out.setCell (Nat.le_refl _) _).setCell (Nat.le_refl _) _⟩
          · obtain ⟨z0, z1⟩ := hZb z rfl
            by_cases hneg : sec < 0
            · have HR : Hid (intR s.data.toList = none) := HI.out.trans (if_pos hneg)
              have i2 : decide (sec < 0) = true := decide_eq_true hneg
              unfold numV' at HO
              go_wp2_with fail
              with_reducible refine (HC.out _).mono ?_
              rintro e w4 ⟨rfl, rfl⟩
              go_wp2_with fail
              with_reducible refine (HO.out _).mono ?_
              rintro e w5 ⟨rfl, rfl⟩
              go_wp2_with fail
              refine bodyPost_ret (results_cell_tmp (P := Tryd.prog) Tryd.results8 _ _ w.heap.size 27 _ (0, 0) _ rfl (two_set HRes3.out _ _) Tryd.underlying27 rfl (by kernel_rfl)) rfl ?_
              rw [HR.out]
              exact ⟨rfl, (HB3.out.setCell (Nat.le_refl _) _).setCell (Nat.le_refl _) _⟩
            · have HR : Hid (intR s.data.toList = some (86400 * n + sec - 60 * z, z)) := HI.out.trans (if_neg hneg)
              have i2 : decide (sec < 0) = false := decide_eq_false hneg
              unfold numV' at HO
              go_wp2_with fail
              with_reducible refine (HC.out _).mono ?_
              rintro e w4 ⟨rfl, rfl⟩
              go_wp2_with fail
              with_reducible refine (HO.out _).mono ?_
              rintro e w5 ⟨rfl, rfl⟩
              go_wp2_with fail
              refine bodyPost_ret (results_cell_tmp (P := Tryd.prog) Tryd.results8 _ _ w.heap.size 27 _ (0, 0) _ rfl (two_set HRes3.out _ _) Tryd.underlying27 rfl (by kernel_rfl)) rfl ?_
              rw [HR.out]
              exact ⟨rfl, (HB3.out.setCell (Nat.le_refl _) _).setCell (Nat.le_refl _) _⟩
      · have t32 : (((s[1]'(by omega)).toNat : Int) == 32) = false := byte_no 32 h32
        have hD : da = d2 := by
          rw [HDa.out, HL1.out, if_neg (show ¬ some (s[1]'(by omega)) = some 32 from fun h => h32 ((u8_eq 32 (by omega)).2 (Option.some.inj h)))]
        subst hD
        clear h32 HDa
        go_wp2_with fail
        clear HD1 HD2 HL1
        rcases R with _ | n
        · unfold numV' at HN
          refine wp_region_below (by kernel_rfl) (by kernel_rfl) ?_
          repeat (go_big_quiet_step (first
            | (go_at_call 28; exact BW.calls_same (HY.out _))
            | (go_at_call 32; exact BW.calls (HMo.out _))
            | (go_at_call 31; exact BW.calls_same (HN.out _))))
          refine wpQuiet_nil ?_
          rintro _ ⟨zz, rfl⟩
          have hzb := zz.h
          have HB3 : Hid (Below w.heap.size w zz.v) := HB2.out.trans (hzb.mono HB2.out.size)
          have HRes3 : Hid (zz.v.heap[w.heap.size]? = some (.cells #[.int .i64 0, .int .i64 0] 27 (0, 0))) := (hzb.block _ hwx2).trans HRes2.out
          clear hzb
          generalize zz.v = W3 at HB3 HRes3 ⊢
          clear HB2 HRes2 hfz hfy r0 r1
          have hfz : W3.frozen? ⟨w.heap.size, 0, none⟩ = false := by simp [World.frozen?, HRes3.out]
          have hfy : W3.frozen? ⟨w.heap.size, 1, none⟩ = false := by simp [World.frozen?, HRes3.out]
          have r0 : W3.cell? ⟨w.heap.size, 0, none⟩ = some (.int .i64 0) := by simp [World.cell?, HRes3.out]
          have r1 : W3.cell? ⟨w.heap.size, 1, none⟩ = some (.int .i64 0) := by simp [World.cell?, HRes3.out]
          clear HY HMo HN
          have HR : Hid (intR s.data.toList = none) := HI.out.trans (secR_n Z sec)
          rcases Z with _ | z
          · unfold numV' at HO
            go_wp2_with fail
            with_reducible refine (HC.out _).mono ?_
            rintro e w4 ⟨rfl, rfl⟩
            go_wp2_with fail
            with_reducible refine (HO.out _).mono ?_
            rintro e w5 ⟨rfl, rfl⟩
            go_wp2_with fail
            refine bodyPost_ret (results_cell_tmp (P := Tryd.prog) Tryd.results8 _ _ w.heap.size 27 _ (0, 0) _ rfl (two_set HRes3.out _ _) Tryd.underlying27 rfl (by kernel_rfl)) rfl ?_
            rw [HR.out]
            exact ⟨rfl, (HB3.out.setCell (Nat.le_refl _) _).setCell (Nat.le_refl _) _⟩
          · unfold numV' at HO
            go_wp2_with fail
            with_reducible refine (HC.out _).mono ?_
            rintro e w4 ⟨rfl, rfl⟩
            go_wp2_with fail
            with_reducible refine (HO.out _).mono ?_
            rintro e w5 ⟨rfl, rfl⟩
            go_wp2_with fail
            refine bodyPost_ret (results_cell_tmp (P := Tryd.prog) Tryd.results8 _ _ w.heap.size 27 _ (0, 0) _ rfl (two_set HRes3.out _ _) Tryd.underlying27 rfl (by kernel_rfl)) rfl ?_
            rw [HR.out]
            exact ⟨rfl, (HB3.out.setCell (Nat.le_refl _) _).setCell (Nat.le_refl _) _⟩
        · obtain ⟨n0, n1⟩ := hRb n rfl
          unfold numV' at HN
          refine wp_region_below (by kernel_rfl) (by kernel_rfl) ?_
          repeat (go_big_quiet_step (first
            | (go_at_call 28; exact BW.calls_same (HY.out _))
            | (go_at_call 32; exact BW.calls (HMo.out _))
            | (go_at_call 31; exact BW.calls_same (HN.out _))))
          refine wpQuiet_nil ?_
          rintro _ ⟨zz, rfl⟩
          have hzb := zz.h
          have HB3 : Hid (Below w.heap.size w zz.v) := HB2.out.trans (hzb.mono HB2.out.size)
          have HRes3 : Hid (zz.v.heap[w.heap.size]? = some (.cells #[.int .i64 0, .int .i64 0] 27 (0, 0))) := (hzb.block _ hwx2).trans HRes2.out
          clear hzb
          generalize zz.v = W3 at HB3 HRes3 ⊢
          clear HB2 HRes2 hfz hfy r0 r1
          have hfz : W3.frozen? ⟨w.heap.size, 0, none⟩ = false := by simp [World.frozen?, HRes3.out]
          have hfy : W3.frozen? ⟨w.heap.size, 1, none⟩ = false := by simp [World.frozen?, HRes3.out]
          have r0 : W3.cell? ⟨w.heap.size, 0, none⟩ = some (.int .i64 0) := by simp [World.cell?, HRes3.out]
          have r1 : W3.cell? ⟨w.heap.size, 1, none⟩ = some (.int .i64 0) := by simp [World.cell?, HRes3.out]
          clear HY HMo HN
          rcases Z with _ | z
          · have HR : Hid (intR s.data.toList = none) := HI.out
            unfold numV' at HO
            go_wp2_with fail
            with_reducible refine (HC.out _).mono ?_
            rintro e w4 ⟨rfl, rfl⟩
            go_wp2_with fail
            with_reducible refine (HO.out _).mono ?_
            rintro e w5 ⟨rfl, rfl⟩
            go_wp2_with fail
            refine bodyPost_ret (results_cell_tmp (P := Tryd.prog) Tryd.results8 _ _ w.heap.size 27 _ (0, 0) _ rfl (two_set HRes3.out _ _) Tryd.underlying27 rfl (by kernel_rfl)) rfl ?_
            rw [HR.out]
            exact ⟨rfl, (HB3.out.setCell (Nat.le_refl _) _).setCell (Nat.le_refl _) _⟩
          · obtain ⟨z0, z1⟩ := hZb z rfl
            by_cases hneg : sec < 0
            · have HR : Hid (intR s.data.toList = none) := HI.out.trans (if_pos hneg)
              have i2 : decide (sec < 0) = true := decide_eq_true hneg
              unfold numV' at HO
              go_wp2_with fail
              with_reducible refine (HC.out _).mono ?_
              rintro e w4 ⟨rfl, rfl⟩
              go_wp2_with fail
              with_reducible refine (HO.out _).mono ?_
              rintro e w5 ⟨rfl, rfl⟩
              go_wp2_with fail
              refine bodyPost_ret (results_cell_tmp (P := Tryd.prog) Tryd.results8 _ _ w.heap.size 27 _ (0, 0) _ rfl (two_set HRes3.out _ _) Tryd.underlying27 rfl (by kernel_rfl)) rfl ?_
              rw [HR.out]
              exact ⟨rfl, (HB3.out.setCell (Nat.le_refl _) _).setCell (Nat.le_refl _) _⟩
            · have HR : Hid (intR s.data.toList = some (86400 * n + sec - 60 * z, z)) := HI.out.trans (if_neg hneg)
              have i2 : decide (sec < 0) = false := decide_eq_false hneg
              unfold numV' at HO
              go_wp2_with fail
              with_reducible refine (HC.out _).mono ?_
              rintro e w4 ⟨rfl, rfl⟩
              go_wp2_with fail
              with_reducible refine (HO.out _).mono ?_
              rintro e w5 ⟨rfl, rfl⟩
              go_wp2_with fail
              refine bodyPost_ret (results_cell_tmp (P := Tryd.prog) Tryd.results8 _ _ w.heap.size 27 _ (0, 0) _ rfl (two_set HRes3.out _ _) Tryd.underlying27 rfl (by kernel_rfl)) rfl ?_
              rw [HR.out]
              exact ⟨rfl, (HB3.out.setCell (Nat.le_refl _) _).setCell (Nat.le_refl _) _⟩
    case false =>
      rw [Bool.not_false]
      have HR : Hid (intR s.data.toList = none) := by
        unfold Hid intR
        refine if_neg fun h => ?_
        cases HMk.out.2 h.2
      clear HMk
      go_wp2_with fail
      refine bodyPost_ret (results_cell_tmp (P := Tryd.prog) Tryd.results8 _ _ w.heap.size 27 _ (0, 0) _ rfl (two_set HRes2.out _ _) Tryd.underlying27 rfl (by kernel_rfl)) rfl ?_
      rw [HR.out]
      exact ⟨rfl, (HB2.out.setCell (Nat.le_refl _) _).setCell (Nat.le_refl _) _⟩
  · have i1 : ((s.size : Int) != 28) = true := bne_yes (by omega)
    have HR : Hid (intR s.data.toList = none) := by
      unfold Hid intR
      exact if_neg (fun h => h28 (by rw [← len_toList]; exact h.1))
    go_enter Tryd.func8, Tryd.ntmps8
    go_wp2_with fail
    rw [← hX1]
    clear hX1
    go_wp2_with fail
    go_quiet (fail)
    have hbn : Below X1.heap.size X1 (X1.drewN nq) := below_drewN' _
    have HB2 : Hid (Below w.heap.size w (X1.drewN nq)) := HB1.out.trans (hbn.mono HB1.out.size)
    have HRes2 : Hid ((X1.drewN nq).heap[w.heap.size]? = some (.cells #[.int .i64 0, .int .i64 0] 27 (0, 0))) := (hbn.block _ hwx).trans HRes1.out
    have hwx2 : w.heap.size < (X1.drewN nq).heap.size := Nat.lt_of_lt_of_le hwx hbn.size
    clear hbn HB1 HRes1
    generalize X1.drewN nq = W2 at HB2 HRes2 hwx2 ⊢
    have hfz : W2.frozen? ⟨w.heap.size, 0, none⟩ = false := by simp [World.frozen?, HRes2.out]
    have hfy : W2.frozen? ⟨w.heap.size, 1, none⟩ = false := by simp [World.frozen?, HRes2.out]
    have r0 : W2.cell? ⟨w.heap.size, 0, none⟩ = some (.int .i64 0) := by simp [World.cell?, HRes2.out]
    have r1 : W2.cell? ⟨w.heap.size, 1, none⟩ = some (.int .i64 0) := by simp [World.cell?, HRes2.out]
    go_wp2_with fail
    refine bodyPost_ret (results_cell_tmp (P := Tryd.prog) Tryd.results8 _ _ w.heap.size 27 _ (0, 0) _ rfl (two_set HRes2.out _ _) Tryd.underlying27 rfl (by kernel_rfl)) rfl ?_
    rw [HR.out]
    exact ⟨rfl, (HB2.out.setCell (Nat.le_refl _) _).setCell (Nat.le_refl _) _⟩
end Go.Proofs.YtpmjlhpbknppiaaDoor
