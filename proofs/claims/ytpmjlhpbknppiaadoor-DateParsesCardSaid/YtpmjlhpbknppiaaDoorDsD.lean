/- Contract of the document's moment of a header's form. -/
import Derived.Test.YtpmjlhpbknppiaaDoorDsB
import Derived.Test.YtpmjlhpbknppiaaDoorDsC
import Derived.Test.YtpmjlhpbknppiaaDoorDsE
import Derived.Test.YtpmjlhpbknppiaaDoorDtL
import Derived.Deep.DeepCutAuto
import Derived.Deep.RegionHeld
namespace Go.Proofs.YtpmjlhpbknppiaaDoor
open Go Go.RowKit

theorem zoneR_le {l : List UInt8} {z : Int} (h : zoneR l = some z) : -1500 ≤ z ∧ z ≤ 1500 := by
  unfold zoneR at h
  split at h
  · exact offR_le h
  · split at h
    · have h1 := Option.some.inj h
      cases hz : zonN l 8 with
      | none => rw [hz] at h1; simp at h1; omega
      | some k =>
        have := zonN_le 8 hz
        rw [hz] at h1
        simp at h1
        omega
    · cases h
theorem bet_parts (l : List UInt8) : (∀ t ∈ bet l, t ≠ []) ∧ (bet l).length ≤ l.length + 1 := by
  rw [← parts_all]
  refine ⟨partsR_ne _ _, ?_⟩
  have h1 := partsR_few (bareR false 0 l) []
  have h2 : ∀ (l : List UInt8) (e : Bool) (d : Nat), (bareR e d l).length ≤ l.length := by
    intro l
    induction l with
    | nil => intro e d; cases e <;> cases d <;> exact Nat.le_refl _
    | cons c r ih =>
      intro e d
      cases e with
      | true => rw [bareR]; have := ih false d; simp only [List.length_cons]; omega
      | false =>
        rw [bareR]
        simp only [List.length_cons]
        split
        · have := ih false (d + 1); simp only [List.length_cons]; omega
        · split
          · have := ih false 0; simp only [List.length_cons]; omega
          · split
            · have := ih true d; omega
            · split
              · have := ih false (d - 1); omega
              · have := ih false d; omega
  have := h2 l false 0
  omega
theorem secR_zero {n sec : Int} (h : ¬ sec < 0) : secR (some n) (some 0) sec = some (86400 * n + sec, 0) := by
  show (if sec < 0 then none else some (86400 * n + sec - 60 * 0, 0)) = _
  rw [if_neg h, Int.mul_zero, Int.sub_zero]
theorem refTs_few {ts : List (List UInt8)} (h : ts.length < 4 ∨ 5 < ts.length) : refTs ts = none := by
  unfold refTs
  split
  · simp at h
  · simp at h
  · rfl
set_option maxRecDepth 100000 in
set_option maxHeartbeats 8000000 in
theorem refParse_any (s : ByteArray) (w : World) (hs : s.size ≤ 1000000) :
    Calls Tryd.prog 6 #[.string s] w fun e w' => e = .returned (momV (refTs (textsL s.data.toList))) ∧ Below w.heap.size w w' := by
  have HBr := Lib.hid (fun w => refBare_any s (by omega) w)
  obtain ⟨X1, hX1⟩ : ∃ X1, X1 = w.alloc (.cells #[.int .i64 0, .int .i64 0] 27) := ⟨_, rfl⟩
  have HB1 : Hid (Below w.heap.size w X1) := by rw [hX1]; exact (Below.refl _ _).alloc (Nat.le_refl _) _
  have hs1 : X1.heap.size = w.heap.size + 1 := by rw [hX1]; simp
  have HRes1 : Hid (X1.heap[w.heap.size]? = some (.cells #[.int .i64 0, .int .i64 0] 27 (0, 0))) := by rw [hX1]; exact heap_alloc_new w _
  obtain ⟨ls, hls⟩ : ∃ ls, ls = bet s.data.toList := ⟨_, rfl⟩
  have HLs := Lib.hid hls
  have hle : ∀ t ∈ ls, t.length ≤ s.size := by
    intro t ht
    rw [hls] at ht
    have := partLen_le _ _ _ ht
    rw [len_toList] at this
    exact this
  have HLe := Lib.hid hle
  have hne : ∀ t ∈ ls, t ≠ [] := by rw [hls]; exact (bet_parts _).1
  have HNe := Lib.hid hne
  clear hle hne
  go_enter Tryd.func6, Tryd.ntmps6
  go_wp2_with fail
  rw [← hX1]
  clear hX1
  with_reducible refine (HBr.out X1).mono ?_
  rintro e w0 ⟨t, rfl, htb, htl, rfl⟩
  have HPt := Lib.hid (fun w => refParts_any t (by omega) w)
  rw [htb, parts_all, ← hls] at HPt
  clear hls htb HBr
  go_wp2_with fail
  with_reducible refine (HPt.out X1).mono ?_
  rintro e w1 ⟨v, rfl, hown, hb⟩
  have htx := txts_owned hown HLe.out (by omega)
  have HB := Lib.hid (HB1.out.trans (hb.mono HB1.out.size))
  have HRes : Hid (w1.heap[w.heap.size]? = some (.cells #[.int .i64 0, .int .i64 0] 27 (0, 0))) := (hb.block _ (by omega)).trans HRes1.out
  have hsz1 : w.heap.size < w1.heap.size := by have := hb.size; omega
  obtain ⟨tao, tcap, rfl, htc, htm, hat⟩ := htx
  have HAt := Lib.hid hat
  unfold maxLen at htm
  clear hown hb hat hs1 HRes1 HB1 HPt
  obtain ⟨B, hBk⟩ : ∃ B, B = weekL ls := ⟨_, rfl⟩
  have HBk := Lib.hid hBk
  clear hBk
  go_upto_region 2 with fail
  go_cut [30] (fun x17 wx => x17 = .bool B ∧ w1 = wx)
  case first =>
    rcases ls with _ | ⟨t0, r⟩
    · have HF : Hid (B = false) := HBk.out
      have e0 : decide ((0 : Int) < ((txL []).length : Int)) = false := by decide
      go_wp2_with fail
      go_meet
      exact ⟨by rw [HF.out], rfl⟩
    · have hl0 : 0 < (txL (t0 :: r)).length := by rw [txL_len]; simp
      obtain ⟨b, off, rfl, hbk, hob, hc, hsz⟩ := HAt.out 0 hl0
      have hc' : w1.cell? ⟨b, off, none⟩ = some (.string ⟨t0.toArray⟩) := hc
      obtain ⟨T0, hT0⟩ : ∃ T : ByteArray, T = ⟨t0.toArray⟩ := ⟨_, rfl⟩
      have HF : Hid (B = decide (T0.data.toList.length = 4 ∧ T0.data.toList[3]? = some 44)) := by
        unfold Hid
        rw [HBk.out, hT0]
        rfl
      rw [← hT0] at hc'
      obtain ⟨n, hn⟩ : ∃ n : Nat, n = (txL (t0 :: r)).length := ⟨_, rfl⟩
      rw [← hn] at hl0 htc ⊢
      have e0 : decide ((0 : Int) < (n : Int)) = true := decide_eq_true (by omega)
      have HNn := Lib.hid hn
      have hz : T0.size ≤ 1000000 := by
        have := HLe.out t0 (List.mem_cons_self ..)
        rw [hT0]
        show t0.toArray.size ≤ _
        rw [List.size_toArray]
        omega
      clear hc hob hn hT0 hsz
      by_cases h4 : T0.size = 4
      · have i4 : ((T0.size : Int) == 4) = true := beq_yes (by omega)
        have HL3 : Hid (T0.data.toList[3]? = some (T0[3]'(by omega))) := list_at T0 3 (by omega)
        by_cases h44 : (T0[3]'(by omega)).toNat = 44
        · have i44 : (((T0[3]'(by omega)).toNat : Int) == 44) = true := byte_yes 44 h44
          have HR : Hid (B = true) := by
            unfold Hid
            rw [HF.out, HL3.out, (u8_eq 44 (by omega)).1 h44]
            exact decide_eq_true ⟨by rw [len_toList]; exact h4, rfl⟩
          go_wp2_with fail
          obtain rfl := HNn.out
          go_meet
          exact ⟨by rw [HR.out], rfl⟩
        · have i44 : (((T0[3]'(by omega)).toNat : Int) == 44) = false := byte_no 44 h44
          have HR : Hid (B = false) := by
            unfold Hid
            rw [HF.out, HL3.out]
            exact decide_eq_false (fun h => h44 ((u8_eq 44 (by omega)).2 (Option.some.inj h.2)))
          go_wp2_with fail
          obtain rfl := HNn.out
          go_meet
          exact ⟨by rw [HR.out], rfl⟩
      · have i4 : ((T0.size : Int) == 4) = false := beq_no (by omega)
        have HR : Hid (B = false) := by
          unfold Hid
          rw [HF.out]
          exact decide_eq_false (fun h => h4 (by rw [← len_toList]; exact h.1))
        go_wp2_with fail
        obtain rfl := HNn.out
        go_meet
        exact ⟨by rw [HR.out], rfl⟩
  case rest =>
    obtain ⟨rfl, rfl⟩ := hcut
    go_upto_if 30 with fail
    go_cut [4] (fun x4 wx => ∃ tao' tcap', x4 = .slice tao' (txL (if B = true then ls.tail else ls)).length tcap' ∧ Hid (Txts [] w1 (.slice tao' (txL (if B = true then ls.tail else ls)).length tcap') (txL (if B = true then ls.tail else ls))) ∧ w1 = wx)
    case first =>
      cases B with
      | false =>
        go_wp2_with fail
        go_meet
        refine ⟨tao, tcap, rfl, ⟨tao, tcap, rfl, htc, by unfold maxLen; exact htm, HAt.out⟩, rfl⟩
      | true =>
        rcases ls with _ | ⟨t0, r⟩
        · exact absurd HBk.out (by decide)
        · have hl0 : 0 < (txL (t0 :: r)).length := by rw [txL_len]; simp
          obtain ⟨b, off, rfl, hbk, hob, hc, hsz⟩ := HAt.out 0 hl0
          have hn : (txL (t0 :: r)).length = (txL r).length + 1 := by rw [txL_len, txL_len]; rfl
          by_cases hcap : tcap = 1
          · subst hcap
            have hr0 : (txL r).length = 0 := by omega
            obtain rfl : r = [] := by
              rw [txL_len] at hr0
              exact List.eq_nil_of_length_eq_zero hr0
            clear hc hob
            have hn1 : (txL [t0]).length = 1 := rfl
            rw [hn1]
            go_wp2_with fail
            go_meet
            exact ⟨_, _, rfl, ⟨_, _, rfl, Nat.le_refl _, Nat.zero_le _, fun j hj => by simp [txL] at hj⟩, rfl⟩
          · obtain ⟨n, hnn⟩ : ∃ n : Nat, n = (txL r).length := ⟨_, rfl⟩
            rw [hn, ← hnn] at htc ⊢
            obtain ⟨c', rfl⟩ : ∃ c', tcap = c' + 1 := ⟨tcap - 1, by omega⟩
            have hc0 : 0 < c' := by omega
            have HN := Lib.hid hnn
            clear hc hob hn hnn hsz hl0
            go_wp2_with fail
            go_meet
            refine ⟨some ⟨b, off + 1, none⟩, c', ?_, ⟨_, _, rfl, (show (txL r).length ≤ c' by rw [← HN.out]; omega), by unfold maxLen; omega, fun j hj => ?_⟩, rfl⟩
            · simp only [if_true, List.tail_cons]
              rw [← HN.out]
              try first | done | rfl | (congr 1 <;> omega) | (simp; omega)
            · have hj' : j + 1 < (txL (t0 :: r)).length := by
                simp only [if_true, List.tail_cons] at hj
                rw [txL_len] at hj ⊢
                simp
                omega
              obtain ⟨b2, off2, e2, g1, g2, g3, g4⟩ := HAt.out (j + 1) hj'
              have e3 := Option.some.inj e2
              simp only [Addr.mk.injEq, and_true] at e3
              obtain ⟨rfl, rfl⟩ := e3
              refine ⟨b, off + 1, rfl, g1, g2, ?_, ?_⟩
              · rw [Nat.add_assoc, Nat.add_comm 1 j]
                exact g3
              · exact g4
    case rest =>
      obtain ⟨tao', tcap', rfl, HTx, rfl⟩ := hcut
      obtain ⟨ts, hts⟩ : ∃ ts, ts = (if B = true then ls.tail else ls) := ⟨_, rfl⟩
      rw [← hts] at HTx ⊢
      have HTs : Hid (textsL s.data.toList = ts) := by
        unfold Hid textsL
        rw [← HLs.out, ← HBk.out, hts]
      have HNt : Hid (∀ t ∈ ts, t ≠ []) := by
        intro t ht
        refine HNe.out t ?_
        rw [hts] at ht
        split at ht
        · exact List.mem_of_mem_tail ht
        · exact ht
      have HLt : Hid (∀ t ∈ ts, t.length ≤ s.size) := by
        intro t ht
        refine HLe.out t ?_
        rw [hts] at ht
        split at ht
        · exact List.mem_of_mem_tail ht
        · exact ht
      clear hts HAt htc htm
      have hfz : w1.frozen? ⟨w.heap.size, 0, none⟩ = false := by simp [World.frozen?, HRes.out]
      have hfy : w1.frozen? ⟨w.heap.size, 1, none⟩ = false := by simp [World.frozen?, HRes.out]
      have r0 : w1.cell? ⟨w.heap.size, 0, none⟩ = some (.int .i64 0) := by simp [World.cell?, HRes.out]
      have r1 : w1.cell? ⟨w.heap.size, 1, none⟩ = some (.int .i64 0) := by simp [World.cell?, HRes.out]
      by_cases h4 : ts.length < 4
      · have HR : Hid (refTs (textsL s.data.toList) = none) := by unfold Hid; rw [HTs.out]; exact refTs_few (.inl h4)
        have i1 : decide (((txL ts).length : Int) < 4) = true := decide_eq_true (by rw [txL_len]; omega)
        go_wp2_with fail
        refine bodyPost_ret (results_cell_tmp (P := Tryd.prog) Tryd.results6 _ _ w.heap.size 27 _ (0, 0) _ rfl (two_set HRes.out _ _) Tryd.underlying27 rfl (by kernel_rfl)) rfl ?_
        rw [HR.out]
        exact ⟨rfl, (HB.out.setCell (Nat.le_refl _) _).setCell (Nat.le_refl _) _⟩
      · have i1 : decide (((txL ts).length : Int) < 4) = false := decide_eq_false (by rw [txL_len]; omega)
        by_cases h5 : 5 < ts.length
        · have HR : Hid (refTs (textsL s.data.toList) = none) := by unfold Hid; rw [HTs.out]; exact refTs_few (.inr h5)
          have i2 : decide ((5 : Int) < ((txL ts).length : Int)) = true := decide_eq_true (by rw [txL_len]; omega)
          go_wp2_with fail
          refine bodyPost_ret (results_cell_tmp (P := Tryd.prog) Tryd.results6 _ _ w.heap.size 27 _ (0, 0) _ rfl (two_set HRes.out _ _) Tryd.underlying27 rfl (by kernel_rfl)) rfl ?_
          rw [HR.out]
          exact ⟨rfl, (HB.out.setCell (Nat.le_refl _) _).setCell (Nat.le_refl _) _⟩
        · have i2 : decide ((5 : Int) < ((txL ts).length : Int)) = false := decide_eq_false (by rw [txL_len]; omega)
          rcases ts with _ | ⟨a, _ | ⟨b, _ | ⟨c, _ | ⟨d, _ | ⟨e, _ | ⟨f, r⟩⟩⟩⟩⟩⟩
          · exact absurd (by decide) h4
          · exact absurd (by simp) h4
          · exact absurd (by simp) h4
          · exact absurd (by simp) h4
          · clear h4 h5 i1 i2
            have hl4 : (txL [a, b, c, d]).length = 4 := rfl
            obtain ⟨ao, cap, e, hc1, hc2, hat⟩ := HTx.out
            cases e
            obtain ⟨B0, off, rfl, hbk, _, q0, _⟩ := hat 0 (by rw [hl4]; decide)
            obtain ⟨_, _, e1, _, _, q1, _⟩ := hat 1 (by rw [hl4]; decide)
            cases e1
            obtain ⟨_, _, e2, _, _, q2, _⟩ := hat 2 (by rw [hl4]; decide)
            cases e2
            obtain ⟨_, _, e3, _, _, q3, _⟩ := hat 3 (by rw [hl4]; decide)
            cases e3
            obtain ⟨Ab, hAb⟩ : ∃ T : ByteArray, T = ⟨a.toArray⟩ := ⟨_, rfl⟩
            have lAb : Ab.data.toList = a := by rw [hAb]
            have zAb : Ab.size ≤ 1000000 := by rw [← len_toList, lAb]; have := HLt.out a (by simp); omega
            have c0 : w1.cell? ⟨B0, off, none⟩ = some (.string Ab) := by rw [hAb]; exact q0
            obtain ⟨Bb, hBb⟩ : ∃ T : ByteArray, T = ⟨b.toArray⟩ := ⟨_, rfl⟩
            have lBb : Bb.data.toList = b := by rw [hBb]
            have zBb : Bb.size ≤ 1000000 := by rw [← len_toList, lBb]; have := HLt.out b (by simp); omega
            have c1 : w1.cell? ⟨B0, off + 1, none⟩ = some (.string Bb) := by rw [hBb]; exact q1
            obtain ⟨Cb, hCb⟩ : ∃ T : ByteArray, T = ⟨c.toArray⟩ := ⟨_, rfl⟩
            have lCb : Cb.data.toList = c := by rw [hCb]
            have zCb : Cb.size ≤ 1000000 := by rw [← len_toList, lCb]; have := HLt.out c (by simp); omega
            have c2 : w1.cell? ⟨B0, off + 2, none⟩ = some (.string Cb) := by rw [hCb]; exact q2
            obtain ⟨Db, hDb⟩ : ∃ T : ByteArray, T = ⟨d.toArray⟩ := ⟨_, rfl⟩
            have lDb : Db.data.toList = d := by rw [hDb]
            have zDb : Db.size ≤ 1000000 := by rw [← len_toList, lDb]; have := HLt.out d (by simp); omega
            have c3 : w1.cell? ⟨B0, off + 3, none⟩ = some (.string Db) := by rw [hDb]; exact q3
            rw [hl4] at hc1 ⊢
            unfold maxLen at hc2
            clear q0 q1 q2 q3 hat HTx hAb hBb hCb hDb
            obtain ⟨Y, hY⟩ : ∃ Y, Y = yR c := ⟨_, rfl⟩
            obtain ⟨y0', hy0⟩ : ∃ Y, Y = digK c 2 4 := ⟨_, rfl⟩
            obtain ⟨mo, hmo⟩ : ∃ Y, Y = monR b := ⟨_, rfl⟩
            obtain ⟨da, hda⟩ : ∃ Y, Y = digK a 1 2 := ⟨_, rfl⟩
            obtain ⟨sec, hsec⟩ : ∃ Y, Y = clockR d false 60 := ⟨_, rfl⟩
            obtain ⟨R, hR⟩ : ∃ R0, R0 = numR Y mo da := ⟨_, rfl⟩
            have hyb := digK_b c 2 4 (by decide)
            have hmob := monR_le b
            have hdab := digK_b a 1 2 (by decide)
            have hsb := clockR_le d false 60 (by decide)
            rw [← hy0] at hyb
            rw [← hmo] at hmob
            rw [← hda] at hdab
            rw [← hsec] at hsb
            have hcl : c.length = Cb.size := by rw [← lCb, len_toList]
            have hY2 : Y = if Cb.size = 3 then -1 else if Cb.size = 2 ∧ 0 ≤ y0' then (if y0' + 1900 < 1950 then y0' + 1900 + 100 else y0' + 1900) else y0' := by
              rw [hY, hy0, ← hcl]
              rfl
            have hYb : -1 ≤ Y ∧ Y ≤ 100000 := by
              rw [hY2]
              split
              · omega
              · split
                · split <;> omega
                · omega
            have HDc := Lib.hid (fun w => refDigits_any Cb 2 4 2 4 rfl rfl (by decide) (by omega) w)
            rw [lCb, ← hy0] at HDc
            have HDa := Lib.hid (fun w => refDigits_any Ab 1 2 1 2 rfl rfl (by decide) (by omega) w)
            rw [lAb, ← hda] at HDa
            have HMo := Lib.hid (fun w => refMonth_any Bb (by omega) w)
            rw [lBb, ← hmo] at HMo
            have HCl := Lib.hid (fun w => refClock_any Db false 60 (by decide) (by decide) w)
            rw [lDb, ← hsec] at HCl
            have HN := Lib.hid (fun w => refNumber_any Y mo da hYb.1 hYb.2 (by omega) (by omega) hdab.1 (by omega) w)
            rw [← hR] at HN
            have hRb : ∀ n, R = some n → -719162 ≤ n ∧ n ≤ 3000000 := fun n hn => numR_le (by omega) (hR.symm.trans hn)
            have HY2 := Lib.hid hY2
            have HI : Hid (refTs (textsL s.data.toList) = secR R (some 0) sec) := by
              unfold Hid
              rw [HTs.out, hR, hY, hmo, hda, hsec]
              rfl
            clear hY hy0 hmo hda hsec hR hY2 hcl
            by_cases s3 : Cb.size = 3
            · have k3 : ((Cb.size : Int) == 3) = true := beq_yes (by omega)
              have k2 : ((Cb.size : Int) == 2) = false := beq_no (by omega)
              have hh : Y = -1 := by rw [HY2.out, if_pos s3]
              clear HY2
              subst hh
              clear hfz hfy r0 r1
              go_wp2_with fail
              with_reducible refine (HDc.out _).mono ?_
              rintro e w2 ⟨rfl, rfl⟩
              go_wp2_with fail
              with_reducible refine (HCl.out _).mono ?_
              rintro e w2 ⟨rfl, rfl⟩
              have HBW := HB
              have HResW := HRes
              have hwW := hsz1
              have y0 : ∀ z : BW w1, z.v.cell? ⟨B0, off, none⟩ = some (.string Ab) := BW.cell c0
              have y1 : ∀ z : BW w1, z.v.cell? ⟨B0, off + 1, none⟩ = some (.string Bb) := BW.cell c1
              go_wp2_with fail
              rcases R with _ | n
              · unfold numV' at HN
                refine wp_region_below (by kernel_rfl) (by kernel_rfl) ?_
                repeat (go_big_quiet_step (first
                  | (go_at_call 28; exact BW.calls_same (HDa.out _))
                  | (go_at_call 32; exact BW.calls (HMo.out _))
                  | (go_at_call 31; exact BW.calls_same (HN.out _))))
                refine wpQuiet_nil ?_
                rintro _ ⟨zz, rfl⟩
                have hzb := zz.h
                have HB3 : Hid (Below w.heap.size w zz.v) := HBW.out.trans (hzb.mono HBW.out.size)
                have HRes3 : Hid (zz.v.heap[w.heap.size]? = some (.cells #[.int .i64 0, .int .i64 0] 27 (0, 0))) := (hzb.block _ hwW).trans HResW.out
                clear hzb
                generalize zz.v = W3 at HB3 HRes3 ⊢
                clear HBW HResW y0 y1
                have hfz : W3.frozen? ⟨w.heap.size, 0, none⟩ = false := by simp [World.frozen?, HRes3.out]
                have hfy : W3.frozen? ⟨w.heap.size, 1, none⟩ = false := by simp [World.frozen?, HRes3.out]
                have r0 : W3.cell? ⟨w.heap.size, 0, none⟩ = some (.int .i64 0) := by simp [World.cell?, HRes3.out]
                have r1 : W3.cell? ⟨w.heap.size, 1, none⟩ = some (.int .i64 0) := by simp [World.cell?, HRes3.out]
                clear HMo HN HDa
                have HR : Hid (refTs (textsL s.data.toList) = none) := HI.out.trans (secR_n _ sec)
                by_cases hneg : sec < 0
                · have i2 : decide (sec < 0) = true := decide_eq_true hneg
                  go_wp2_with fail
                  refine bodyPost_ret (results_cell_tmp (P := Tryd.prog) Tryd.results6 _ _ w.heap.size 27 _ (0, 0) _ rfl (two_set HRes3.out _ _) Tryd.underlying27 rfl (by kernel_rfl)) rfl ?_
                  rw [HR.out]
                  exact ⟨rfl, (HB3.out.setCell (Nat.le_refl _) _).setCell (Nat.le_refl _) _⟩
                · have i2 : decide (sec < 0) = false := decide_eq_false hneg
                  go_wp2_with fail
                  refine bodyPost_ret (results_cell_tmp (P := Tryd.prog) Tryd.results6 _ _ w.heap.size 27 _ (0, 0) _ rfl (two_set HRes3.out _ _) Tryd.underlying27 rfl (by kernel_rfl)) rfl ?_
                  rw [HR.out]
                  exact ⟨rfl, (HB3.out.setCell (Nat.le_refl _) _).setCell (Nat.le_refl _) _⟩
              · obtain ⟨n0, n1⟩ := hRb n rfl
                unfold numV' at HN
                refine wp_region_below (by kernel_rfl) (by kernel_rfl) ?_
                repeat (go_big_quiet_step (first
                  | (go_at_call 28; exact BW.calls_same (HDa.out _))
                  | (go_at_call 32; exact BW.calls (HMo.out _))
                  | (go_at_call 31; exact BW.calls_same (HN.out _))))
                refine wpQuiet_nil ?_
                rintro _ ⟨zz, rfl⟩
                have hzb := zz.h
                have HB3 : Hid (Below w.heap.size w zz.v) := HBW.out.trans (hzb.mono HBW.out.size)
                have HRes3 : Hid (zz.v.heap[w.heap.size]? = some (.cells #[.int .i64 0, .int .i64 0] 27 (0, 0))) := (hzb.block _ hwW).trans HResW.out
                clear hzb
                generalize zz.v = W3 at HB3 HRes3 ⊢
                clear HBW HResW y0 y1
                have hfz : W3.frozen? ⟨w.heap.size, 0, none⟩ = false := by simp [World.frozen?, HRes3.out]
                have hfy : W3.frozen? ⟨w.heap.size, 1, none⟩ = false := by simp [World.frozen?, HRes3.out]
                have r0 : W3.cell? ⟨w.heap.size, 0, none⟩ = some (.int .i64 0) := by simp [World.cell?, HRes3.out]
                have r1 : W3.cell? ⟨w.heap.size, 1, none⟩ = some (.int .i64 0) := by simp [World.cell?, HRes3.out]
                clear HMo HN HDa
                by_cases hneg : sec < 0
                · have HR : Hid (refTs (textsL s.data.toList) = none) := HI.out.trans (if_pos hneg)
                  have i2 : decide (sec < 0) = true := decide_eq_true hneg
                  go_wp2_with fail
                  refine bodyPost_ret (results_cell_tmp (P := Tryd.prog) Tryd.results6 _ _ w.heap.size 27 _ (0, 0) _ rfl (two_set HRes3.out _ _) Tryd.underlying27 rfl (by kernel_rfl)) rfl ?_
                  rw [HR.out]
                  exact ⟨rfl, (HB3.out.setCell (Nat.le_refl _) _).setCell (Nat.le_refl _) _⟩
                · have HR : Hid (refTs (textsL s.data.toList) = some (86400 * n + sec, 0)) := HI.out.trans (secR_zero hneg)
                  have i2 : decide (sec < 0) = false := decide_eq_false hneg
                  go_wp2_with fail
                  refine bodyPost_ret (results_cell_tmp (P := Tryd.prog) Tryd.results6 _ _ w.heap.size 27 _ (0, 0) _ rfl (two_set HRes3.out _ _) Tryd.underlying27 rfl (by kernel_rfl)) rfl ?_
                  rw [HR.out]
                  exact ⟨rfl, (HB3.out.setCell (Nat.le_refl _) _).setCell (Nat.le_refl _) _⟩
            · have k3 : ((Cb.size : Int) == 3) = false := beq_no (by omega)
              by_cases s2 : Cb.size = 2
              · have k2 : ((Cb.size : Int) == 2) = true := beq_yes (by omega)
                by_cases hn : y0' < 0
                · have k4 : decide (0 ≤ y0') = false := decide_eq_false (by omega)
                  have hh : Y = y0' := by rw [HY2.out, if_neg s3, if_neg (by omega)]
                  clear HY2
                  subst hh
                  clear hfz hfy r0 r1
                  go_wp2_with fail
                  with_reducible refine (HDc.out _).mono ?_
                  rintro e w2 ⟨rfl, rfl⟩
                  go_wp2_with fail
                  with_reducible refine (HCl.out _).mono ?_
                  rintro e w2 ⟨rfl, rfl⟩
                  have HBW := HB
                  have HResW := HRes
                  have hwW := hsz1
                  have y0 : ∀ z : BW w1, z.v.cell? ⟨B0, off, none⟩ = some (.string Ab) := BW.cell c0
                  have y1 : ∀ z : BW w1, z.v.cell? ⟨B0, off + 1, none⟩ = some (.string Bb) := BW.cell c1
                  go_wp2_with fail
                  rcases R with _ | n
                  · unfold numV' at HN
                    refine wp_region_below (by kernel_rfl) (by kernel_rfl) ?_
                    repeat (go_big_quiet_step (first
                      | (go_at_call 28; exact BW.calls_same (HDa.out _))
                      | (go_at_call 32; exact BW.calls (HMo.out _))
                      | (go_at_call 31; exact BW.calls_same (HN.out _))))
                    refine wpQuiet_nil ?_
                    rintro _ ⟨zz, rfl⟩
                    have hzb := zz.h
                    have HB3 : Hid (Below w.heap.size w zz.v) := HBW.out.trans (hzb.mono HBW.out.size)
                    have HRes3 : Hid (zz.v.heap[w.heap.size]? = some (.cells #[.int .i64 0, .int .i64 0] 27 (0, 0))) := (hzb.block _ hwW).trans HResW.out
                    clear hzb
                    generalize zz.v = W3 at HB3 HRes3 ⊢
                    clear HBW HResW y0 y1
                    have hfz : W3.frozen? ⟨w.heap.size, 0, none⟩ = false := by simp [World.frozen?, HRes3.out]
                    have hfy : W3.frozen? ⟨w.heap.size, 1, none⟩ = false := by simp [World.frozen?, HRes3.out]
                    have r0 : W3.cell? ⟨w.heap.size, 0, none⟩ = some (.int .i64 0) := by simp [World.cell?, HRes3.out]
                    have r1 : W3.cell? ⟨w.heap.size, 1, none⟩ = some (.int .i64 0) := by simp [World.cell?, HRes3.out]
                    clear HMo HN HDa
                    have HR : Hid (refTs (textsL s.data.toList) = none) := HI.out.trans (secR_n _ sec)
                    by_cases hneg : sec < 0
                    · have i2 : decide (sec < 0) = true := decide_eq_true hneg
                      go_wp2_with fail
                      refine bodyPost_ret (results_cell_tmp (P := Tryd.prog) Tryd.results6 _ _ w.heap.size 27 _ (0, 0) _ rfl (two_set HRes3.out _ _) Tryd.underlying27 rfl (by kernel_rfl)) rfl ?_
                      rw [HR.out]
                      exact ⟨rfl, (HB3.out.setCell (Nat.le_refl _) _).setCell (Nat.le_refl _) _⟩
                    · have i2 : decide (sec < 0) = false := decide_eq_false hneg
                      go_wp2_with fail
                      refine bodyPost_ret (results_cell_tmp (P := Tryd.prog) Tryd.results6 _ _ w.heap.size 27 _ (0, 0) _ rfl (two_set HRes3.out _ _) Tryd.underlying27 rfl (by kernel_rfl)) rfl ?_
                      rw [HR.out]
                      exact ⟨rfl, (HB3.out.setCell (Nat.le_refl _) _).setCell (Nat.le_refl _) _⟩
                  · obtain ⟨n0, n1⟩ := hRb n rfl
                    unfold numV' at HN
                    refine wp_region_below (by kernel_rfl) (by kernel_rfl) ?_
                    repeat (go_big_quiet_step (first
                      | (go_at_call 28; exact BW.calls_same (HDa.out _))
                      | (go_at_call 32; exact BW.calls (HMo.out _))
                      | (go_at_call 31; exact BW.calls_same (HN.out _))))
                    refine wpQuiet_nil ?_
                    rintro _ ⟨zz, rfl⟩
                    have hzb := zz.h
                    have HB3 : Hid (Below w.heap.size w zz.v) := HBW.out.trans (hzb.mono HBW.out.size)
                    have HRes3 : Hid (zz.v.heap[w.heap.size]? = some (.cells #[.int .i64 0, .int .i64 0] 27 (0, 0))) := (hzb.block _ hwW).trans HResW.out
                    clear hzb
                    generalize zz.v = W3 at HB3 HRes3 ⊢
                    clear HBW HResW y0 y1
                    have hfz : W3.frozen? ⟨w.heap.size, 0, none⟩ = false := by simp [World.frozen?, HRes3.out]
                    have hfy : W3.frozen? ⟨w.heap.size, 1, none⟩ = false := by simp [World.frozen?, HRes3.out]
                    have r0 : W3.cell? ⟨w.heap.size, 0, none⟩ = some (.int .i64 0) := by simp [World.cell?, HRes3.out]
                    have r1 : W3.cell? ⟨w.heap.size, 1, none⟩ = some (.int .i64 0) := by simp [World.cell?, HRes3.out]
                    clear HMo HN HDa
                    by_cases hneg : sec < 0
                    · have HR : Hid (refTs (textsL s.data.toList) = none) := HI.out.trans (if_pos hneg)
                      have i2 : decide (sec < 0) = true := decide_eq_true hneg
                      go_wp2_with fail
                      refine bodyPost_ret (results_cell_tmp (P := Tryd.prog) Tryd.results6 _ _ w.heap.size 27 _ (0, 0) _ rfl (two_set HRes3.out _ _) Tryd.underlying27 rfl (by kernel_rfl)) rfl ?_
                      rw [HR.out]
                      exact ⟨rfl, (HB3.out.setCell (Nat.le_refl _) _).setCell (Nat.le_refl _) _⟩
                    · have HR : Hid (refTs (textsL s.data.toList) = some (86400 * n + sec, 0)) := HI.out.trans (secR_zero hneg)
                      have i2 : decide (sec < 0) = false := decide_eq_false hneg
                      go_wp2_with fail
                      refine bodyPost_ret (results_cell_tmp (P := Tryd.prog) Tryd.results6 _ _ w.heap.size 27 _ (0, 0) _ rfl (two_set HRes3.out _ _) Tryd.underlying27 rfl (by kernel_rfl)) rfl ?_
                      rw [HR.out]
                      exact ⟨rfl, (HB3.out.setCell (Nat.le_refl _) _).setCell (Nat.le_refl _) _⟩
                · have k4 : decide (0 ≤ y0') = true := decide_eq_true (by omega)
                  by_cases h50 : y0' + 1900 < 1950
                  · have k5 : decide (y0' + 1900 < 1950) = true := decide_eq_true h50
                    have hh : Y = y0' + 1900 + 100 := by rw [HY2.out, if_neg s3, if_pos (by omega), if_pos h50]
                    clear HY2
                    subst hh
                    clear hfz hfy r0 r1
                    go_wp2_with fail
                    with_reducible refine (HDc.out _).mono ?_
                    rintro e w2 ⟨rfl, rfl⟩
                    go_wp2_with fail
                    with_reducible refine (HCl.out _).mono ?_
                    rintro e w2 ⟨rfl, rfl⟩
                    have HBW := HB
                    have HResW := HRes
                    have hwW := hsz1
                    have y0 : ∀ z : BW w1, z.v.cell? ⟨B0, off, none⟩ = some (.string Ab) := BW.cell c0
                    have y1 : ∀ z : BW w1, z.v.cell? ⟨B0, off + 1, none⟩ = some (.string Bb) := BW.cell c1
                    go_wp2_with fail
                    rcases R with _ | n
                    · unfold numV' at HN
                      refine wp_region_below (by kernel_rfl) (by kernel_rfl) ?_
                      repeat (go_big_quiet_step (first
                        | (go_at_call 28; exact BW.calls_same (HDa.out _))
                        | (go_at_call 32; exact BW.calls (HMo.out _))
                        | (go_at_call 31; exact BW.calls_same (HN.out _))))
                      refine wpQuiet_nil ?_
                      rintro _ ⟨zz, rfl⟩
                      have hzb := zz.h
                      have HB3 : Hid (Below w.heap.size w zz.v) := HBW.out.trans (hzb.mono HBW.out.size)
                      have HRes3 : Hid (zz.v.heap[w.heap.size]? = some (.cells #[.int .i64 0, .int .i64 0] 27 (0, 0))) := (hzb.block _ hwW).trans HResW.out
                      clear hzb
                      generalize zz.v = W3 at HB3 HRes3 ⊢
                      clear HBW HResW y0 y1
                      have hfz : W3.frozen? ⟨w.heap.size, 0, none⟩ = false := by simp [World.frozen?, HRes3.out]
                      have hfy : W3.frozen? ⟨w.heap.size, 1, none⟩ = false := by simp [World.frozen?, HRes3.out]
                      have r0 : W3.cell? ⟨w.heap.size, 0, none⟩ = some (.int .i64 0) := by simp [World.cell?, HRes3.out]
                      have r1 : W3.cell? ⟨w.heap.size, 1, none⟩ = some (.int .i64 0) := by simp [World.cell?, HRes3.out]
                      clear HMo HN HDa
                      have HR : Hid (refTs (textsL s.data.toList) = none) := HI.out.trans (secR_n _ sec)
                      by_cases hneg : sec < 0
                      · have i2 : decide (sec < 0) = true := decide_eq_true hneg
                        go_wp2_with fail
                        refine bodyPost_ret (results_cell_tmp (P := Tryd.prog) Tryd.results6 _ _ w.heap.size 27 _ (0, 0) _ rfl (two_set HRes3.out _ _) Tryd.underlying27 rfl (by kernel_rfl)) rfl ?_
                        rw [HR.out]
                        exact ⟨rfl, (HB3.out.setCell (Nat.le_refl _) _).setCell (Nat.le_refl _) _⟩
                      · have i2 : decide (sec < 0) = false := decide_eq_false hneg
                        go_wp2_with fail
                        refine bodyPost_ret (results_cell_tmp (P := Tryd.prog) Tryd.results6 _ _ w.heap.size 27 _ (0, 0) _ rfl (two_set HRes3.out _ _) Tryd.underlying27 rfl (by kernel_rfl)) rfl ?_
                        rw [HR.out]
                        exact ⟨rfl, (HB3.out.setCell (Nat.le_refl _) _).setCell (Nat.le_refl _) _⟩
                    · obtain ⟨n0, n1⟩ := hRb n rfl
                      unfold numV' at HN
                      refine wp_region_below (by kernel_rfl) (by kernel_rfl) ?_
                      repeat (go_big_quiet_step (first
                        | (go_at_call 28; exact BW.calls_same (HDa.out _))
                        | (go_at_call 32; exact BW.calls (HMo.out _))
                        | (go_at_call 31; exact BW.calls_same (HN.out _))))
                      refine wpQuiet_nil ?_
                      rintro _ ⟨zz, rfl⟩
                      have hzb := zz.h
                      have HB3 : Hid (Below w.heap.size w zz.v) := HBW.out.trans (hzb.mono HBW.out.size)
                      have HRes3 : Hid (zz.v.heap[w.heap.size]? = some (.cells #[.int .i64 0, .int .i64 0] 27 (0, 0))) := (hzb.block _ hwW).trans HResW.out
                      clear hzb
                      generalize zz.v = W3 at HB3 HRes3 ⊢
                      clear HBW HResW y0 y1
                      have hfz : W3.frozen? ⟨w.heap.size, 0, none⟩ = false := by simp [World.frozen?, HRes3.out]
                      have hfy : W3.frozen? ⟨w.heap.size, 1, none⟩ = false := by simp [World.frozen?, HRes3.out]
                      have r0 : W3.cell? ⟨w.heap.size, 0, none⟩ = some (.int .i64 0) := by simp [World.cell?, HRes3.out]
                      have r1 : W3.cell? ⟨w.heap.size, 1, none⟩ = some (.int .i64 0) := by simp [World.cell?, HRes3.out]
                      clear HMo HN HDa
                      by_cases hneg : sec < 0
                      · have HR : Hid (refTs (textsL s.data.toList) = none) := HI.out.trans (if_pos hneg)
                        have i2 : decide (sec < 0) = true := decide_eq_true hneg
                        go_wp2_with fail
                        refine bodyPost_ret (results_cell_tmp (P := Tryd.prog) Tryd.results6 _ _ w.heap.size 27 _ (0, 0) _ rfl (two_set HRes3.out _ _) Tryd.underlying27 rfl (by kernel_rfl)) rfl ?_
                        rw [HR.out]
                        exact ⟨rfl, (HB3.out.setCell (Nat.le_refl _) _).setCell (Nat.le_refl _) _⟩
                      · have HR : Hid (refTs (textsL s.data.toList) = some (86400 * n + sec, 0)) := HI.out.trans (secR_zero hneg)
                        have i2 : decide (sec < 0) = false := decide_eq_false hneg
                        go_wp2_with fail
                        refine bodyPost_ret (results_cell_tmp (P := Tryd.prog) Tryd.results6 _ _ w.heap.size 27 _ (0, 0) _ rfl (two_set HRes3.out _ _) Tryd.underlying27 rfl (by kernel_rfl)) rfl ?_
                        rw [HR.out]
                        exact ⟨rfl, (HB3.out.setCell (Nat.le_refl _) _).setCell (Nat.le_refl _) _⟩
                  · have k5 : decide (y0' + 1900 < 1950) = false := decide_eq_false h50
                    have hh : Y = y0' + 1900 := by rw [HY2.out, if_neg s3, if_pos (by omega), if_neg h50]
                    clear HY2
                    subst hh
                    clear hfz hfy r0 r1
                    go_wp2_with fail
                    with_reducible refine (HDc.out _).mono ?_
                    rintro e w2 ⟨rfl, rfl⟩
                    go_wp2_with fail
                    with_reducible refine (HCl.out _).mono ?_
                    rintro e w2 ⟨rfl, rfl⟩
                    have HBW := HB
                    have HResW := HRes
                    have hwW := hsz1
                    have y0 : ∀ z : BW w1, z.v.cell? ⟨B0, off, none⟩ = some (.string Ab) := BW.cell c0
                    have y1 : ∀ z : BW w1, z.v.cell? ⟨B0, off + 1, none⟩ = some (.string Bb) := BW.cell c1
                    go_wp2_with fail
                    rcases R with _ | n
                    · unfold numV' at HN
                      refine wp_region_below (by kernel_rfl) (by kernel_rfl) ?_
                      repeat (go_big_quiet_step (first
                        | (go_at_call 28; exact BW.calls_same (HDa.out _))
                        | (go_at_call 32; exact BW.calls (HMo.out _))
                        | (go_at_call 31; exact BW.calls_same (HN.out _))))
                      refine wpQuiet_nil ?_
                      rintro _ ⟨zz, rfl⟩
                      have hzb := zz.h
                      have HB3 : Hid (Below w.heap.size w zz.v) := HBW.out.trans (hzb.mono HBW.out.size)
                      have HRes3 : Hid (zz.v.heap[w.heap.size]? = some (.cells #[.int .i64 0, .int .i64 0] 27 (0, 0))) := (hzb.block _ hwW).trans HResW.out
                      clear hzb
                      generalize zz.v = W3 at HB3 HRes3 ⊢
                      clear HBW HResW y0 y1
                      have hfz : W3.frozen? ⟨w.heap.size, 0, none⟩ = false := by simp [World.frozen?, HRes3.out]
                      have hfy : W3.frozen? ⟨w.heap.size, 1, none⟩ = false := by simp [World.frozen?, HRes3.out]
                      have r0 : W3.cell? ⟨w.heap.size, 0, none⟩ = some (.int .i64 0) := by simp [World.cell?, HRes3.out]
                      have r1 : W3.cell? ⟨w.heap.size, 1, none⟩ = some (.int .i64 0) := by simp [World.cell?, HRes3.out]
                      clear HMo HN HDa
                      have HR : Hid (refTs (textsL s.data.toList) = none) := HI.out.trans (secR_n _ sec)
                      by_cases hneg : sec < 0
                      · have i2 : decide (sec < 0) = true := decide_eq_true hneg
                        go_wp2_with fail
                        refine bodyPost_ret (results_cell_tmp (P := Tryd.prog) Tryd.results6 _ _ w.heap.size 27 _ (0, 0) _ rfl (two_set HRes3.out _ _) Tryd.underlying27 rfl (by kernel_rfl)) rfl ?_
                        rw [HR.out]
                        exact ⟨rfl, (HB3.out.setCell (Nat.le_refl _) _).setCell (Nat.le_refl _) _⟩
                      · have i2 : decide (sec < 0) = false := decide_eq_false hneg
                        go_wp2_with fail
                        refine bodyPost_ret (results_cell_tmp (P := Tryd.prog) Tryd.results6 _ _ w.heap.size 27 _ (0, 0) _ rfl (two_set HRes3.out _ _) Tryd.underlying27 rfl (by kernel_rfl)) rfl ?_
                        rw [HR.out]
                        exact ⟨rfl, (HB3.out.setCell (Nat.le_refl _) _).setCell (Nat.le_refl _) _⟩
                    · obtain ⟨n0, n1⟩ := hRb n rfl
                      unfold numV' at HN
                      refine wp_region_below (by kernel_rfl) (by kernel_rfl) ?_
                      repeat (go_big_quiet_step (first
                        | (go_at_call 28; exact BW.calls_same (HDa.out _))
                        | (go_at_call 32; exact BW.calls (HMo.out _))
                        | (go_at_call 31; exact BW.calls_same (HN.out _))))
                      refine wpQuiet_nil ?_
                      rintro _ ⟨zz, rfl⟩
                      have hzb := zz.h
                      have HB3 : Hid (Below w.heap.size w zz.v) := HBW.out.trans (hzb.mono HBW.out.size)
                      have HRes3 : Hid (zz.v.heap[w.heap.size]? = some (.cells #[.int .i64 0, .int .i64 0] 27 (0, 0))) := (hzb.block _ hwW).trans HResW.out
                      clear hzb
                      generalize zz.v = W3 at HB3 HRes3 ⊢
                      clear HBW HResW y0 y1
                      have hfz : W3.frozen? ⟨w.heap.size, 0, none⟩ = false := by simp [World.frozen?, HRes3.out]
                      have hfy : W3.frozen? ⟨w.heap.size, 1, none⟩ = false := by simp [World.frozen?, HRes3.out]
                      have r0 : W3.cell? ⟨w.heap.size, 0, none⟩ = some (.int .i64 0) := by simp [World.cell?, HRes3.out]
                      have r1 : W3.cell? ⟨w.heap.size, 1, none⟩ = some (.int .i64 0) := by simp [World.cell?, HRes3.out]
                      clear HMo HN HDa
                      by_cases hneg : sec < 0
                      · have HR : Hid (refTs (textsL s.data.toList) = none) := HI.out.trans (if_pos hneg)
                        have i2 : decide (sec < 0) = true := decide_eq_true hneg
                        go_wp2_with fail
                        refine bodyPost_ret (results_cell_tmp (P := Tryd.prog) Tryd.results6 _ _ w.heap.size 27 _ (0, 0) _ rfl (two_set HRes3.out _ _) Tryd.underlying27 rfl (by kernel_rfl)) rfl ?_
                        rw [HR.out]
                        exact ⟨rfl, (HB3.out.setCell (Nat.le_refl _) _).setCell (Nat.le_refl _) _⟩
                      · have HR : Hid (refTs (textsL s.data.toList) = some (86400 * n + sec, 0)) := HI.out.trans (secR_zero hneg)
                        have i2 : decide (sec < 0) = false := decide_eq_false hneg
                        go_wp2_with fail
                        refine bodyPost_ret (results_cell_tmp (P := Tryd.prog) Tryd.results6 _ _ w.heap.size 27 _ (0, 0) _ rfl (two_set HRes3.out _ _) Tryd.underlying27 rfl (by kernel_rfl)) rfl ?_
                        rw [HR.out]
                        exact ⟨rfl, (HB3.out.setCell (Nat.le_refl _) _).setCell (Nat.le_refl _) _⟩
              · have k2 : ((Cb.size : Int) == 2) = false := beq_no (by omega)
                have hh : Y = y0' := by rw [HY2.out, if_neg s3, if_neg (by omega)]
                clear HY2
                subst hh
                clear hfz hfy r0 r1
                go_wp2_with fail
                with_reducible refine (HDc.out _).mono ?_
                rintro e w2 ⟨rfl, rfl⟩
                go_wp2_with fail
                with_reducible refine (HCl.out _).mono ?_
                rintro e w2 ⟨rfl, rfl⟩
                have HBW := HB
                have HResW := HRes
                have hwW := hsz1
                have y0 : ∀ z : BW w1, z.v.cell? ⟨B0, off, none⟩ = some (.string Ab) := BW.cell c0
                have y1 : ∀ z : BW w1, z.v.cell? ⟨B0, off + 1, none⟩ = some (.string Bb) := BW.cell c1
                go_wp2_with fail
                rcases R with _ | n
                · unfold numV' at HN
                  refine wp_region_below (by kernel_rfl) (by kernel_rfl) ?_
                  repeat (go_big_quiet_step (first
                    | (go_at_call 28; exact BW.calls_same (HDa.out _))
                    | (go_at_call 32; exact BW.calls (HMo.out _))
                    | (go_at_call 31; exact BW.calls_same (HN.out _))))
                  refine wpQuiet_nil ?_
                  rintro _ ⟨zz, rfl⟩
                  have hzb := zz.h
                  have HB3 : Hid (Below w.heap.size w zz.v) := HBW.out.trans (hzb.mono HBW.out.size)
                  have HRes3 : Hid (zz.v.heap[w.heap.size]? = some (.cells #[.int .i64 0, .int .i64 0] 27 (0, 0))) := (hzb.block _ hwW).trans HResW.out
                  clear hzb
                  generalize zz.v = W3 at HB3 HRes3 ⊢
                  clear HBW HResW y0 y1
                  have hfz : W3.frozen? ⟨w.heap.size, 0, none⟩ = false := by simp [World.frozen?, HRes3.out]
                  have hfy : W3.frozen? ⟨w.heap.size, 1, none⟩ = false := by simp [World.frozen?, HRes3.out]
                  have r0 : W3.cell? ⟨w.heap.size, 0, none⟩ = some (.int .i64 0) := by simp [World.cell?, HRes3.out]
                  have r1 : W3.cell? ⟨w.heap.size, 1, none⟩ = some (.int .i64 0) := by simp [World.cell?, HRes3.out]
                  clear HMo HN HDa
                  have HR : Hid (refTs (textsL s.data.toList) = none) := HI.out.trans (secR_n _ sec)
                  by_cases hneg : sec < 0
                  · have i2 : decide (sec < 0) = true := decide_eq_true hneg
                    go_wp2_with fail
                    refine bodyPost_ret (results_cell_tmp (P := Tryd.prog) Tryd.results6 _ _ w.heap.size 27 _ (0, 0) _ rfl (two_set HRes3.out _ _) Tryd.underlying27 rfl (by kernel_rfl)) rfl ?_
                    rw [HR.out]
                    exact ⟨rfl, (HB3.out.setCell (Nat.le_refl _) _).setCell (Nat.le_refl _) _⟩
                  · have i2 : decide (sec < 0) = false := decide_eq_false hneg
                    go_wp2_with fail
                    refine bodyPost_ret (results_cell_tmp (P := Tryd.prog) Tryd.results6 _ _ w.heap.size 27 _ (0, 0) _ rfl (two_set HRes3.out _ _) Tryd.underlying27 rfl (by kernel_rfl)) rfl ?_
                    rw [HR.out]
                    exact ⟨rfl, (HB3.out.setCell (Nat.le_refl _) _).setCell (Nat.le_refl _) _⟩
                · obtain ⟨n0, n1⟩ := hRb n rfl
                  unfold numV' at HN
                  refine wp_region_below (by kernel_rfl) (by kernel_rfl) ?_
                  repeat (go_big_quiet_step (first
                    | (go_at_call 28; exact BW.calls_same (HDa.out _))
                    | (go_at_call 32; exact BW.calls (HMo.out _))
                    | (go_at_call 31; exact BW.calls_same (HN.out _))))
                  refine wpQuiet_nil ?_
                  rintro _ ⟨zz, rfl⟩
                  have hzb := zz.h
                  have HB3 : Hid (Below w.heap.size w zz.v) := HBW.out.trans (hzb.mono HBW.out.size)
                  have HRes3 : Hid (zz.v.heap[w.heap.size]? = some (.cells #[.int .i64 0, .int .i64 0] 27 (0, 0))) := (hzb.block _ hwW).trans HResW.out
                  clear hzb
                  generalize zz.v = W3 at HB3 HRes3 ⊢
                  clear HBW HResW y0 y1
                  have hfz : W3.frozen? ⟨w.heap.size, 0, none⟩ = false := by simp [World.frozen?, HRes3.out]
                  have hfy : W3.frozen? ⟨w.heap.size, 1, none⟩ = false := by simp [World.frozen?, HRes3.out]
                  have r0 : W3.cell? ⟨w.heap.size, 0, none⟩ = some (.int .i64 0) := by simp [World.cell?, HRes3.out]
                  have r1 : W3.cell? ⟨w.heap.size, 1, none⟩ = some (.int .i64 0) := by simp [World.cell?, HRes3.out]
                  clear HMo HN HDa
                  by_cases hneg : sec < 0
                  · have HR : Hid (refTs (textsL s.data.toList) = none) := HI.out.trans (if_pos hneg)
                    have i2 : decide (sec < 0) = true := decide_eq_true hneg
                    go_wp2_with fail
                    refine bodyPost_ret (results_cell_tmp (P := Tryd.prog) Tryd.results6 _ _ w.heap.size 27 _ (0, 0) _ rfl (two_set HRes3.out _ _) Tryd.underlying27 rfl (by kernel_rfl)) rfl ?_
                    rw [HR.out]
                    exact ⟨rfl, (HB3.out.setCell (Nat.le_refl _) _).setCell (Nat.le_refl _) _⟩
                  · have HR : Hid (refTs (textsL s.data.toList) = some (86400 * n + sec, 0)) := HI.out.trans (secR_zero hneg)
                    have i2 : decide (sec < 0) = false := decide_eq_false hneg
                    go_wp2_with fail
                    refine bodyPost_ret (results_cell_tmp (P := Tryd.prog) Tryd.results6 _ _ w.heap.size 27 _ (0, 0) _ rfl (two_set HRes3.out _ _) Tryd.underlying27 rfl (by kernel_rfl)) rfl ?_
                    rw [HR.out]
                    exact ⟨rfl, (HB3.out.setCell (Nat.le_refl _) _).setCell (Nat.le_refl _) _⟩
          · clear h4 h5 i1 i2
            have hl5 : (txL [a, b, c, d, e]).length = 5 := rfl
            obtain ⟨ao, cap, e, hc1, hc2, hat⟩ := HTx.out
            cases e
            obtain ⟨B0, off, rfl, hbk, _, q0, _⟩ := hat 0 (by rw [hl5]; decide)
            obtain ⟨_, _, e1, _, _, q1, _⟩ := hat 1 (by rw [hl5]; decide)
            cases e1
            obtain ⟨_, _, e2, _, _, q2, _⟩ := hat 2 (by rw [hl5]; decide)
            cases e2
            obtain ⟨_, _, e3, _, _, q3, _⟩ := hat 3 (by rw [hl5]; decide)
            cases e3
            obtain ⟨_, _, e4, _, _, q4, _⟩ := hat 4 (by rw [hl5]; decide)
            cases e4
            obtain ⟨Ab, hAb⟩ : ∃ T : ByteArray, T = ⟨a.toArray⟩ := ⟨_, rfl⟩
            have lAb : Ab.data.toList = a := by rw [hAb]
            have zAb : Ab.size ≤ 1000000 := by rw [← len_toList, lAb]; have := HLt.out a (by simp); omega
            have c0 : w1.cell? ⟨B0, off, none⟩ = some (.string Ab) := by rw [hAb]; exact q0
            obtain ⟨Bb, hBb⟩ : ∃ T : ByteArray, T = ⟨b.toArray⟩ := ⟨_, rfl⟩
            have lBb : Bb.data.toList = b := by rw [hBb]
            have zBb : Bb.size ≤ 1000000 := by rw [← len_toList, lBb]; have := HLt.out b (by simp); omega
            have c1 : w1.cell? ⟨B0, off + 1, none⟩ = some (.string Bb) := by rw [hBb]; exact q1
            obtain ⟨Cb, hCb⟩ : ∃ T : ByteArray, T = ⟨c.toArray⟩ := ⟨_, rfl⟩
            have lCb : Cb.data.toList = c := by rw [hCb]
            have zCb : Cb.size ≤ 1000000 := by rw [← len_toList, lCb]; have := HLt.out c (by simp); omega
            have c2 : w1.cell? ⟨B0, off + 2, none⟩ = some (.string Cb) := by rw [hCb]; exact q2
            obtain ⟨Db, hDb⟩ : ∃ T : ByteArray, T = ⟨d.toArray⟩ := ⟨_, rfl⟩
            have lDb : Db.data.toList = d := by rw [hDb]
            have zDb : Db.size ≤ 1000000 := by rw [← len_toList, lDb]; have := HLt.out d (by simp); omega
            have c3 : w1.cell? ⟨B0, off + 3, none⟩ = some (.string Db) := by rw [hDb]; exact q3
            obtain ⟨Eb, hEb⟩ : ∃ T : ByteArray, T = ⟨e.toArray⟩ := ⟨_, rfl⟩
            have lEb : Eb.data.toList = e := by rw [hEb]
            have zEb : Eb.size ≤ 1000000 := by rw [← len_toList, lEb]; have := HLt.out e (by simp); omega
            have c4 : w1.cell? ⟨B0, off + 4, none⟩ = some (.string Eb) := by rw [hEb]; exact q4
            rw [hl5] at hc1 ⊢
            unfold maxLen at hc2
            clear q0 q1 q2 q3 q4 hat HTx hAb hBb hCb hDb hEb
            obtain ⟨Y, hY⟩ : ∃ Y, Y = yR c := ⟨_, rfl⟩
            obtain ⟨y0', hy0⟩ : ∃ Y, Y = digK c 2 4 := ⟨_, rfl⟩
            obtain ⟨mo, hmo⟩ : ∃ Y, Y = monR b := ⟨_, rfl⟩
            obtain ⟨da, hda⟩ : ∃ Y, Y = digK a 1 2 := ⟨_, rfl⟩
            obtain ⟨sec, hsec⟩ : ∃ Y, Y = clockR d false 60 := ⟨_, rfl⟩
            obtain ⟨R, hR⟩ : ∃ R0, R0 = numR Y mo da := ⟨_, rfl⟩
            have hyb := digK_b c 2 4 (by decide)
            have hmob := monR_le b
            have hdab := digK_b a 1 2 (by decide)
            have hsb := clockR_le d false 60 (by decide)
            rw [← hy0] at hyb
            rw [← hmo] at hmob
            rw [← hda] at hdab
            rw [← hsec] at hsb
            have hcl : c.length = Cb.size := by rw [← lCb, len_toList]
            have hY2 : Y = if Cb.size = 3 then -1 else if Cb.size = 2 ∧ 0 ≤ y0' then (if y0' + 1900 < 1950 then y0' + 1900 + 100 else y0' + 1900) else y0' := by
              rw [hY, hy0, ← hcl]
              rfl
            have hYb : -1 ≤ Y ∧ Y ≤ 100000 := by
              rw [hY2]
              split
              · omega
              · split
                · split <;> omega
                · omega
            have HDc := Lib.hid (fun w => refDigits_any Cb 2 4 2 4 rfl rfl (by decide) (by omega) w)
            rw [lCb, ← hy0] at HDc
            have HDa := Lib.hid (fun w => refDigits_any Ab 1 2 1 2 rfl rfl (by decide) (by omega) w)
            rw [lAb, ← hda] at HDa
            have HMo := Lib.hid (fun w => refMonth_any Bb (by omega) w)
            rw [lBb, ← hmo] at HMo
            have HCl := Lib.hid (fun w => refClock_any Db false 60 (by decide) (by decide) w)
            rw [lDb, ← hsec] at HCl
            have HN := Lib.hid (fun w => refNumber_any Y mo da hYb.1 hYb.2 (by omega) (by omega) hdab.1 (by omega) w)
            rw [← hR] at HN
            have hRb : ∀ n, R = some n → -719162 ≤ n ∧ n ≤ 3000000 := fun n hn => numR_le (by omega) (hR.symm.trans hn)
            have HY2 := Lib.hid hY2
            have hpE : 0 < Eb.size := by
              rw [← len_toList, lEb]
              exact List.length_pos_iff.2 (HNt.out e (by simp))
            have HZo := Lib.hid (fun w => refZone_any Eb hpE (by omega) w)
            obtain ⟨Zo, hZo⟩ : ∃ Z0, Z0 = zoneR e := ⟨_, rfl⟩
            rw [lEb, ← hZo] at HZo
            have HI : Hid (refTs (textsL s.data.toList) = secR R Zo sec) := by
              unfold Hid
              rw [HTs.out, hR, hY, hmo, hda, hsec, hZo]
              rfl
            have hZb : ∀ z, Zo = some z → -1500 ≤ z ∧ z ≤ 1500 := fun z hz => zoneR_le (hZo.symm.trans hz)
            clear hZo hpE
            clear hY hy0 hmo hda hsec hR hY2 hcl
            by_cases s3 : Cb.size = 3
            · have k3 : ((Cb.size : Int) == 3) = true := beq_yes (by omega)
              have k2 : ((Cb.size : Int) == 2) = false := beq_no (by omega)
              have hh : Y = -1 := by rw [HY2.out, if_pos s3]
              clear HY2
              subst hh
              clear hfz hfy r0 r1
              rcases Zo with _ | z
              · unfold numV' at HZo
                go_wp2_with fail
                with_reducible refine (HDc.out _).mono ?_
                rintro e w2 ⟨rfl, rfl⟩
                go_wp2_with fail
                with_reducible refine (HZo.out _).mono ?_
                rintro e w2 ⟨rfl, hb2⟩
                have HBW := Lib.hid (HB.out.trans (hb2.mono HB.out.size))
                have HResW : Hid (w2.heap[w.heap.size]? = some (.cells #[.int .i64 0, .int .i64 0] 27 (0, 0))) := (hb2.block _ hsz1).trans HRes.out
                have hwW : w.heap.size < w2.heap.size := Nat.lt_of_lt_of_le hsz1 hb2.size
                replace c0 := (hb2.cell (p := ⟨B0, off, none⟩) hbk).trans c0
                replace c1 := (hb2.cell (p := ⟨B0, off + 1, none⟩) hbk).trans c1
                replace c3 := (hb2.cell (p := ⟨B0, off + 3, none⟩) hbk).trans c3
                clear hb2 c2 c4
                go_wp2_with fail
                with_reducible refine (HCl.out _).mono ?_
                rintro e w3 ⟨rfl, rfl⟩
                have y0 : ∀ z : BW w2, z.v.cell? ⟨B0, off, none⟩ = some (.string Ab) := BW.cell c0
                have y1 : ∀ z : BW w2, z.v.cell? ⟨B0, off + 1, none⟩ = some (.string Bb) := BW.cell c1
                go_wp2_with fail
                rcases R with _ | n
                · unfold numV' at HN
                  refine wp_region_below (by kernel_rfl) (by kernel_rfl) ?_
                  repeat (go_big_quiet_step (first
                    | (go_at_call 28; exact BW.calls_same (HDa.out _))
                    | (go_at_call 32; exact BW.calls (HMo.out _))
                    | (go_at_call 31; exact BW.calls_same (HN.out _))))
                  refine wpQuiet_nil ?_
                  rintro _ ⟨zz, rfl⟩
                  have hzb := zz.h
                  have HB3 : Hid (Below w.heap.size w zz.v) := HBW.out.trans (hzb.mono HBW.out.size)
                  have HRes3 : Hid (zz.v.heap[w.heap.size]? = some (.cells #[.int .i64 0, .int .i64 0] 27 (0, 0))) := (hzb.block _ hwW).trans HResW.out
                  clear hzb
                  generalize zz.v = W3 at HB3 HRes3 ⊢
                  clear HBW HResW y0 y1
                  have hfz : W3.frozen? ⟨w.heap.size, 0, none⟩ = false := by simp [World.frozen?, HRes3.out]
                  have hfy : W3.frozen? ⟨w.heap.size, 1, none⟩ = false := by simp [World.frozen?, HRes3.out]
                  have r0 : W3.cell? ⟨w.heap.size, 0, none⟩ = some (.int .i64 0) := by simp [World.cell?, HRes3.out]
                  have r1 : W3.cell? ⟨w.heap.size, 1, none⟩ = some (.int .i64 0) := by simp [World.cell?, HRes3.out]
                  clear HMo HN HDa
                  have HR : Hid (refTs (textsL s.data.toList) = none) := HI.out.trans (secR_n _ sec)
                  go_wp2_with fail
                  refine bodyPost_ret (results_cell_tmp (P := Tryd.prog) Tryd.results6 _ _ w.heap.size 27 _ (0, 0) _ rfl (two_set HRes3.out _ _) Tryd.underlying27 rfl (by kernel_rfl)) rfl ?_
                  rw [HR.out]
                  exact ⟨rfl, (HB3.out.setCell (Nat.le_refl _) _).setCell (Nat.le_refl _) _⟩
                · obtain ⟨n0, n1⟩ := hRb n rfl
                  unfold numV' at HN
                  refine wp_region_below (by kernel_rfl) (by kernel_rfl) ?_
                  repeat (go_big_quiet_step (first
                    | (go_at_call 28; exact BW.calls_same (HDa.out _))
                    | (go_at_call 32; exact BW.calls (HMo.out _))
                    | (go_at_call 31; exact BW.calls_same (HN.out _))))
                  refine wpQuiet_nil ?_
                  rintro _ ⟨zz, rfl⟩
                  have hzb := zz.h
                  have HB3 : Hid (Below w.heap.size w zz.v) := HBW.out.trans (hzb.mono HBW.out.size)
                  have HRes3 : Hid (zz.v.heap[w.heap.size]? = some (.cells #[.int .i64 0, .int .i64 0] 27 (0, 0))) := (hzb.block _ hwW).trans HResW.out
                  clear hzb
                  generalize zz.v = W3 at HB3 HRes3 ⊢
                  clear HBW HResW y0 y1
                  have hfz : W3.frozen? ⟨w.heap.size, 0, none⟩ = false := by simp [World.frozen?, HRes3.out]
                  have hfy : W3.frozen? ⟨w.heap.size, 1, none⟩ = false := by simp [World.frozen?, HRes3.out]
                  have r0 : W3.cell? ⟨w.heap.size, 0, none⟩ = some (.int .i64 0) := by simp [World.cell?, HRes3.out]
                  have r1 : W3.cell? ⟨w.heap.size, 1, none⟩ = some (.int .i64 0) := by simp [World.cell?, HRes3.out]
                  clear HMo HN HDa
                  have HR : Hid (refTs (textsL s.data.toList) = none) := HI.out
                  go_wp2_with fail
                  refine bodyPost_ret (results_cell_tmp (P := Tryd.prog) Tryd.results6 _ _ w.heap.size 27 _ (0, 0) _ rfl (two_set HRes3.out _ _) Tryd.underlying27 rfl (by kernel_rfl)) rfl ?_
                  rw [HR.out]
                  exact ⟨rfl, (HB3.out.setCell (Nat.le_refl _) _).setCell (Nat.le_refl _) _⟩
              · obtain ⟨z0, z1⟩ := hZb z rfl
                unfold numV' at HZo
                go_wp2_with fail
                with_reducible refine (HDc.out _).mono ?_
                rintro e w2 ⟨rfl, rfl⟩
                go_wp2_with fail
                with_reducible refine (HZo.out _).mono ?_
                rintro e w2 ⟨rfl, hb2⟩
                have HBW := Lib.hid (HB.out.trans (hb2.mono HB.out.size))
                have HResW : Hid (w2.heap[w.heap.size]? = some (.cells #[.int .i64 0, .int .i64 0] 27 (0, 0))) := (hb2.block _ hsz1).trans HRes.out
                have hwW : w.heap.size < w2.heap.size := Nat.lt_of_lt_of_le hsz1 hb2.size
                replace c0 := (hb2.cell (p := ⟨B0, off, none⟩) hbk).trans c0
                replace c1 := (hb2.cell (p := ⟨B0, off + 1, none⟩) hbk).trans c1
                replace c3 := (hb2.cell (p := ⟨B0, off + 3, none⟩) hbk).trans c3
                clear hb2 c2 c4
                go_wp2_with fail
                with_reducible refine (HCl.out _).mono ?_
                rintro e w3 ⟨rfl, rfl⟩
                have y0 : ∀ z : BW w2, z.v.cell? ⟨B0, off, none⟩ = some (.string Ab) := BW.cell c0
                have y1 : ∀ z : BW w2, z.v.cell? ⟨B0, off + 1, none⟩ = some (.string Bb) := BW.cell c1
                go_wp2_with fail
                rcases R with _ | n
                · unfold numV' at HN
                  refine wp_region_below (by kernel_rfl) (by kernel_rfl) ?_
                  repeat (go_big_quiet_step (first
                    | (go_at_call 28; exact BW.calls_same (HDa.out _))
                    | (go_at_call 32; exact BW.calls (HMo.out _))
                    | (go_at_call 31; exact BW.calls_same (HN.out _))))
                  refine wpQuiet_nil ?_
                  rintro _ ⟨zz, rfl⟩
                  have hzb := zz.h
                  have HB3 : Hid (Below w.heap.size w zz.v) := HBW.out.trans (hzb.mono HBW.out.size)
                  have HRes3 : Hid (zz.v.heap[w.heap.size]? = some (.cells #[.int .i64 0, .int .i64 0] 27 (0, 0))) := (hzb.block _ hwW).trans HResW.out
                  clear hzb
                  generalize zz.v = W3 at HB3 HRes3 ⊢
                  clear HBW HResW y0 y1
                  have hfz : W3.frozen? ⟨w.heap.size, 0, none⟩ = false := by simp [World.frozen?, HRes3.out]
                  have hfy : W3.frozen? ⟨w.heap.size, 1, none⟩ = false := by simp [World.frozen?, HRes3.out]
                  have r0 : W3.cell? ⟨w.heap.size, 0, none⟩ = some (.int .i64 0) := by simp [World.cell?, HRes3.out]
                  have r1 : W3.cell? ⟨w.heap.size, 1, none⟩ = some (.int .i64 0) := by simp [World.cell?, HRes3.out]
                  clear HMo HN HDa
                  have HR : Hid (refTs (textsL s.data.toList) = none) := HI.out.trans (secR_n _ sec)
                  by_cases hneg : sec < 0
                  · have i2 : decide (sec < 0) = true := decide_eq_true hneg
                    go_wp2_with fail
                    refine bodyPost_ret (results_cell_tmp (P := Tryd.prog) Tryd.results6 _ _ w.heap.size 27 _ (0, 0) _ rfl (two_set HRes3.out _ _) Tryd.underlying27 rfl (by kernel_rfl)) rfl ?_
                    rw [HR.out]
                    exact ⟨rfl, (HB3.out.setCell (Nat.le_refl _) _).setCell (Nat.le_refl _) _⟩
                  · have i2 : decide (sec < 0) = false := decide_eq_false hneg
                    go_wp2_with fail
                    refine bodyPost_ret (results_cell_tmp (P := Tryd.prog) Tryd.results6 _ _ w.heap.size 27 _ (0, 0) _ rfl (two_set HRes3.out _ _) Tryd.underlying27 rfl (by kernel_rfl)) rfl ?_
                    rw [HR.out]
                    exact ⟨rfl, (HB3.out.setCell (Nat.le_refl _) _).setCell (Nat.le_refl _) _⟩
                · obtain ⟨n0, n1⟩ := hRb n rfl
                  unfold numV' at HN
                  refine wp_region_below (by kernel_rfl) (by kernel_rfl) ?_
                  repeat (go_big_quiet_step (first
                    | (go_at_call 28; exact BW.calls_same (HDa.out _))
                    | (go_at_call 32; exact BW.calls (HMo.out _))
                    | (go_at_call 31; exact BW.calls_same (HN.out _))))
                  refine wpQuiet_nil ?_
                  rintro _ ⟨zz, rfl⟩
                  have hzb := zz.h
                  have HB3 : Hid (Below w.heap.size w zz.v) := HBW.out.trans (hzb.mono HBW.out.size)
                  have HRes3 : Hid (zz.v.heap[w.heap.size]? = some (.cells #[.int .i64 0, .int .i64 0] 27 (0, 0))) := (hzb.block _ hwW).trans HResW.out
                  clear hzb
                  generalize zz.v = W3 at HB3 HRes3 ⊢
                  clear HBW HResW y0 y1
                  have hfz : W3.frozen? ⟨w.heap.size, 0, none⟩ = false := by simp [World.frozen?, HRes3.out]
                  have hfy : W3.frozen? ⟨w.heap.size, 1, none⟩ = false := by simp [World.frozen?, HRes3.out]
                  have r0 : W3.cell? ⟨w.heap.size, 0, none⟩ = some (.int .i64 0) := by simp [World.cell?, HRes3.out]
                  have r1 : W3.cell? ⟨w.heap.size, 1, none⟩ = some (.int .i64 0) := by simp [World.cell?, HRes3.out]
                  clear HMo HN HDa
                  by_cases hneg : sec < 0
                  · have HR : Hid (refTs (textsL s.data.toList) = none) := HI.out.trans (if_pos hneg)
                    have i2 : decide (sec < 0) = true := decide_eq_true hneg
                    go_wp2_with fail
                    refine bodyPost_ret (results_cell_tmp (P := Tryd.prog) Tryd.results6 _ _ w.heap.size 27 _ (0, 0) _ rfl (two_set HRes3.out _ _) Tryd.underlying27 rfl (by kernel_rfl)) rfl ?_
                    rw [HR.out]
                    exact ⟨rfl, (HB3.out.setCell (Nat.le_refl _) _).setCell (Nat.le_refl _) _⟩
                  · have HR : Hid (refTs (textsL s.data.toList) = some (86400 * n + sec - 60 * z, z)) := HI.out.trans (if_neg hneg)
                    have i2 : decide (sec < 0) = false := decide_eq_false hneg
                    go_wp2_with fail
                    refine bodyPost_ret (results_cell_tmp (P := Tryd.prog) Tryd.results6 _ _ w.heap.size 27 _ (0, 0) _ rfl (two_set HRes3.out _ _) Tryd.underlying27 rfl (by kernel_rfl)) rfl ?_
                    rw [HR.out]
                    exact ⟨rfl, (HB3.out.setCell (Nat.le_refl _) _).setCell (Nat.le_refl _) _⟩
            · have k3 : ((Cb.size : Int) == 3) = false := beq_no (by omega)
              by_cases s2 : Cb.size = 2
              · have k2 : ((Cb.size : Int) == 2) = true := beq_yes (by omega)
                by_cases hn : y0' < 0
                · have k4 : decide (0 ≤ y0') = false := decide_eq_false (by omega)
                  have hh : Y = y0' := by rw [HY2.out, if_neg s3, if_neg (by omega)]
                  clear HY2
                  subst hh
                  clear hfz hfy r0 r1
                  rcases Zo with _ | z
                  · unfold numV' at HZo
                    go_wp2_with fail
                    with_reducible refine (HDc.out _).mono ?_
                    rintro e w2 ⟨rfl, rfl⟩
                    go_wp2_with fail
                    with_reducible refine (HZo.out _).mono ?_
                    rintro e w2 ⟨rfl, hb2⟩
                    have HBW := Lib.hid (HB.out.trans (hb2.mono HB.out.size))
                    have HResW : Hid (w2.heap[w.heap.size]? = some (.cells #[.int .i64 0, .int .i64 0] 27 (0, 0))) := (hb2.block _ hsz1).trans HRes.out
                    have hwW : w.heap.size < w2.heap.size := Nat.lt_of_lt_of_le hsz1 hb2.size
                    replace c0 := (hb2.cell (p := ⟨B0, off, none⟩) hbk).trans c0
                    replace c1 := (hb2.cell (p := ⟨B0, off + 1, none⟩) hbk).trans c1
                    replace c3 := (hb2.cell (p := ⟨B0, off + 3, none⟩) hbk).trans c3
                    clear hb2 c2 c4
                    go_wp2_with fail
                    with_reducible refine (HCl.out _).mono ?_
                    rintro e w3 ⟨rfl, rfl⟩
                    have y0 : ∀ z : BW w2, z.v.cell? ⟨B0, off, none⟩ = some (.string Ab) := BW.cell c0
                    have y1 : ∀ z : BW w2, z.v.cell? ⟨B0, off + 1, none⟩ = some (.string Bb) := BW.cell c1
                    go_wp2_with fail
                    rcases R with _ | n
                    · unfold numV' at HN
                      refine wp_region_below (by kernel_rfl) (by kernel_rfl) ?_
                      repeat (go_big_quiet_step (first
                        | (go_at_call 28; exact BW.calls_same (HDa.out _))
                        | (go_at_call 32; exact BW.calls (HMo.out _))
                        | (go_at_call 31; exact BW.calls_same (HN.out _))))
                      refine wpQuiet_nil ?_
                      rintro _ ⟨zz, rfl⟩
                      have hzb := zz.h
                      have HB3 : Hid (Below w.heap.size w zz.v) := HBW.out.trans (hzb.mono HBW.out.size)
                      have HRes3 : Hid (zz.v.heap[w.heap.size]? = some (.cells #[.int .i64 0, .int .i64 0] 27 (0, 0))) := (hzb.block _ hwW).trans HResW.out
                      clear hzb
                      generalize zz.v = W3 at HB3 HRes3 ⊢
                      clear HBW HResW y0 y1
                      have hfz : W3.frozen? ⟨w.heap.size, 0, none⟩ = false := by simp [World.frozen?, HRes3.out]
                      have hfy : W3.frozen? ⟨w.heap.size, 1, none⟩ = false := by simp [World.frozen?, HRes3.out]
                      have r0 : W3.cell? ⟨w.heap.size, 0, none⟩ = some (.int .i64 0) := by simp [World.cell?, HRes3.out]
                      have r1 : W3.cell? ⟨w.heap.size, 1, none⟩ = some (.int .i64 0) := by simp [World.cell?, HRes3.out]
                      clear HMo HN HDa
                      have HR : Hid (refTs (textsL s.data.toList) = none) := HI.out.trans (secR_n _ sec)
                      go_wp2_with fail
                      refine bodyPost_ret (results_cell_tmp (P := Tryd.prog) Tryd.results6 _ _ w.heap.size 27 _ (0, 0) _ rfl (two_set HRes3.out _ _) Tryd.underlying27 rfl (by kernel_rfl)) rfl ?_
                      rw [HR.out]
                      exact ⟨rfl, (HB3.out.setCell (Nat.le_refl _) _).setCell (Nat.le_refl _) _⟩
                    · obtain ⟨n0, n1⟩ := hRb n rfl
                      unfold numV' at HN
                      refine wp_region_below (by kernel_rfl) (by kernel_rfl) ?_
                      repeat (go_big_quiet_step (first
                        | (go_at_call 28; exact BW.calls_same (HDa.out _))
                        | (go_at_call 32; exact BW.calls (HMo.out _))
                        | (go_at_call 31; exact BW.calls_same (HN.out _))))
                      refine wpQuiet_nil ?_
                      rintro _ ⟨zz, rfl⟩
                      have hzb := zz.h
                      have HB3 : Hid (Below w.heap.size w zz.v) := HBW.out.trans (hzb.mono HBW.out.size)
                      have HRes3 : Hid (zz.v.heap[w.heap.size]? = some (.cells #[.int .i64 0, .int .i64 0] 27 (0, 0))) := (hzb.block _ hwW).trans HResW.out
                      clear hzb
                      generalize zz.v = W3 at HB3 HRes3 ⊢
                      clear HBW HResW y0 y1
                      have hfz : W3.frozen? ⟨w.heap.size, 0, none⟩ = false := by simp [World.frozen?, HRes3.out]
                      have hfy : W3.frozen? ⟨w.heap.size, 1, none⟩ = false := by simp [World.frozen?, HRes3.out]
                      have r0 : W3.cell? ⟨w.heap.size, 0, none⟩ = some (.int .i64 0) := by simp [World.cell?, HRes3.out]
                      have r1 : W3.cell? ⟨w.heap.size, 1, none⟩ = some (.int .i64 0) := by simp [World.cell?, HRes3.out]
                      clear HMo HN HDa
                      have HR : Hid (refTs (textsL s.data.toList) = none) := HI.out
                      go_wp2_with fail
                      refine bodyPost_ret (results_cell_tmp (P := Tryd.prog) Tryd.results6 _ _ w.heap.size 27 _ (0, 0) _ rfl (two_set HRes3.out _ _) Tryd.underlying27 rfl (by kernel_rfl)) rfl ?_
                      rw [HR.out]
                      exact ⟨rfl, (HB3.out.setCell (Nat.le_refl _) _).setCell (Nat.le_refl _) _⟩
                  · obtain ⟨z0, z1⟩ := hZb z rfl
                    unfold numV' at HZo
                    go_wp2_with fail
                    with_reducible refine (HDc.out _).mono ?_
                    rintro e w2 ⟨rfl, rfl⟩
                    go_wp2_with fail
                    with_reducible refine (HZo.out _).mono ?_
                    rintro e w2 ⟨rfl, hb2⟩
                    have HBW := Lib.hid (HB.out.trans (hb2.mono HB.out.size))
                    have HResW : Hid (w2.heap[w.heap.size]? = some (.cells #[.int .i64 0, .int .i64 0] 27 (0, 0))) := (hb2.block _ hsz1).trans HRes.out
                    have hwW : w.heap.size < w2.heap.size := Nat.lt_of_lt_of_le hsz1 hb2.size
                    replace c0 := (hb2.cell (p := ⟨B0, off, none⟩) hbk).trans c0
                    replace c1 := (hb2.cell (p := ⟨B0, off + 1, none⟩) hbk).trans c1
                    replace c3 := (hb2.cell (p := ⟨B0, off + 3, none⟩) hbk).trans c3
                    clear hb2 c2 c4
                    go_wp2_with fail
                    with_reducible refine (HCl.out _).mono ?_
                    rintro e w3 ⟨rfl, rfl⟩
                    have y0 : ∀ z : BW w2, z.v.cell? ⟨B0, off, none⟩ = some (.string Ab) := BW.cell c0
                    have y1 : ∀ z : BW w2, z.v.cell? ⟨B0, off + 1, none⟩ = some (.string Bb) := BW.cell c1
                    go_wp2_with fail
                    rcases R with _ | n
                    · unfold numV' at HN
                      refine wp_region_below (by kernel_rfl) (by kernel_rfl) ?_
                      repeat (go_big_quiet_step (first
                        | (go_at_call 28; exact BW.calls_same (HDa.out _))
                        | (go_at_call 32; exact BW.calls (HMo.out _))
                        | (go_at_call 31; exact BW.calls_same (HN.out _))))
                      refine wpQuiet_nil ?_
                      rintro _ ⟨zz, rfl⟩
                      have hzb := zz.h
                      have HB3 : Hid (Below w.heap.size w zz.v) := HBW.out.trans (hzb.mono HBW.out.size)
                      have HRes3 : Hid (zz.v.heap[w.heap.size]? = some (.cells #[.int .i64 0, .int .i64 0] 27 (0, 0))) := (hzb.block _ hwW).trans HResW.out
                      clear hzb
                      generalize zz.v = W3 at HB3 HRes3 ⊢
                      clear HBW HResW y0 y1
                      have hfz : W3.frozen? ⟨w.heap.size, 0, none⟩ = false := by simp [World.frozen?, HRes3.out]
                      have hfy : W3.frozen? ⟨w.heap.size, 1, none⟩ = false := by simp [World.frozen?, HRes3.out]
                      have r0 : W3.cell? ⟨w.heap.size, 0, none⟩ = some (.int .i64 0) := by simp [World.cell?, HRes3.out]
                      have r1 : W3.cell? ⟨w.heap.size, 1, none⟩ = some (.int .i64 0) := by simp [World.cell?, HRes3.out]
                      clear HMo HN HDa
                      have HR : Hid (refTs (textsL s.data.toList) = none) := HI.out.trans (secR_n _ sec)
                      by_cases hneg : sec < 0
                      · have i2 : decide (sec < 0) = true := decide_eq_true hneg
                        go_wp2_with fail
                        refine bodyPost_ret (results_cell_tmp (P := Tryd.prog) Tryd.results6 _ _ w.heap.size 27 _ (0, 0) _ rfl (two_set HRes3.out _ _) Tryd.underlying27 rfl (by kernel_rfl)) rfl ?_
                        rw [HR.out]
                        exact ⟨rfl, (HB3.out.setCell (Nat.le_refl _) _).setCell (Nat.le_refl _) _⟩
                      · have i2 : decide (sec < 0) = false := decide_eq_false hneg
                        go_wp2_with fail
                        refine bodyPost_ret (results_cell_tmp (P := Tryd.prog) Tryd.results6 _ _ w.heap.size 27 _ (0, 0) _ rfl (two_set HRes3.out _ _) Tryd.underlying27 rfl (by kernel_rfl)) rfl ?_
                        rw [HR.out]
                        exact ⟨rfl, (HB3.out.setCell (Nat.le_refl _) _).setCell (Nat.le_refl _) _⟩
                    · obtain ⟨n0, n1⟩ := hRb n rfl
                      unfold numV' at HN
                      refine wp_region_below (by kernel_rfl) (by kernel_rfl) ?_
                      repeat (go_big_quiet_step (first
                        | (go_at_call 28; exact BW.calls_same (HDa.out _))
                        | (go_at_call 32; exact BW.calls (HMo.out _))
                        | (go_at_call 31; exact BW.calls_same (HN.out _))))
                      refine wpQuiet_nil ?_
                      rintro _ ⟨zz, rfl⟩
                      have hzb := zz.h
                      have HB3 : Hid (Below w.heap.size w zz.v) := HBW.out.trans (hzb.mono HBW.out.size)
                      have HRes3 : Hid (zz.v.heap[w.heap.size]? = some (.cells #[.int .i64 0, .int .i64 0] 27 (0, 0))) := (hzb.block _ hwW).trans HResW.out
                      clear hzb
                      generalize zz.v = W3 at HB3 HRes3 ⊢
                      clear HBW HResW y0 y1
                      have hfz : W3.frozen? ⟨w.heap.size, 0, none⟩ = false := by simp [World.frozen?, HRes3.out]
                      have hfy : W3.frozen? ⟨w.heap.size, 1, none⟩ = false := by simp [World.frozen?, HRes3.out]
                      have r0 : W3.cell? ⟨w.heap.size, 0, none⟩ = some (.int .i64 0) := by simp [World.cell?, HRes3.out]
                      have r1 : W3.cell? ⟨w.heap.size, 1, none⟩ = some (.int .i64 0) := by simp [World.cell?, HRes3.out]
                      clear HMo HN HDa
                      by_cases hneg : sec < 0
                      · have HR : Hid (refTs (textsL s.data.toList) = none) := HI.out.trans (if_pos hneg)
                        have i2 : decide (sec < 0) = true := decide_eq_true hneg
                        go_wp2_with fail
                        refine bodyPost_ret (results_cell_tmp (P := Tryd.prog) Tryd.results6 _ _ w.heap.size 27 _ (0, 0) _ rfl (two_set HRes3.out _ _) Tryd.underlying27 rfl (by kernel_rfl)) rfl ?_
                        rw [HR.out]
                        exact ⟨rfl, (HB3.out.setCell (Nat.le_refl _) _).setCell (Nat.le_refl _) _⟩
                      · have HR : Hid (refTs (textsL s.data.toList) = some (86400 * n + sec - 60 * z, z)) := HI.out.trans (if_neg hneg)
                        have i2 : decide (sec < 0) = false := decide_eq_false hneg
                        go_wp2_with fail
                        refine bodyPost_ret (results_cell_tmp (P := Tryd.prog) Tryd.results6 _ _ w.heap.size 27 _ (0, 0) _ rfl (two_set HRes3.out _ _) Tryd.underlying27 rfl (by kernel_rfl)) rfl ?_
                        rw [HR.out]
                        exact ⟨rfl, (HB3.out.setCell (Nat.le_refl _) _).setCell (Nat.le_refl _) _⟩
                · have k4 : decide (0 ≤ y0') = true := decide_eq_true (by omega)
                  by_cases h50 : y0' + 1900 < 1950
                  · have k5 : decide (y0' + 1900 < 1950) = true := decide_eq_true h50
                    have hh : Y = y0' + 1900 + 100 := by rw [HY2.out, if_neg s3, if_pos (by omega), if_pos h50]
                    clear HY2
                    subst hh
                    clear hfz hfy r0 r1
                    rcases Zo with _ | z
                    · unfold numV' at HZo
                      go_wp2_with fail
                      with_reducible refine (HDc.out _).mono ?_
                      rintro e w2 ⟨rfl, rfl⟩
                      go_wp2_with fail
                      with_reducible refine (HZo.out _).mono ?_
                      rintro e w2 ⟨rfl, hb2⟩
                      have HBW := Lib.hid (HB.out.trans (hb2.mono HB.out.size))
                      have HResW : Hid (w2.heap[w.heap.size]? = some (.cells #[.int .i64 0, .int .i64 0] 27 (0, 0))) := (hb2.block _ hsz1).trans HRes.out
                      have hwW : w.heap.size < w2.heap.size := Nat.lt_of_lt_of_le hsz1 hb2.size
                      replace c0 := (hb2.cell (p := ⟨B0, off, none⟩) hbk).trans c0
                      replace c1 := (hb2.cell (p := ⟨B0, off + 1, none⟩) hbk).trans c1
                      replace c3 := (hb2.cell (p := ⟨B0, off + 3, none⟩) hbk).trans c3
                      clear hb2 c2 c4
                      go_wp2_with fail
                      with_reducible refine (HCl.out _).mono ?_
                      rintro e w3 ⟨rfl, rfl⟩
                      have y0 : ∀ z : BW w2, z.v.cell? ⟨B0, off, none⟩ = some (.string Ab) := BW.cell c0
                      have y1 : ∀ z : BW w2, z.v.cell? ⟨B0, off + 1, none⟩ = some (.string Bb) := BW.cell c1
                      go_wp2_with fail
                      rcases R with _ | n
                      · unfold numV' at HN
                        refine wp_region_below (by kernel_rfl) (by kernel_rfl) ?_
                        repeat (go_big_quiet_step (first
                          | (go_at_call 28; exact BW.calls_same (HDa.out _))
                          | (go_at_call 32; exact BW.calls (HMo.out _))
                          | (go_at_call 31; exact BW.calls_same (HN.out _))))
                        refine wpQuiet_nil ?_
                        rintro _ ⟨zz, rfl⟩
                        have hzb := zz.h
                        have HB3 : Hid (Below w.heap.size w zz.v) := HBW.out.trans (hzb.mono HBW.out.size)
                        have HRes3 : Hid (zz.v.heap[w.heap.size]? = some (.cells #[.int .i64 0, .int .i64 0] 27 (0, 0))) := (hzb.block _ hwW).trans HResW.out
                        clear hzb
                        generalize zz.v = W3 at HB3 HRes3 ⊢
                        clear HBW HResW y0 y1
                        have hfz : W3.frozen? ⟨w.heap.size, 0, none⟩ = false := by simp [World.frozen?, HRes3.out]
                        have hfy : W3.frozen? ⟨w.heap.size, 1, none⟩ = false := by simp [World.frozen?, HRes3.out]
                        have r0 : W3.cell? ⟨w.heap.size, 0, none⟩ = some (.int .i64 0) := by simp [World.cell?, HRes3.out]
                        have r1 : W3.cell? ⟨w.heap.size, 1, none⟩ = some (.int .i64 0) := by simp [World.cell?, HRes3.out]
                        clear HMo HN HDa
                        have HR : Hid (refTs (textsL s.data.toList) = none) := HI.out.trans (secR_n _ sec)
                        go_wp2_with fail
                        refine bodyPost_ret (results_cell_tmp (P := Tryd.prog) Tryd.results6 _ _ w.heap.size 27 _ (0, 0) _ rfl (two_set HRes3.out _ _) Tryd.underlying27 rfl (by kernel_rfl)) rfl ?_
                        rw [HR.out]
                        exact ⟨rfl, (HB3.out.setCell (Nat.le_refl _) _).setCell (Nat.le_refl _) _⟩
                      · obtain ⟨n0, n1⟩ := hRb n rfl
                        unfold numV' at HN
                        refine wp_region_below (by kernel_rfl) (by kernel_rfl) ?_
                        repeat (go_big_quiet_step (first
                          | (go_at_call 28; exact BW.calls_same (HDa.out _))
                          | (go_at_call 32; exact BW.calls (HMo.out _))
                          | (go_at_call 31; exact BW.calls_same (HN.out _))))
                        refine wpQuiet_nil ?_
                        rintro _ ⟨zz, rfl⟩
                        have hzb := zz.h
                        have HB3 : Hid (Below w.heap.size w zz.v) := HBW.out.trans (hzb.mono HBW.out.size)
                        have HRes3 : Hid (zz.v.heap[w.heap.size]? = some (.cells #[.int .i64 0, .int .i64 0] 27 (0, 0))) := (hzb.block _ hwW).trans HResW.out
                        clear hzb
                        generalize zz.v = W3 at HB3 HRes3 ⊢
                        clear HBW HResW y0 y1
                        have hfz : W3.frozen? ⟨w.heap.size, 0, none⟩ = false := by simp [World.frozen?, HRes3.out]
                        have hfy : W3.frozen? ⟨w.heap.size, 1, none⟩ = false := by simp [World.frozen?, HRes3.out]
                        have r0 : W3.cell? ⟨w.heap.size, 0, none⟩ = some (.int .i64 0) := by simp [World.cell?, HRes3.out]
                        have r1 : W3.cell? ⟨w.heap.size, 1, none⟩ = some (.int .i64 0) := by simp [World.cell?, HRes3.out]
                        clear HMo HN HDa
                        have HR : Hid (refTs (textsL s.data.toList) = none) := HI.out
                        go_wp2_with fail
                        refine bodyPost_ret (results_cell_tmp (P := Tryd.prog) Tryd.results6 _ _ w.heap.size 27 _ (0, 0) _ rfl (two_set HRes3.out _ _) Tryd.underlying27 rfl (by kernel_rfl)) rfl ?_
                        rw [HR.out]
                        exact ⟨rfl, (HB3.out.setCell (Nat.le_refl _) _).setCell (Nat.le_refl _) _⟩
                    · obtain ⟨z0, z1⟩ := hZb z rfl
                      unfold numV' at HZo
                      go_wp2_with fail
                      with_reducible refine (HDc.out _).mono ?_
                      rintro e w2 ⟨rfl, rfl⟩
                      go_wp2_with fail
                      with_reducible refine (HZo.out _).mono ?_
                      rintro e w2 ⟨rfl, hb2⟩
                      have HBW := Lib.hid (HB.out.trans (hb2.mono HB.out.size))
                      have HResW : Hid (w2.heap[w.heap.size]? = some (.cells #[.int .i64 0, .int .i64 0] 27 (0, 0))) := (hb2.block _ hsz1).trans HRes.out
                      have hwW : w.heap.size < w2.heap.size := Nat.lt_of_lt_of_le hsz1 hb2.size
                      replace c0 := (hb2.cell (p := ⟨B0, off, none⟩) hbk).trans c0
                      replace c1 := (hb2.cell (p := ⟨B0, off + 1, none⟩) hbk).trans c1
                      replace c3 := (hb2.cell (p := ⟨B0, off + 3, none⟩) hbk).trans c3
                      clear hb2 c2 c4
                      go_wp2_with fail
                      with_reducible refine (HCl.out _).mono ?_
                      rintro e w3 ⟨rfl, rfl⟩
                      have y0 : ∀ z : BW w2, z.v.cell? ⟨B0, off, none⟩ = some (.string Ab) := BW.cell c0
                      have y1 : ∀ z : BW w2, z.v.cell? ⟨B0, off + 1, none⟩ = some (.string Bb) := BW.cell c1
                      go_wp2_with fail
                      rcases R with _ | n
                      · unfold numV' at HN
                        refine wp_region_below (by kernel_rfl) (by kernel_rfl) ?_
                        repeat (go_big_quiet_step (first
                          | (go_at_call 28; exact BW.calls_same (HDa.out _))
                          | (go_at_call 32; exact BW.calls (HMo.out _))
                          | (go_at_call 31; exact BW.calls_same (HN.out _))))
                        refine wpQuiet_nil ?_
                        rintro _ ⟨zz, rfl⟩
                        have hzb := zz.h
                        have HB3 : Hid (Below w.heap.size w zz.v) := HBW.out.trans (hzb.mono HBW.out.size)
                        have HRes3 : Hid (zz.v.heap[w.heap.size]? = some (.cells #[.int .i64 0, .int .i64 0] 27 (0, 0))) := (hzb.block _ hwW).trans HResW.out
                        clear hzb
                        generalize zz.v = W3 at HB3 HRes3 ⊢
                        clear HBW HResW y0 y1
                        have hfz : W3.frozen? ⟨w.heap.size, 0, none⟩ = false := by simp [World.frozen?, HRes3.out]
                        have hfy : W3.frozen? ⟨w.heap.size, 1, none⟩ = false := by simp [World.frozen?, HRes3.out]
                        have r0 : W3.cell? ⟨w.heap.size, 0, none⟩ = some (.int .i64 0) := by simp [World.cell?, HRes3.out]
                        have r1 : W3.cell? ⟨w.heap.size, 1, none⟩ = some (.int .i64 0) := by simp [World.cell?, HRes3.out]
                        clear HMo HN HDa
                        have HR : Hid (refTs (textsL s.data.toList) = none) := HI.out.trans (secR_n _ sec)
                        by_cases hneg : sec < 0
                        · have i2 : decide (sec < 0) = true := decide_eq_true hneg
                          go_wp2_with fail
                          refine bodyPost_ret (results_cell_tmp (P := Tryd.prog) Tryd.results6 _ _ w.heap.size 27 _ (0, 0) _ rfl (two_set HRes3.out _ _) Tryd.underlying27 rfl (by kernel_rfl)) rfl ?_
                          rw [HR.out]
                          exact ⟨rfl, (HB3.out.setCell (Nat.le_refl _) _).setCell (Nat.le_refl _) _⟩
                        · have i2 : decide (sec < 0) = false := decide_eq_false hneg
                          go_wp2_with fail
                          refine bodyPost_ret (results_cell_tmp (P := Tryd.prog) Tryd.results6 _ _ w.heap.size 27 _ (0, 0) _ rfl (two_set HRes3.out _ _) Tryd.underlying27 rfl (by kernel_rfl)) rfl ?_
                          rw [HR.out]
                          exact ⟨rfl, (HB3.out.setCell (Nat.le_refl _) _).setCell (Nat.le_refl _) _⟩
                      · obtain ⟨n0, n1⟩ := hRb n rfl
                        unfold numV' at HN
                        refine wp_region_below (by kernel_rfl) (by kernel_rfl) ?_
                        repeat (go_big_quiet_step (first
                          | (go_at_call 28; exact BW.calls_same (HDa.out _))
                          | (go_at_call 32; exact BW.calls (HMo.out _))
                          | (go_at_call 31; exact BW.calls_same (HN.out _))))
                        refine wpQuiet_nil ?_
                        rintro _ ⟨zz, rfl⟩
                        have hzb := zz.h
                        have HB3 : Hid (Below w.heap.size w zz.v) := HBW.out.trans (hzb.mono HBW.out.size)
                        have HRes3 : Hid (zz.v.heap[w.heap.size]? = some (.cells #[.int .i64 0, .int .i64 0] 27 (0, 0))) := (hzb.block _ hwW).trans HResW.out
                        clear hzb
                        generalize zz.v = W3 at HB3 HRes3 ⊢
                        clear HBW HResW y0 y1
                        have hfz : W3.frozen? ⟨w.heap.size, 0, none⟩ = false := by simp [World.frozen?, HRes3.out]
                        have hfy : W3.frozen? ⟨w.heap.size, 1, none⟩ = false := by simp [World.frozen?, HRes3.out]
                        have r0 : W3.cell? ⟨w.heap.size, 0, none⟩ = some (.int .i64 0) := by simp [World.cell?, HRes3.out]
                        have r1 : W3.cell? ⟨w.heap.size, 1, none⟩ = some (.int .i64 0) := by simp [World.cell?, HRes3.out]
                        clear HMo HN HDa
                        by_cases hneg : sec < 0
                        · have HR : Hid (refTs (textsL s.data.toList) = none) := HI.out.trans (if_pos hneg)
                          have i2 : decide (sec < 0) = true := decide_eq_true hneg
                          go_wp2_with fail
                          refine bodyPost_ret (results_cell_tmp (P := Tryd.prog) Tryd.results6 _ _ w.heap.size 27 _ (0, 0) _ rfl (two_set HRes3.out _ _) Tryd.underlying27 rfl (by kernel_rfl)) rfl ?_
                          rw [HR.out]
                          exact ⟨rfl, (HB3.out.setCell (Nat.le_refl _) _).setCell (Nat.le_refl _) _⟩
                        · have HR : Hid (refTs (textsL s.data.toList) = some (86400 * n + sec - 60 * z, z)) := HI.out.trans (if_neg hneg)
                          have i2 : decide (sec < 0) = false := decide_eq_false hneg
                          go_wp2_with fail
                          refine bodyPost_ret (results_cell_tmp (P := Tryd.prog) Tryd.results6 _ _ w.heap.size 27 _ (0, 0) _ rfl (two_set HRes3.out _ _) Tryd.underlying27 rfl (by kernel_rfl)) rfl ?_
                          rw [HR.out]
                          exact ⟨rfl, (HB3.out.setCell (Nat.le_refl _) _).setCell (Nat.le_refl _) _⟩
                  · have k5 : decide (y0' + 1900 < 1950) = false := decide_eq_false h50
                    have hh : Y = y0' + 1900 := by rw [HY2.out, if_neg s3, if_pos (by omega), if_neg h50]
                    clear HY2
                    subst hh
                    clear hfz hfy r0 r1
                    rcases Zo with _ | z
                    · unfold numV' at HZo
                      go_wp2_with fail
                      with_reducible refine (HDc.out _).mono ?_
                      rintro e w2 ⟨rfl, rfl⟩
                      go_wp2_with fail
                      with_reducible refine (HZo.out _).mono ?_
                      rintro e w2 ⟨rfl, hb2⟩
                      have HBW := Lib.hid (HB.out.trans (hb2.mono HB.out.size))
                      have HResW : Hid (w2.heap[w.heap.size]? = some (.cells #[.int .i64 0, .int .i64 0] 27 (0, 0))) := (hb2.block _ hsz1).trans HRes.out
                      have hwW : w.heap.size < w2.heap.size := Nat.lt_of_lt_of_le hsz1 hb2.size
                      replace c0 := (hb2.cell (p := ⟨B0, off, none⟩) hbk).trans c0
                      replace c1 := (hb2.cell (p := ⟨B0, off + 1, none⟩) hbk).trans c1
                      replace c3 := (hb2.cell (p := ⟨B0, off + 3, none⟩) hbk).trans c3
                      clear hb2 c2 c4
                      go_wp2_with fail
                      with_reducible refine (HCl.out _).mono ?_
                      rintro e w3 ⟨rfl, rfl⟩
                      have y0 : ∀ z : BW w2, z.v.cell? ⟨B0, off, none⟩ = some (.string Ab) := BW.cell c0
                      have y1 : ∀ z : BW w2, z.v.cell? ⟨B0, off + 1, none⟩ = some (.string Bb) := BW.cell c1
                      go_wp2_with fail
                      rcases R with _ | n
                      · unfold numV' at HN
                        refine wp_region_below (by kernel_rfl) (by kernel_rfl) ?_
                        repeat (go_big_quiet_step (first
                          | (go_at_call 28; exact BW.calls_same (HDa.out _))
                          | (go_at_call 32; exact BW.calls (HMo.out _))
                          | (go_at_call 31; exact BW.calls_same (HN.out _))))
                        refine wpQuiet_nil ?_
                        rintro _ ⟨zz, rfl⟩
                        have hzb := zz.h
                        have HB3 : Hid (Below w.heap.size w zz.v) := HBW.out.trans (hzb.mono HBW.out.size)
                        have HRes3 : Hid (zz.v.heap[w.heap.size]? = some (.cells #[.int .i64 0, .int .i64 0] 27 (0, 0))) := (hzb.block _ hwW).trans HResW.out
                        clear hzb
                        generalize zz.v = W3 at HB3 HRes3 ⊢
                        clear HBW HResW y0 y1
                        have hfz : W3.frozen? ⟨w.heap.size, 0, none⟩ = false := by simp [World.frozen?, HRes3.out]
                        have hfy : W3.frozen? ⟨w.heap.size, 1, none⟩ = false := by simp [World.frozen?, HRes3.out]
                        have r0 : W3.cell? ⟨w.heap.size, 0, none⟩ = some (.int .i64 0) := by simp [World.cell?, HRes3.out]
                        have r1 : W3.cell? ⟨w.heap.size, 1, none⟩ = some (.int .i64 0) := by simp [World.cell?, HRes3.out]
                        clear HMo HN HDa
                        have HR : Hid (refTs (textsL s.data.toList) = none) := HI.out.trans (secR_n _ sec)
                        go_wp2_with fail
                        refine bodyPost_ret (results_cell_tmp (P := Tryd.prog) Tryd.results6 _ _ w.heap.size 27 _ (0, 0) _ rfl (two_set HRes3.out _ _) Tryd.underlying27 rfl (by kernel_rfl)) rfl ?_
                        rw [HR.out]
                        exact ⟨rfl, (HB3.out.setCell (Nat.le_refl _) _).setCell (Nat.le_refl _) _⟩
                      · obtain ⟨n0, n1⟩ := hRb n rfl
                        unfold numV' at HN
                        refine wp_region_below (by kernel_rfl) (by kernel_rfl) ?_
                        repeat (go_big_quiet_step (first
                          | (go_at_call 28; exact BW.calls_same (HDa.out _))
                          | (go_at_call 32; exact BW.calls (HMo.out _))
                          | (go_at_call 31; exact BW.calls_same (HN.out _))))
                        refine wpQuiet_nil ?_
                        rintro _ ⟨zz, rfl⟩
                        have hzb := zz.h
                        have HB3 : Hid (Below w.heap.size w zz.v) := HBW.out.trans (hzb.mono HBW.out.size)
                        have HRes3 : Hid (zz.v.heap[w.heap.size]? = some (.cells #[.int .i64 0, .int .i64 0] 27 (0, 0))) := (hzb.block _ hwW).trans HResW.out
                        clear hzb
                        generalize zz.v = W3 at HB3 HRes3 ⊢
                        clear HBW HResW y0 y1
                        have hfz : W3.frozen? ⟨w.heap.size, 0, none⟩ = false := by simp [World.frozen?, HRes3.out]
                        have hfy : W3.frozen? ⟨w.heap.size, 1, none⟩ = false := by simp [World.frozen?, HRes3.out]
                        have r0 : W3.cell? ⟨w.heap.size, 0, none⟩ = some (.int .i64 0) := by simp [World.cell?, HRes3.out]
                        have r1 : W3.cell? ⟨w.heap.size, 1, none⟩ = some (.int .i64 0) := by simp [World.cell?, HRes3.out]
                        clear HMo HN HDa
                        have HR : Hid (refTs (textsL s.data.toList) = none) := HI.out
                        go_wp2_with fail
                        refine bodyPost_ret (results_cell_tmp (P := Tryd.prog) Tryd.results6 _ _ w.heap.size 27 _ (0, 0) _ rfl (two_set HRes3.out _ _) Tryd.underlying27 rfl (by kernel_rfl)) rfl ?_
                        rw [HR.out]
                        exact ⟨rfl, (HB3.out.setCell (Nat.le_refl _) _).setCell (Nat.le_refl _) _⟩
                    · obtain ⟨z0, z1⟩ := hZb z rfl
                      unfold numV' at HZo
                      go_wp2_with fail
                      with_reducible refine (HDc.out _).mono ?_
                      rintro e w2 ⟨rfl, rfl⟩
                      go_wp2_with fail
                      with_reducible refine (HZo.out _).mono ?_
                      rintro e w2 ⟨rfl, hb2⟩
                      have HBW := Lib.hid (HB.out.trans (hb2.mono HB.out.size))
                      have HResW : Hid (w2.heap[w.heap.size]? = some (.cells #[.int .i64 0, .int .i64 0] 27 (0, 0))) := (hb2.block _ hsz1).trans HRes.out
                      have hwW : w.heap.size < w2.heap.size := Nat.lt_of_lt_of_le hsz1 hb2.size
                      replace c0 := (hb2.cell (p := ⟨B0, off, none⟩) hbk).trans c0
                      replace c1 := (hb2.cell (p := ⟨B0, off + 1, none⟩) hbk).trans c1
                      replace c3 := (hb2.cell (p := ⟨B0, off + 3, none⟩) hbk).trans c3
                      clear hb2 c2 c4
                      go_wp2_with fail
                      with_reducible refine (HCl.out _).mono ?_
                      rintro e w3 ⟨rfl, rfl⟩
                      have y0 : ∀ z : BW w2, z.v.cell? ⟨B0, off, none⟩ = some (.string Ab) := BW.cell c0
                      have y1 : ∀ z : BW w2, z.v.cell? ⟨B0, off + 1, none⟩ = some (.string Bb) := BW.cell c1
                      go_wp2_with fail
                      rcases R with _ | n
                      · unfold numV' at HN
                        refine wp_region_below (by kernel_rfl) (by kernel_rfl) ?_
                        repeat (go_big_quiet_step (first
                          | (go_at_call 28; exact BW.calls_same (HDa.out _))
                          | (go_at_call 32; exact BW.calls (HMo.out _))
                          | (go_at_call 31; exact BW.calls_same (HN.out _))))
                        refine wpQuiet_nil ?_
                        rintro _ ⟨zz, rfl⟩
                        have hzb := zz.h
                        have HB3 : Hid (Below w.heap.size w zz.v) := HBW.out.trans (hzb.mono HBW.out.size)
                        have HRes3 : Hid (zz.v.heap[w.heap.size]? = some (.cells #[.int .i64 0, .int .i64 0] 27 (0, 0))) := (hzb.block _ hwW).trans HResW.out
                        clear hzb
                        generalize zz.v = W3 at HB3 HRes3 ⊢
                        clear HBW HResW y0 y1
                        have hfz : W3.frozen? ⟨w.heap.size, 0, none⟩ = false := by simp [World.frozen?, HRes3.out]
                        have hfy : W3.frozen? ⟨w.heap.size, 1, none⟩ = false := by simp [World.frozen?, HRes3.out]
                        have r0 : W3.cell? ⟨w.heap.size, 0, none⟩ = some (.int .i64 0) := by simp [World.cell?, HRes3.out]
                        have r1 : W3.cell? ⟨w.heap.size, 1, none⟩ = some (.int .i64 0) := by simp [World.cell?, HRes3.out]
                        clear HMo HN HDa
                        have HR : Hid (refTs (textsL s.data.toList) = none) := HI.out.trans (secR_n _ sec)
                        by_cases hneg : sec < 0
                        · have i2 : decide (sec < 0) = true := decide_eq_true hneg
                          go_wp2_with fail
                          refine bodyPost_ret (results_cell_tmp (P := Tryd.prog) Tryd.results6 _ _ w.heap.size 27 _ (0, 0) _ rfl (two_set HRes3.out _ _) Tryd.underlying27 rfl (by kernel_rfl)) rfl ?_
                          rw [HR.out]
                          exact ⟨rfl, (HB3.out.setCell (Nat.le_refl _) _).setCell (Nat.le_refl _) _⟩
                        · have i2 : decide (sec < 0) = false := decide_eq_false hneg
                          go_wp2_with fail
                          refine bodyPost_ret (results_cell_tmp (P := Tryd.prog) Tryd.results6 _ _ w.heap.size 27 _ (0, 0) _ rfl (two_set HRes3.out _ _) Tryd.underlying27 rfl (by kernel_rfl)) rfl ?_
                          rw [HR.out]
                          exact ⟨rfl, (HB3.out.setCell (Nat.le_refl _) _).setCell (Nat.le_refl _) _⟩
                      · obtain ⟨n0, n1⟩ := hRb n rfl
                        unfold numV' at HN
                        refine wp_region_below (by kernel_rfl) (by kernel_rfl) ?_
                        repeat (go_big_quiet_step (first
                          | (go_at_call 28; exact BW.calls_same (HDa.out _))
                          | (go_at_call 32; exact BW.calls (HMo.out _))
                          | (go_at_call 31; exact BW.calls_same (HN.out _))))
                        refine wpQuiet_nil ?_
                        rintro _ ⟨zz, rfl⟩
                        have hzb := zz.h
                        have HB3 : Hid (Below w.heap.size w zz.v) := HBW.out.trans (hzb.mono HBW.out.size)
                        have HRes3 : Hid (zz.v.heap[w.heap.size]? = some (.cells #[.int .i64 0, .int .i64 0] 27 (0, 0))) := (hzb.block _ hwW).trans HResW.out
                        clear hzb
                        generalize zz.v = W3 at HB3 HRes3 ⊢
                        clear HBW HResW y0 y1
                        have hfz : W3.frozen? ⟨w.heap.size, 0, none⟩ = false := by simp [World.frozen?, HRes3.out]
                        have hfy : W3.frozen? ⟨w.heap.size, 1, none⟩ = false := by simp [World.frozen?, HRes3.out]
                        have r0 : W3.cell? ⟨w.heap.size, 0, none⟩ = some (.int .i64 0) := by simp [World.cell?, HRes3.out]
                        have r1 : W3.cell? ⟨w.heap.size, 1, none⟩ = some (.int .i64 0) := by simp [World.cell?, HRes3.out]
                        clear HMo HN HDa
                        by_cases hneg : sec < 0
                        · have HR : Hid (refTs (textsL s.data.toList) = none) := HI.out.trans (if_pos hneg)
                          have i2 : decide (sec < 0) = true := decide_eq_true hneg
                          go_wp2_with fail
                          refine bodyPost_ret (results_cell_tmp (P := Tryd.prog) Tryd.results6 _ _ w.heap.size 27 _ (0, 0) _ rfl (two_set HRes3.out _ _) Tryd.underlying27 rfl (by kernel_rfl)) rfl ?_
                          rw [HR.out]
                          exact ⟨rfl, (HB3.out.setCell (Nat.le_refl _) _).setCell (Nat.le_refl _) _⟩
                        · have HR : Hid (refTs (textsL s.data.toList) = some (86400 * n + sec - 60 * z, z)) := HI.out.trans (if_neg hneg)
                          have i2 : decide (sec < 0) = false := decide_eq_false hneg
                          go_wp2_with fail
                          refine bodyPost_ret (results_cell_tmp (P := Tryd.prog) Tryd.results6 _ _ w.heap.size 27 _ (0, 0) _ rfl (two_set HRes3.out _ _) Tryd.underlying27 rfl (by kernel_rfl)) rfl ?_
                          rw [HR.out]
                          exact ⟨rfl, (HB3.out.setCell (Nat.le_refl _) _).setCell (Nat.le_refl _) _⟩
              · have k2 : ((Cb.size : Int) == 2) = false := beq_no (by omega)
                have hh : Y = y0' := by rw [HY2.out, if_neg s3, if_neg (by omega)]
                clear HY2
                subst hh
                clear hfz hfy r0 r1
                rcases Zo with _ | z
                · unfold numV' at HZo
                  go_wp2_with fail
                  with_reducible refine (HDc.out _).mono ?_
                  rintro e w2 ⟨rfl, rfl⟩
                  go_wp2_with fail
                  with_reducible refine (HZo.out _).mono ?_
                  rintro e w2 ⟨rfl, hb2⟩
                  have HBW := Lib.hid (HB.out.trans (hb2.mono HB.out.size))
                  have HResW : Hid (w2.heap[w.heap.size]? = some (.cells #[.int .i64 0, .int .i64 0] 27 (0, 0))) := (hb2.block _ hsz1).trans HRes.out
                  have hwW : w.heap.size < w2.heap.size := Nat.lt_of_lt_of_le hsz1 hb2.size
                  replace c0 := (hb2.cell (p := ⟨B0, off, none⟩) hbk).trans c0
                  replace c1 := (hb2.cell (p := ⟨B0, off + 1, none⟩) hbk).trans c1
                  replace c3 := (hb2.cell (p := ⟨B0, off + 3, none⟩) hbk).trans c3
                  clear hb2 c2 c4
                  go_wp2_with fail
                  with_reducible refine (HCl.out _).mono ?_
                  rintro e w3 ⟨rfl, rfl⟩
                  have y0 : ∀ z : BW w2, z.v.cell? ⟨B0, off, none⟩ = some (.string Ab) := BW.cell c0
                  have y1 : ∀ z : BW w2, z.v.cell? ⟨B0, off + 1, none⟩ = some (.string Bb) := BW.cell c1
                  go_wp2_with fail
                  rcases R with _ | n
                  · unfold numV' at HN
                    refine wp_region_below (by kernel_rfl) (by kernel_rfl) ?_
                    repeat (go_big_quiet_step (first
                      | (go_at_call 28; exact BW.calls_same (HDa.out _))
                      | (go_at_call 32; exact BW.calls (HMo.out _))
                      | (go_at_call 31; exact BW.calls_same (HN.out _))))
                    refine wpQuiet_nil ?_
                    rintro _ ⟨zz, rfl⟩
                    have hzb := zz.h
                    have HB3 : Hid (Below w.heap.size w zz.v) := HBW.out.trans (hzb.mono HBW.out.size)
                    have HRes3 : Hid (zz.v.heap[w.heap.size]? = some (.cells #[.int .i64 0, .int .i64 0] 27 (0, 0))) := (hzb.block _ hwW).trans HResW.out
                    clear hzb
                    generalize zz.v = W3 at HB3 HRes3 ⊢
                    clear HBW HResW y0 y1
                    have hfz : W3.frozen? ⟨w.heap.size, 0, none⟩ = false := by simp [World.frozen?, HRes3.out]
                    have hfy : W3.frozen? ⟨w.heap.size, 1, none⟩ = false := by simp [World.frozen?, HRes3.out]
                    have r0 : W3.cell? ⟨w.heap.size, 0, none⟩ = some (.int .i64 0) := by simp [World.cell?, HRes3.out]
                    have r1 : W3.cell? ⟨w.heap.size, 1, none⟩ = some (.int .i64 0) := by simp [World.cell?, HRes3.out]
                    clear HMo HN HDa
                    have HR : Hid (refTs (textsL s.data.toList) = none) := HI.out.trans (secR_n _ sec)
                    go_wp2_with fail
                    refine bodyPost_ret (results_cell_tmp (P := Tryd.prog) Tryd.results6 _ _ w.heap.size 27 _ (0, 0) _ rfl (two_set HRes3.out _ _) Tryd.underlying27 rfl (by kernel_rfl)) rfl ?_
                    rw [HR.out]
                    exact ⟨rfl, (HB3.out.setCell (Nat.le_refl _) _).setCell (Nat.le_refl _) _⟩
                  · obtain ⟨n0, n1⟩ := hRb n rfl
                    unfold numV' at HN
                    refine wp_region_below (by kernel_rfl) (by kernel_rfl) ?_
                    repeat (go_big_quiet_step (first
                      | (go_at_call 28; exact BW.calls_same (HDa.out _))
                      | (go_at_call 32; exact BW.calls (HMo.out _))
                      | (go_at_call 31; exact BW.calls_same (HN.out _))))
                    refine wpQuiet_nil ?_
                    rintro _ ⟨zz, rfl⟩
                    have hzb := zz.h
                    have HB3 : Hid (Below w.heap.size w zz.v) := HBW.out.trans (hzb.mono HBW.out.size)
                    have HRes3 : Hid (zz.v.heap[w.heap.size]? = some (.cells #[.int .i64 0, .int .i64 0] 27 (0, 0))) := (hzb.block _ hwW).trans HResW.out
                    clear hzb
                    generalize zz.v = W3 at HB3 HRes3 ⊢
                    clear HBW HResW y0 y1
                    have hfz : W3.frozen? ⟨w.heap.size, 0, none⟩ = false := by simp [World.frozen?, HRes3.out]
                    have hfy : W3.frozen? ⟨w.heap.size, 1, none⟩ = false := by simp [World.frozen?, HRes3.out]
                    have r0 : W3.cell? ⟨w.heap.size, 0, none⟩ = some (.int .i64 0) := by simp [World.cell?, HRes3.out]
                    have r1 : W3.cell? ⟨w.heap.size, 1, none⟩ = some (.int .i64 0) := by simp [World.cell?, HRes3.out]
                    clear HMo HN HDa
                    have HR : Hid (refTs (textsL s.data.toList) = none) := HI.out
                    go_wp2_with fail
                    refine bodyPost_ret (results_cell_tmp (P := Tryd.prog) Tryd.results6 _ _ w.heap.size 27 _ (0, 0) _ rfl (two_set HRes3.out _ _) Tryd.underlying27 rfl (by kernel_rfl)) rfl ?_
                    rw [HR.out]
                    exact ⟨rfl, (HB3.out.setCell (Nat.le_refl _) _).setCell (Nat.le_refl _) _⟩
                · obtain ⟨z0, z1⟩ := hZb z rfl
                  unfold numV' at HZo
                  go_wp2_with fail
                  with_reducible refine (HDc.out _).mono ?_
                  rintro e w2 ⟨rfl, rfl⟩
                  go_wp2_with fail
                  with_reducible refine (HZo.out _).mono ?_
                  rintro e w2 ⟨rfl, hb2⟩
                  have HBW := Lib.hid (HB.out.trans (hb2.mono HB.out.size))
                  have HResW : Hid (w2.heap[w.heap.size]? = some (.cells #[.int .i64 0, .int .i64 0] 27 (0, 0))) := (hb2.block _ hsz1).trans HRes.out
                  have hwW : w.heap.size < w2.heap.size := Nat.lt_of_lt_of_le hsz1 hb2.size
                  replace c0 := (hb2.cell (p := ⟨B0, off, none⟩) hbk).trans c0
                  replace c1 := (hb2.cell (p := ⟨B0, off + 1, none⟩) hbk).trans c1
                  replace c3 := (hb2.cell (p := ⟨B0, off + 3, none⟩) hbk).trans c3
                  clear hb2 c2 c4
                  go_wp2_with fail
                  with_reducible refine (HCl.out _).mono ?_
                  rintro e w3 ⟨rfl, rfl⟩
                  have y0 : ∀ z : BW w2, z.v.cell? ⟨B0, off, none⟩ = some (.string Ab) := BW.cell c0
                  have y1 : ∀ z : BW w2, z.v.cell? ⟨B0, off + 1, none⟩ = some (.string Bb) := BW.cell c1
                  go_wp2_with fail
                  rcases R with _ | n
                  · unfold numV' at HN
                    refine wp_region_below (by kernel_rfl) (by kernel_rfl) ?_
                    repeat (go_big_quiet_step (first
                      | (go_at_call 28; exact BW.calls_same (HDa.out _))
                      | (go_at_call 32; exact BW.calls (HMo.out _))
                      | (go_at_call 31; exact BW.calls_same (HN.out _))))
                    refine wpQuiet_nil ?_
                    rintro _ ⟨zz, rfl⟩
                    have hzb := zz.h
                    have HB3 : Hid (Below w.heap.size w zz.v) := HBW.out.trans (hzb.mono HBW.out.size)
                    have HRes3 : Hid (zz.v.heap[w.heap.size]? = some (.cells #[.int .i64 0, .int .i64 0] 27 (0, 0))) := (hzb.block _ hwW).trans HResW.out
                    clear hzb
                    generalize zz.v = W3 at HB3 HRes3 ⊢
                    clear HBW HResW y0 y1
                    have hfz : W3.frozen? ⟨w.heap.size, 0, none⟩ = false := by simp [World.frozen?, HRes3.out]
                    have hfy : W3.frozen? ⟨w.heap.size, 1, none⟩ = false := by simp [World.frozen?, HRes3.out]
                    have r0 : W3.cell? ⟨w.heap.size, 0, none⟩ = some (.int .i64 0) := by simp [World.cell?, HRes3.out]
                    have r1 : W3.cell? ⟨w.heap.size, 1, none⟩ = some (.int .i64 0) := by simp [World.cell?, HRes3.out]
                    clear HMo HN HDa
                    have HR : Hid (refTs (textsL s.data.toList) = none) := HI.out.trans (secR_n _ sec)
                    by_cases hneg : sec < 0
                    · have i2 : decide (sec < 0) = true := decide_eq_true hneg
                      go_wp2_with fail
                      refine bodyPost_ret (results_cell_tmp (P := Tryd.prog) Tryd.results6 _ _ w.heap.size 27 _ (0, 0) _ rfl (two_set HRes3.out _ _) Tryd.underlying27 rfl (by kernel_rfl)) rfl ?_
                      rw [HR.out]
                      exact ⟨rfl, (HB3.out.setCell (Nat.le_refl _) _).setCell (Nat.le_refl _) _⟩
                    · have i2 : decide (sec < 0) = false := decide_eq_false hneg
                      go_wp2_with fail
                      refine bodyPost_ret (results_cell_tmp (P := Tryd.prog) Tryd.results6 _ _ w.heap.size 27 _ (0, 0) _ rfl (two_set HRes3.out _ _) Tryd.underlying27 rfl (by kernel_rfl)) rfl ?_
                      rw [HR.out]
                      exact ⟨rfl, (HB3.out.setCell (Nat.le_refl _) _).setCell (Nat.le_refl _) _⟩
                  · obtain ⟨n0, n1⟩ := hRb n rfl
                    unfold numV' at HN
                    refine wp_region_below (by kernel_rfl) (by kernel_rfl) ?_
                    repeat (go_big_quiet_step (first
                      | (go_at_call 28; exact BW.calls_same (HDa.out _))
                      | (go_at_call 32; exact BW.calls (HMo.out _))
                      | (go_at_call 31; exact BW.calls_same (HN.out _))))
                    refine wpQuiet_nil ?_
                    rintro _ ⟨zz, rfl⟩
                    have hzb := zz.h
                    have HB3 : Hid (Below w.heap.size w zz.v) := HBW.out.trans (hzb.mono HBW.out.size)
                    have HRes3 : Hid (zz.v.heap[w.heap.size]? = some (.cells #[.int .i64 0, .int .i64 0] 27 (0, 0))) := (hzb.block _ hwW).trans HResW.out
                    clear hzb
                    generalize zz.v = W3 at HB3 HRes3 ⊢
                    clear HBW HResW y0 y1
                    have hfz : W3.frozen? ⟨w.heap.size, 0, none⟩ = false := by simp [World.frozen?, HRes3.out]
                    have hfy : W3.frozen? ⟨w.heap.size, 1, none⟩ = false := by simp [World.frozen?, HRes3.out]
                    have r0 : W3.cell? ⟨w.heap.size, 0, none⟩ = some (.int .i64 0) := by simp [World.cell?, HRes3.out]
                    have r1 : W3.cell? ⟨w.heap.size, 1, none⟩ = some (.int .i64 0) := by simp [World.cell?, HRes3.out]
                    clear HMo HN HDa
                    by_cases hneg : sec < 0
                    · have HR : Hid (refTs (textsL s.data.toList) = none) := HI.out.trans (if_pos hneg)
                      have i2 : decide (sec < 0) = true := decide_eq_true hneg
                      go_wp2_with fail
                      refine bodyPost_ret (results_cell_tmp (P := Tryd.prog) Tryd.results6 _ _ w.heap.size 27 _ (0, 0) _ rfl (two_set HRes3.out _ _) Tryd.underlying27 rfl (by kernel_rfl)) rfl ?_
                      rw [HR.out]
                      exact ⟨rfl, (HB3.out.setCell (Nat.le_refl _) _).setCell (Nat.le_refl _) _⟩
                    · have HR : Hid (refTs (textsL s.data.toList) = some (86400 * n + sec - 60 * z, z)) := HI.out.trans (if_neg hneg)
                      have i2 : decide (sec < 0) = false := decide_eq_false hneg
                      go_wp2_with fail
                      refine bodyPost_ret (results_cell_tmp (P := Tryd.prog) Tryd.results6 _ _ w.heap.size 27 _ (0, 0) _ rfl (two_set HRes3.out _ _) Tryd.underlying27 rfl (by kernel_rfl)) rfl ?_
                      rw [HR.out]
                      exact ⟨rfl, (HB3.out.setCell (Nat.le_refl _) _).setCell (Nat.le_refl _) _⟩
          · exact absurd (by simp) h5
end Go.Proofs.YtpmjlhpbknppiaaDoor
