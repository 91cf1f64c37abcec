/- The laws of layer 11: DateInternal. -/
import Derived.Test.YtfndidcoahammaaDoorDrB
import Derived.Test.YtfndidcoahammaaDoorDvC
import Derived.Test.YtfndidcoahammaaDoorQB
namespace Go.Proofs.YtfndidcoahammaaDoor
open Go Go.RowKit

theorem dayOf_two {n : Int} {y m d : Nat} (h : DayOf n none) (h' : DayOf n (some (y, m, d))) : False := by
  obtain ⟨k1, k2, k3, k4, k5⟩ := numberK_inv h'.1
  have hm := h'.2
  have h2 := ahead_succ y k1
  have h3 := ahead_le (x := y + 1) (y := 10000) (by omega) (by omega)
  have h4 : ahead 10000 = 3652059 := by decide
  have h5 := monSum_step y m
  have h6 := monSum_le' (y := y) (m := m + 1) (k := 12) (by omega)
  rw [monSum_12] at h6
  rcases h with h | h <;> omega
theorem intQ_inj {sec zone : Int} {l l' : List UInt8} (h : IntQ sec zone l) (h' : IntQ sec zone l') : l = l' := by
  rcases h with ⟨g, rfl⟩ | ⟨g, g2, rfl⟩ | ⟨g, y, m, d, g2, rfl⟩ <;> rcases h' with ⟨k, rfl⟩ | ⟨k, k2, rfl⟩ | ⟨k, y', m', d', k2, rfl⟩
  · rfl
  · exact absurd k g
  · exact absurd k g
  · exact absurd g k
  · rfl
  · exact (dayOf_two g2 k2).elim
  · exact absurd g k
  · exact (dayOf_two k2 g2).elim
  · obtain ⟨rfl, rfl, rfl⟩ := numberK_inj g2.2 k2.2 g2.1 k2.1
    rfl
theorem intK_nil : intK [] = none := by kernel_rfl
theorem intQ_ways {sec zone : Int} {l : List UInt8} (h : IntQ sec zone l) : (l = [] ∧ intK l = none) ∨ (l.length = 28 ∧ intK l = some (sec, zone)) := by
  rcases h with ⟨g, rfl⟩ | ⟨g, g2, rfl⟩ | ⟨g, y, m, d, g2, rfl⟩
  · exact .inl ⟨rfl, intK_nil⟩
  · exact .inl ⟨rfl, intK_nil⟩
  · refine .inr ⟨?_, back_is sec zone g g2.1 g2.2⟩
    obtain ⟨y1, d1⟩ := numberK_small g2.1
    obtain ⟨a1, a2, a3, a4⟩ := g
    exact (text_mid y1 g2.2 d1 (secQ_lt sec zone).1 (by omega) (by omega)).1

set_option maxRecDepth 100000 in
set_option maxHeartbeats 8000000 in
theorem dateInternal_of (HI : IntOk) (sec zone : Int) (w : World) (h0 : -9223372036854775808 ≤ sec) (h1 : sec ≤ 9223372036854775807) (h2 : -9223372036854775808 ≤ zone) (h3 : zone ≤ 9223372036854775807) (hE : envD w) :
    Calls Tryd.prog 4 #[.agg #[.int .i64 sec, .int .i64 zone]] w fun e w' => e = .returned (.bool true) ∧ Below w.heap.size w w' := by
  have HAw := Lib.hid (fun w h => awake_any HI w h)
  have HEn := Lib.hid hE
  have HIn := Lib.hid (fun w h => HI sec zone w h0 h1 h2 h3 h)
  obtain ⟨X1, hX1⟩ : ∃ X, X = w.alloc (.cells #[.int .i64 sec, .int .i64 zone] 24) := ⟨_, rfl⟩
  obtain ⟨B1, hB1⟩ : ∃ B, B = w.heap.size := ⟨_, rfl⟩
  have HT1 : Hid (TimeAt X1 B1 sec zone) := by rw [hX1, hB1]; exact timeAt_new w _ _
  have HBw : Hid (w.heap.size ≤ B1) := by rw [hB1]; exact Nat.le_refl _
  have HB : Hid (Below w.heap.size w X1) := by rw [hX1]; exact (Below.refl _ _).alloc (Nat.le_refl _) _
  clear hE HI
  go_enter Tryd.func4, Tryd.ntmps4
  go_wp2_with fail
  rw [← hX1, ← hB1]
  clear hX1 hB1
  with_reducible refine (HAw.out _ (HEn.out.below HB.out)).mono ?_
  rintro e w1 ⟨rfl, hb⟩
  replace HT1 := Lib.hid (HT1.out.below hb)
  replace HB := Lib.hid (HB.out.trans (hb.mono HB.out.size))
  clear hb
  obtain ⟨a0, a1, _⟩ := HT1.out

  by_cases z0 : 1125899906842624 < sec
  · have i0 : decide (1125899906842624 < sec) = true := decide_eq_true z0
    go_wp2_with fail
    go_ret
    exact ⟨rfl, HB.out⟩
  · have i0 : decide (1125899906842624 < sec) = false := decide_eq_false z0
    by_cases z1 : sec < -1125899906842624
    · have i1 : decide (sec < -1125899906842624) = true := decide_eq_true z1
      go_wp2_with fail
      go_ret
      exact ⟨rfl, HB.out⟩
    · have i1 : decide (sec < -1125899906842624) = false := decide_eq_false z1
      by_cases z2 : 1073741824 < zone
      · have i2 : decide (1073741824 < zone) = true := decide_eq_true z2
        go_wp2_with fail
        go_ret
        exact ⟨rfl, HB.out⟩
      · have i2 : decide (1073741824 < zone) = false := decide_eq_false z2
        by_cases z3 : zone < -1073741824
        · have i3 : decide (zone < -1073741824) = true := decide_eq_true z3
          go_wp2_with fail
          go_ret
          exact ⟨rfl, HB.out⟩
        · have i3 : decide (zone < -1073741824) = false := decide_eq_false z3
          have HRI := Lib.hid (fun w => refInternal_any sec zone w (by omega) (by omega) (by omega) (by omega))
          have HRD := Lib.hid (fun w => refDay_any sec zone (by omega) (by omega) (by omega) (by omega) w)
          have HDD := Lib.hid (fun w => day_any sec zone (by omega) (by omega) (by omega) (by omega) w)
          obtain ⟨dn, hdn⟩ : ∃ d, dayN sec zone = d := ⟨_, rfl⟩
          rw [hdn] at HRD HDD
          clear hdn z0 z1 z2 z3 h0 h1 h2 h3
          go_upto_region 7 with fail
          clear a0 a1
          obtain ⟨X2, hX2⟩ : ∃ X, X = w1.alloc (.cells #[.int .i64 sec, .int .i64 zone] 27) := ⟨_, rfl⟩
          obtain ⟨B2, hB2⟩ : ∃ B, B = w1.heap.size := ⟨_, rfl⟩
          have hb : Below w1.heap.size w1 X2 := by rw [hX2]; exact (Below.refl _ _).alloc (Nat.le_refl _) _
          have HT2 : Hid (TimeAt X2 B2 sec zone) := by
            rw [hX2, hB2]
            obtain ⟨a, b⟩ := cells2 w1 27 (.int .i64 sec) (.int .i64 zone)
            exact ⟨a, b, by rw [size_alloc']; exact Nat.lt_succ_self _⟩
          replace HT1 := Lib.hid (HT1.out.below hb)
          replace HB := Lib.hid (HB.out.trans (hb.mono HB.out.size))
          clear hb
          rw [← hX2, ← hB2]
          clear hX2 hB2
          obtain ⟨b0, b1, _⟩ := HT1.out
          go_wp2_with fail
          with_reducible refine (HIn.out _ (HEn.out.below HB.out)).mono ?_
          rintro e w2 ⟨⟨l, rfl, hl⟩, hb⟩
          replace HT1 := Lib.hid (HT1.out.below hb)
          replace HT2 := Lib.hid (HT2.out.below hb)
          replace HB := Lib.hid (HB.out.trans (hb.mono HB.out.size))
          clear hb b0 b1
          have HRS := Lib.hid (fun w => (HRI.out w).mono fun e w' (h : (∃ l', e = .returned (.string ⟨l'.toArray⟩) ∧ IntQ sec zone l') ∧ Below w.heap.size w w') => show e = .returned (.string ⟨l.toArray⟩) ∧ Below w.heap.size w w' from ⟨by obtain ⟨l', he, hq⟩ := h.1; rw [he, intQ_inj hl hq], h.2⟩)
          have hway := intQ_ways hl
          clear hl HRI
          obtain ⟨S, hS⟩ : ∃ S : ByteArray, S = ⟨l.toArray⟩ := ⟨_, rfl⟩
          rw [← hS] at HRS
          rw [← hS]
          have hSl : S.data.toList = l := by rw [hS]
          have q0 : (dn != dn) = false := bne_no rfl
          have q1 : (sec == sec) = true := beq_yes rfl
          have q2 : (zone == zone) = true := beq_yes rfl
          obtain ⟨c0, c1, _⟩ := HT1.out
          obtain ⟨d0, d1, _⟩ := HT2.out
          have y0 : ∀ z : BW w2, z.v.cell? ⟨B1, 0, none⟩ = some (.int .i64 sec) := BW.cell c0
          have y1 : ∀ z : BW w2, z.v.cell? ⟨B1, 1, none⟩ = some (.int .i64 zone) := BW.cell c1
          have y2 : ∀ z : BW w2, z.v.cell? ⟨B2, 0, none⟩ = some (.int .i64 sec) := BW.cell d0
          have y3 : ∀ z : BW w2, z.v.cell? ⟨B2, 1, none⟩ = some (.int .i64 zone) := BW.cell d1
          have HW : Hid ((S = ⟨#[]⟩ ∧ intK S.data.toList = none) ∨ (S.size = 28 ∧ intK S.data.toList = some (sec, zone))) := by
            rcases hway with ⟨g, k⟩ | ⟨g, k⟩
            · exact .inl ⟨by rw [hS, g], by rw [hSl]; exact k⟩
            · exact .inr ⟨by rw [← len_toList, hSl]; exact g, by rw [hSl]; exact k⟩
          clear hS hSl hway
          go_upto_region 8 with fail
          go_cut [46] (fun v wx => v = .bool false ∧ Hid (Below w2.heap.size w2 wx))
          case first =>
            refine wp_region_below (by kernel_rfl) (by kernel_rfl) ?_
            repeat (go_big_quiet_step (first
              | (go_at_call 15; exact BW.calls (HRS.out _))
              | (go_at_call 16; exact BW.calls (HDD.out _))
              | (go_at_call 17; exact BW.calls (HRD.out _))))
            refine wpQuiet_nil ?_
            rintro _ ⟨z, rfl⟩
            have HZ := Lib.hid z.h
            go_wp2_with fail
            go_meet
            exact ⟨by simp, HZ⟩
          case rest =>
            obtain ⟨rfl, HB0⟩ := hcut
            rename_i w3
            replace HT1 := Lib.hid (HT1.out.below HB0.out)
            replace HB := Lib.hid (HB.out.trans (HB0.out.mono HB.out.size))
            clear c0 c1 d0 d1 y0 y1 y2 y3 HT2 HRS HRD HDD HB0 q0
            rcases HW.out with ⟨hs, hk⟩ | ⟨hs, hk⟩
            · have HQ := Lib.hid (fun w h => parseInternal_any S w (by rw [hs]; exact Nat.zero_le _) h)
              rw [hk] at HQ
              have hSe : S.toList = [] := by rw [ByteArray.toList_eq, hs]
              have hSf : (S.toList == []) = true := by rw [hSe]; rfl
              unfold momV at HQ
              clear hk hs HW
              go_wp2_with fail
              with_reducible refine (HQ.out _ (HEn.out.below HB.out)).mono ?_
              rintro e w4 ⟨rfl, hb⟩
              replace HT1 := Lib.hid (HT1.out.below hb)
              replace HB := Lib.hid (HB.out.trans (hb.mono HB.out.size))
              clear hb
              obtain ⟨X5, hX5⟩ : ∃ X, X = w4.alloc (.cells #[.int .i64 0, .int .i64 0] 24) := ⟨_, rfl⟩
              obtain ⟨B5, hB5⟩ : ∃ B, B = w4.heap.size := ⟨_, rfl⟩
              have hb : Below w4.heap.size w4 X5 := by rw [hX5]; exact (Below.refl _ _).alloc (Nat.le_refl _) _
              have HT5 : TimeAt X5 B5 0 0 := by rw [hX5, hB5]; exact timeAt_new w4 _ _
              replace HT1 := Lib.hid (HT1.out.below hb)
              replace HB := Lib.hid (HB.out.trans (hb.mono HB.out.size))
              clear hb
              go_upto_region 11 with fail
              rw [← hX5, ← hB5]
              clear hX5 hB5
              obtain ⟨c0, c1, _⟩ := HT1.out
              obtain ⟨d0, d1, _⟩ := HT5
              go_wp2
              go_ret
              exact ⟨rfl, HB.out⟩
            · have HQ := Lib.hid (fun w h => parseInternal_any S w (by omega) h)
              rw [hk] at HQ
              have hSe : ¬ S.toList = [] := by
                intro g
                rw [ByteArray.toList_eq] at g
                have := congrArg List.length g
                rw [len_toList, hs] at this
                exact absurd this (by decide)
              have hSf : (S.toList == []) = false := by rw [beq_eq_false_iff_ne]; exact hSe
              unfold momV at HQ
              clear hk hs HW
              go_wp2_with fail
              with_reducible refine (HQ.out _ (HEn.out.below HB.out)).mono ?_
              rintro e w4 ⟨rfl, hb⟩
              replace HT1 := Lib.hid (HT1.out.below hb)
              replace HB := Lib.hid (HB.out.trans (hb.mono HB.out.size))
              clear hb
              obtain ⟨X5, hX5⟩ : ∃ X, X = w4.alloc (.cells #[.int .i64 sec, .int .i64 zone] 24) := ⟨_, rfl⟩
              obtain ⟨B5, hB5⟩ : ∃ B, B = w4.heap.size := ⟨_, rfl⟩
              have hb : Below w4.heap.size w4 X5 := by rw [hX5]; exact (Below.refl _ _).alloc (Nat.le_refl _) _
              have HT5 : TimeAt X5 B5 sec zone := by rw [hX5, hB5]; exact timeAt_new w4 _ _
              replace HT1 := Lib.hid (HT1.out.below hb)
              replace HB := Lib.hid (HB.out.trans (hb.mono HB.out.size))
              clear hb
              go_upto_region 11 with fail
              rw [← hX5, ← hB5]
              clear hX5 hB5
              obtain ⟨c0, c1, _⟩ := HT1.out
              obtain ⟨d0, d1, _⟩ := HT5
              go_wp2
              go_ret
              exact ⟨rfl, HB.out⟩
end Go.Proofs.YtfndidcoahammaaDoor
