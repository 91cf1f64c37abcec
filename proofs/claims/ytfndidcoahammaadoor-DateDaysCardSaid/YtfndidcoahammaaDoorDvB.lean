/- DateDays: each day's text leads to its number, and the day behind it is one more. -/
import Derived.Test.YtfndidcoahammaaDoorDvA
namespace Go.Proofs.YtfndidcoahammaaDoor
open Go Go.RowKit

/-- The middle of a moment's text: a day, perhaps with a blank ahead. -/
theorem text_mid {y m d x zh zm : Nat} {sg : UInt8} (hy : y < 10000) (hm : m < 12) (hd : d < 100) (hx : x < 86400) (hzh : zh < 100) (hzm : zm < 100) :
    (intT0 y m d x zh zm sg).length = 28 ∧ (((intT0 y m d x zh zm sg).drop 1).take 11 = (if d < 10 then [32] else []) ++ dayT y m d) := by
  obtain ⟨a, b, c, hmn, hmi, _⟩ := mon_cons m hm
  obtain ⟨d1, d2, hd2, hL⟩ := intT_is (x := x) (zh := zh) (zm := zm) (sg := sg) hy hd hx hzh hzm hmn
  rw [hL]
  refine ⟨rfl, ?_⟩
  unfold day2 at hd2
  unfold dayT
  rw [hmn]
  by_cases h : d < 10
  · rw [if_pos h] at hd2 ⊢
    simp only [List.cons.injEq, and_true] at hd2
    obtain ⟨rfl, rfl⟩ := hd2
    rw [if_pos h]
    rfl
  · rw [if_neg h] at hd2 ⊢
    simp only [List.cons.injEq, and_true] at hd2
    obtain ⟨rfl, rfl⟩ := hd2
    rw [if_neg h]
    rfl
set_option maxRecDepth 100000 in
set_option maxHeartbeats 8000000 in
theorem dateDays_of (HI : IntOk) (n : Nat) (hn : n ≤ 4294967295) (w : World) (hE : envD w) :
    Calls Tryd.prog 5 #[.int .u32 (n : Int)] w fun e w' => e = .returned (.bool true) ∧ Below w.heap.size w w' := by
  have HAw := Lib.hid (fun w h => awake_any HI w h)
  have HEn := Lib.hid hE
  obtain ⟨k, hk⟩ : ∃ k : Nat, k = n % 2900000 := ⟨_, rfl⟩
  have hk9 : k < 2900000 := by omega
  obtain ⟨y, m, d, N, r, hN, y1, y9, ha, hb, hr, hm12, ms0, ms1, hd, hdm, hnum⟩ := number_ex (k : Int) (by omega) (by omega)
  obtain ⟨hy, hdd⟩ := numberK_small hnum
  have hd1 : 1 ≤ d := by omega
  clear hN ha hb hr ms0 ms1 hd hdm N r y9
  have k0 : dayN ((k : Int) * 86400) 0 = (k : Int) := by unfold dayN; omega
  have k1 : dayN ((k : Int) * 86400 + 86399) 0 = (k : Int) := by unfold dayN; omega
  have k2 : dayN ((k : Int) * 86400 + 86400) 0 = (k : Int) + 1 := by unfold dayN; omega
  have HIn := Lib.hid (fun w h => internal_at HI ((k : Int) * 86400) 0 w ⟨by omega, by omega, by omega, by omega⟩ (by rw [k0]; exact hnum) hm12 h)
  have HD0 := Lib.hid (fun w => day_any ((k : Int) * 86400) 0 (by omega) (by omega) (by omega) (by omega) w)
  have HD1 := Lib.hid (fun w => day_any ((k : Int) * 86400 + 86399) 0 (by omega) (by omega) (by omega) (by omega) w)
  have HD2 := Lib.hid (fun w => day_any ((k : Int) * 86400 + 86400) 0 (by omega) (by omega) (by omega) (by omega) w)
  rw [k0] at HD0
  rw [k1] at HD1
  rw [k2] at HD2
  obtain ⟨x1, x2⟩ := secQ_lt ((k : Int) * 86400) 0
  obtain ⟨tl, tm⟩ := text_mid (zh := (0 : Int).natAbs / 60) (zm := (0 : Int).natAbs % 60) (sg := if (0 : Int) < 0 then 45 else 43) hy hm12 hdd x1 (by decide) (by decide)
  obtain ⟨T, hT⟩ : ∃ T : ByteArray, T = ⟨(intT0 y m d (secQ ((k : Int) * 86400) 0) ((0 : Int).natAbs / 60) ((0 : Int).natAbs % 60) (if (0 : Int) < 0 then 45 else 43)).toArray⟩ := ⟨_, rfl⟩
  rw [← hT] at HIn
  have hTs : T.size = 28 := by rw [← len_toList, hT]; exact tl
  have hTl : T.data.toList = intT0 y m d (secQ ((k : Int) * 86400) 0) ((0 : Int).natAbs / 60) ((0 : Int).natAbs % 60) (if (0 : Int) < 0 then 45 else 43) := by rw [hT]
  obtain ⟨D, hD⟩ : ∃ D, T.extract 1 12 = D := ⟨_, rfl⟩
  have hDl : D.data.toList = (if d < 10 then [32] else []) ++ dayT y m d := by
    rw [← hD, extract_toList, hTl]
    exact tm
  have hDs : D.size = 11 := by rw [← hD]; exact extract_size' T 1 12 (by omega)
  have pb := parseDay_bare hy hm12 hdd
  have pq := parseDay_quot hy hm12 hdd
  rw [hnum] at pb pq
  have hTI : ((T.size : Int) != 28) = false := bne_no (by omega)
  have q0 : ((k : Int) != (k : Int)) = false := bne_no rfl
  have q1 : ((k : Int) + 1 != (k : Int) + 1) = false := bne_no rfl
  have q2 : ((k : Int) == (k : Int)) = true := beq_yes rfl
  have r0 : (n : Int) % 2900000 = (k : Int) := by omega
  have r1 : (n : Int).tmod 2900000 = (k : Int) := by rw [Int.tmod_eq_emod_of_nonneg (by omega)]; exact r0
  have s0 : (86400 : Int) * (k : Int) = (k : Int) * 86400 := Int.mul_comm _ _
  have HR0 := Lib.hid r0
  clear hk k0 k1 k2 x1 x2 tl tm hT hTl hnum hE HI hy hdd y1 hm12
  go_enter Tryd.func5, Tryd.ntmps5
  go_wp2_with fail
  with_reducible refine (HAw.out _ HEn.out).mono ?_
  rintro e w1 ⟨rfl, hb1⟩
  have HB := Lib.hid hb1
  clear hb1
  go_wp2_with fail
  obtain ⟨X, hX⟩ : ∃ X, X = (w1.alloc (.cells #[.int .i64 ((k : Int) * 86400), .int .i64 0] 24)).alloc (.cells #[.int .i64 ((k : Int) * 86400 + 86399), .int .i64 0] 24) := ⟨_, rfl⟩
  obtain ⟨B1, hB1⟩ : ∃ B, B = w1.heap.size := ⟨_, rfl⟩
  obtain ⟨B2, hB2⟩ : ∃ B, B = w1.heap.size + 1 := ⟨_, rfl⟩
  obtain ⟨a2, a3⟩ : X.cell? ⟨B2, 0, none⟩ = some (.int .i64 ((k : Int) * 86400 + 86399)) ∧ X.cell? ⟨B2, 1, none⟩ = some (.int .i64 0) := by
    have h := cells2 (w1.alloc (.cells #[.int .i64 ((k : Int) * 86400), .int .i64 0] 24)) 24 (.int .i64 ((k : Int) * 86400 + 86399)) (.int .i64 0)
    rw [size_alloc', ← hB2] at h
    rw [hX]
    exact h
  have hbX : Below (w1.alloc (.cells #[.int .i64 ((k : Int) * 86400), .int .i64 0] 24)).heap.size (w1.alloc (.cells #[.int .i64 ((k : Int) * 86400), .int .i64 0] 24)) X := by rw [hX]; exact (Below.refl _ _).alloc (Nat.le_refl _) _
  obtain ⟨z0, z1⟩ := cells2 w1 24 (.int .i64 ((k : Int) * 86400)) (.int .i64 0)
  rw [← hB1] at z0 z1
  have a0 : X.cell? ⟨B1, 0, none⟩ = some (.int .i64 ((k : Int) * 86400)) := (hbX.cell (p := ⟨B1, 0, none⟩) (by rw [size_alloc', hB1]; exact Nat.lt_succ_self _)).trans z0
  have a1 : X.cell? ⟨B1, 1, none⟩ = some (.int .i64 0) := (hbX.cell (p := ⟨B1, 1, none⟩) (by rw [size_alloc', hB1]; exact Nat.lt_succ_self _)).trans z1
  have ab1 : B1 < X.heap.size := by rw [hX, size_alloc', size_alloc', hB1]; omega
  have ab2 : B2 < X.heap.size := by rw [hX, size_alloc', size_alloc', hB2]; omega
  replace HB := Lib.hid (show Below w.heap.size w X by rw [hX]; exact (HB.out.alloc HB.out.size _).alloc (Nat.le_trans HB.out.size (by rw [size_alloc']; omega)) _)
  rw [← hX, ← hB2, ← hB1]
  clear z0 z1 hbX hX hB1 hB2
  with_reducible refine (HIn.out _ (HEn.out.below HB.out)).mono ?_
  rintro e w2 ⟨rfl, hb⟩
  have c0 : w2.cell? ⟨B1, 0, none⟩ = some (.int .i64 ((k : Int) * 86400)) := (hb.cell (p := ⟨B1, 0, none⟩) ab1).trans a0
  have c1 : w2.cell? ⟨B1, 1, none⟩ = some (.int .i64 0) := (hb.cell (p := ⟨B1, 1, none⟩) ab1).trans a1
  have c2 : w2.cell? ⟨B2, 0, none⟩ = some (.int .i64 ((k : Int) * 86400 + 86399)) := (hb.cell (p := ⟨B2, 0, none⟩) ab2).trans a2
  have c3 : w2.cell? ⟨B2, 1, none⟩ = some (.int .i64 0) := (hb.cell (p := ⟨B2, 1, none⟩) ab2).trans a3
  have cb1 : B1 < w2.heap.size := Nat.lt_of_lt_of_le ab1 hb.size
  have cb2 : B2 < w2.heap.size := Nat.lt_of_lt_of_le ab2 hb.size
  replace HB := Lib.hid (HB.out.trans (hb.mono HB.out.size))
  clear hb a0 a1 a2 a3 ab1 ab2
  have sA : (k : Int) * 86400 + 86399 + 1 = (k : Int) * 86400 + 86400 := by omega
  go_wp2_with fail
  with_reducible refine (HD0.out _).mono ?_
  rintro e w3 ⟨rfl, hb⟩
  have d0 : w3.cell? ⟨B1, 0, none⟩ = some (.int .i64 ((k : Int) * 86400)) := (hb.cell (p := ⟨B1, 0, none⟩) cb1).trans c0
  have d1 : w3.cell? ⟨B1, 1, none⟩ = some (.int .i64 0) := (hb.cell (p := ⟨B1, 1, none⟩) cb1).trans c1
  have d2 : w3.cell? ⟨B2, 0, none⟩ = some (.int .i64 ((k : Int) * 86400 + 86399)) := (hb.cell (p := ⟨B2, 0, none⟩) cb2).trans c2
  have d3 : w3.cell? ⟨B2, 1, none⟩ = some (.int .i64 0) := (hb.cell (p := ⟨B2, 1, none⟩) cb2).trans c3
  have db1 : B1 < w3.heap.size := Nat.lt_of_lt_of_le cb1 hb.size
  have db2 : B2 < w3.heap.size := Nat.lt_of_lt_of_le cb2 hb.size
  replace HB := Lib.hid (HB.out.trans (hb.mono HB.out.size))
  clear hb c0 c1 c2 c3 cb1 cb2
  go_wp2_with fail
  with_reducible refine (HD1.out _).mono ?_
  rintro e w4 ⟨rfl, hb⟩
  have f0 : w4.cell? ⟨B1, 0, none⟩ = some (.int .i64 ((k : Int) * 86400)) := (hb.cell (p := ⟨B1, 0, none⟩) db1).trans d0
  have f1 : w4.cell? ⟨B1, 1, none⟩ = some (.int .i64 0) := (hb.cell (p := ⟨B1, 1, none⟩) db1).trans d1
  have f2 : w4.cell? ⟨B2, 0, none⟩ = some (.int .i64 ((k : Int) * 86400 + 86399)) := (hb.cell (p := ⟨B2, 0, none⟩) db2).trans d2
  have f3 : w4.cell? ⟨B2, 1, none⟩ = some (.int .i64 0) := (hb.cell (p := ⟨B2, 1, none⟩) db2).trans d3
  have fb1 : B1 < w4.heap.size := Nat.lt_of_lt_of_le db1 hb.size
  have fb2 : B2 < w4.heap.size := Nat.lt_of_lt_of_le db2 hb.size
  replace HB := Lib.hid (HB.out.trans (hb.mono HB.out.size))
  clear hb d0 d1 d2 d3 db1 db2
  go_wp2_with fail
  with_reducible refine (HD2.out _).mono ?_
  rintro e w5 ⟨rfl, hb⟩
  replace HB := Lib.hid (HB.out.trans (hb.mono HB.out.size))
  clear hb f0 f1 f2 f3 fb1 fb2
  by_cases h10 : d < 10
  · rw [if_pos h10] at hDl
    have hD0 : (D[0]'(by omega)).toNat = 32 := by
      have h := bytes_get D 0 (by omega)
      rw [hDl] at h
      have h2 : (32 : UInt8) = D[0]'(by omega) := Option.some.inj h
      rw [← h2]
      rfl
    have iD : (((D[0]'(by omega)).toNat : Int) == 32) = true := beq_yes (by omega)
    obtain ⟨D', hD'⟩ : ∃ D', D.extract 1 11 = D' := ⟨_, rfl⟩
    have hDl' : D'.data.toList = dayT y m d := by
      rw [← hD', extract_toList, hDl]
      have : (dayT y m d).length = 10 := by
        have e := congrArg List.length hDl
        rw [len_toList, hDs, List.length_append] at e
        simp at e
        omega
      show ((dayT y m d)).take (11 - 1) = _
      exact List.take_of_length_le (by omega)
    have hDs' : D'.size = 10 := by rw [← hD']; exact extract_size' D 1 11 (by omega)
    have HPa := Lib.hid (fun w h => parseDay_any D' w (by omega) h)
    have HPb := Lib.hid (fun w h => parseDay_any (⟨#[34]⟩ ++ D' ++ ⟨#[34]⟩) w (by rw [ByteArray.size_append, ByteArray.size_append]; show 1 + D'.size + 1 ≤ _; omega) h)
    have hq : (⟨#[34]⟩ ++ D' ++ ⟨#[34]⟩ : ByteArray).data.toList = [34] ++ dayT y m d ++ [34] := by rw [cat_toList, cat_toList, hDl']
    rw [hDl', pb] at HPa
    rw [hq, pq] at HPb
    have t1 : (⟨#[34]⟩ ++ D' : ByteArray).size ≤ 100 := by rw [ByteArray.size_append]; show 1 + D'.size ≤ _; omega
    unfold numV' at HPa HPb
    clear hDl hD0 hDl' hq pb pq
    go_wp2_with fail
    with_reducible refine (HPa.out _ (HEn.out.below HB.out)).mono ?_
    rintro e w6 ⟨rfl, hb⟩
    replace HB := Lib.hid (HB.out.trans (hb.mono HB.out.size))
    clear hb
    go_wp2_with fail
    with_reducible refine (HPb.out _ (HEn.out.below HB.out)).mono ?_
    rintro e w7 ⟨rfl, hb⟩
    replace HB := Lib.hid (HB.out.trans (hb.mono HB.out.size))
    clear hb
    go_wp2_with fail
    go_ret
    exact ⟨rfl, HB.out⟩
  · rw [if_neg h10, List.nil_append] at hDl
    have hD0 : ¬ (D[0]'(by omega)).toNat = 32 := by
      have h := bytes_get D 0 (by omega)
      obtain ⟨q, r', e⟩ := dayT_head y m d
      rw [hDl, e] at h
      have h2 : dgt q = D[0]'(by omega) := Option.some.inj h
      rw [← h2, dgt_nat]
      omega
    have iD : (((D[0]'(by omega)).toNat : Int) == 32) = false := beq_no (by omega)
    have HPa := Lib.hid (fun w h => parseDay_any D w (by omega) h)
    have HPb := Lib.hid (fun w h => parseDay_any (⟨#[34]⟩ ++ D ++ ⟨#[34]⟩) w (by rw [ByteArray.size_append, ByteArray.size_append]; show 1 + D.size + 1 ≤ _; omega) h)
    have hq : (⟨#[34]⟩ ++ D ++ ⟨#[34]⟩ : ByteArray).data.toList = [34] ++ dayT y m d ++ [34] := by rw [cat_toList, cat_toList, hDl]
    rw [hDl, pb] at HPa
    rw [hq, pq] at HPb
    have t1 : (⟨#[34]⟩ ++ D : ByteArray).size ≤ 100 := by rw [ByteArray.size_append]; show 1 + D.size ≤ _; omega
    unfold numV' at HPa HPb
    clear hDl hD0 hq pb pq
    go_wp2_with fail
    with_reducible refine (HPa.out _ (HEn.out.below HB.out)).mono ?_
    rintro e w6 ⟨rfl, hb⟩
    replace HB := Lib.hid (HB.out.trans (hb.mono HB.out.size))
    clear hb
    go_wp2_with fail
    with_reducible refine (HPb.out _ (HEn.out.below HB.out)).mono ?_
    rintro e w7 ⟨rfl, hb⟩
    replace HB := Lib.hid (HB.out.trans (hb.mono HB.out.size))
    clear hb
    go_wp2_with fail
    go_ret
    exact ⟨rfl, HB.out⟩
end Go.Proofs.YtfndidcoahammaaDoor
