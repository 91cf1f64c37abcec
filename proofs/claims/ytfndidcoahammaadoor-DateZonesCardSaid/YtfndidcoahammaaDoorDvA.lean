/- Layer 11: the document's example, and what Internal tells, in general. -/
import Derived.Test.YtfndidcoahammaaDoorDvP
import Derived.Test.YtfndidcoahammaaDoorDtQ
import Derived.Test.YtfndidcoahammaaDoorDtP
import Derived.Test.YtfndidcoahammaaDoorDtU
namespace Go.Proofs.YtfndidcoahammaaDoor
open Go Go.RowKit

def inQ (sec zone : Int) : Prop := -1440 < zone ∧ zone < 1440 ∧ -1099511627776 ≤ sec ∧ sec ≤ 1099511627776
def secQ (sec zone : Int) : Nat := (sec + 60 * zone - 86400 * dayN sec zone).toNat
def IntQ (sec zone : Int) (l : List UInt8) : Prop :=
  (¬ inQ sec zone ∧ l = []) ∨ (inQ sec zone ∧ DayOf (dayN sec zone) none ∧ l = []) ∨
  (inQ sec zone ∧ ∃ y m d, DayOf (dayN sec zone) (some (y, m, d)) ∧ l = intT0 y m d (secQ sec zone) (zone.natAbs / 60) (zone.natAbs % 60) (if zone < 0 then 45 else 43))
/-- What is known of Internal. -/
def IntOk : Prop := ∀ (sec zone : Int) (w : World), -9223372036854775808 ≤ sec → sec ≤ 9223372036854775807 → -9223372036854775808 ≤ zone → zone ≤ 9223372036854775807 → envD w →
    Calls Tryd.prog 14 #[.agg #[.int .i64 sec, .int .i64 zone]] w fun e w' => (∃ l, e = .returned (.string ⟨l.toArray⟩) ∧ IntQ sec zone l) ∧ Below w.heap.size w w'
theorem sg_is (zone : Int) : (if zone < 0 then (45 : UInt8) else 43) = 43 ∨ (if zone < 0 then (45 : UInt8) else 43) = 45 := by
  split
  · exact .inr rfl
  · exact .inl rfl
theorem zoneMin_is (zone : Int) : zoneMin (zone.natAbs / 60) (zone.natAbs % 60) (if zone < 0 then 45 else 43) = zone := by
  unfold zoneMin
  by_cases h : zone < 0
  · rw [if_pos h, if_pos rfl]
    omega
  · rw [if_neg h, if_neg (by decide)]
    omega
/-- A moment whose day is known: its text is this. -/
theorem internal_at (HI : IntOk) {y m d : Nat} (sec zone : Int) (w : World) (hin : inQ sec zone) (hN : numberK y m d = some (dayN sec zone)) (hm : m < 12) (hE : envD w) :
    Calls Tryd.prog 14 #[.agg #[.int .i64 sec, .int .i64 zone]] w fun e w' => e = .returned (.string ⟨(intT0 y m d (secQ sec zone) (zone.natAbs / 60) (zone.natAbs % 60) (if zone < 0 then 45 else 43)).toArray⟩) ∧ Below w.heap.size w w' := by
  obtain ⟨a1, a2, a3, a4⟩ := hin
  refine (HI sec zone w (by omega) (by omega) (by omega) (by omega) hE).mono fun e w' ⟨⟨l, he, hl⟩, hb⟩ => ⟨?_, hb⟩
  rcases hl with ⟨h, _⟩ | ⟨_, h, _⟩ | ⟨_, y', m', d', h, rfl⟩
  · exact absurd ⟨a1, a2, a3, a4⟩ h
  · exfalso
    obtain ⟨k1, k2, k3, k4, k5⟩ := numberK_inv hN
    have h2 := ahead_succ y k1
    have h3 := ahead_le (x := y + 1) (y := 10000) (by omega) (by omega)
    have h4 : ahead 10000 = 3652059 := by decide
    have h5 := monSum_step y m
    have h6 := monSum_le' (y := y) (m := m + 1) (k := 12) (by omega)
    rw [monSum_12] at h6
    rcases h with h | h <;> omega
  · obtain ⟨rfl, rfl, rfl⟩ := numberK_inj hm h.2 hN h.1
    exact he
theorem dayN_b {sec zone : Int} (h : inQ sec zone) : -20000000 ≤ dayN sec zone ∧ dayN sec zone ≤ 20000000 := by
  obtain ⟨a1, a2, a3, a4⟩ := h
  unfold dayN
  omega
theorem secQ_lt (sec zone : Int) : secQ sec zone < 86400 ∧ (secQ sec zone : Int) = sec + 60 * zone - 86400 * dayN sec zone := by
  unfold secQ dayN
  omega
theorem numberK_small {y m d : Nat} {n : Int} (h : numberK y m d = some n) : y < 10000 ∧ d < 100 := by
  obtain ⟨k1, k2, k3, k4, k5⟩ := numberK_inv h
  have := daysM_le y m
  omega
/-- What a moment's text is read as. -/
theorem back_is {y m d : Nat} (sec zone : Int) (hin : inQ sec zone) (hN : numberK y m d = some (dayN sec zone)) (hm : m < 12) :
    intK (intT0 y m d (secQ sec zone) (zone.natAbs / 60) (zone.natAbs % 60) (if zone < 0 then 45 else 43)) = some (sec, zone) := by
  obtain ⟨a1, a2, a3, a4⟩ := hin
  obtain ⟨x1, x2⟩ := secQ_lt sec zone
  obtain ⟨y1, d1⟩ := numberK_small hN
  rw [intK_back y1 hm d1 x1 (sg_is zone) (by omega) (by omega), moment_is hN x1, zoneMin_is, x2]
  congr 2
  omega
theorem exParse : parseK [84, 104, 117, 44, 32, 49, 32, 74, 97, 110, 32, 49, 57, 55, 48, 32, 48, 49, 58, 48, 48, 58, 48, 48, 32, 43, 48, 49, 48, 48] = some (0, 60) := by kernel_rfl
theorem exInt : intK [34, 32, 49, 45, 74, 97, 110, 45, 49, 57, 55, 48, 32, 48, 49, 58, 48, 48, 58, 48, 48, 32, 43, 48, 49, 48, 48, 34] = some (0, 60) := by kernel_rfl
theorem exDay : parseDayK [50, 45, 106, 97, 110, 45, 49, 57, 55, 48] = some 1 := by kernel_rfl
theorem exNum : numberK 1970 0 1 = some (dayN 0 60) := by kernel_rfl
theorem exText : intT0 1970 0 1 (secQ 0 60) ((60 : Int).natAbs / 60) ((60 : Int).natAbs % 60) (if (60 : Int) < 0 then 45 else 43) = [34, 32, 49, 45, 74, 97, 110, 45, 49, 57, 55, 48, 32, 48, 49, 58, 48, 48, 58, 48, 48, 32, 43, 48, 49, 48, 48, 34] := by
  have e1 : secQ 0 60 = 3600 := by decide
  rw [e1]
  obtain ⟨d1, d2, hd, hL⟩ := intT_is (y := 1970) (m := 0) (d := 1) (x := 3600) (zh := (60 : Int).natAbs / 60) (zm := (60 : Int).natAbs % 60) (sg := if (60 : Int) < 0 then 45 else 43) (a := 74) (b := 97) (c := 110) (by omega) (by omega) (by omega) (by decide) (by decide) rfl
  rw [hL]
  have hd' : day2 1 = [32, 49] := by decide
  rw [hd'] at hd
  simp only [List.cons.injEq, and_true] at hd
  obtain ⟨rfl, rfl⟩ := hd
  decide

set_option maxRecDepth 100000 in
set_option maxHeartbeats 4000000 in
theorem awake_any (HI : IntOk) (w : World) (hE : envD w) :
    Calls Tryd.prog 7 #[] w fun e w' => e = .returned (.bool true) ∧ Below w.heap.size w w' := by
  obtain ⟨A1, hA1⟩ : ∃ A : ByteArray, A = ⟨#[84, 104, 117, 44, 32, 49, 32, 74, 97, 110, 32, 49, 57, 55, 48, 32, 48, 49, 58, 48, 48, 58, 48, 48, 32, 43, 48, 49, 48, 48]⟩ := ⟨_, rfl⟩
  have HEn := Lib.hid hE
  have HP1 := Lib.hid (fun w h => parse_any ⟨#[84, 104, 117, 44, 32, 49, 32, 74, 97, 110, 32, 49, 57, 55, 48, 32, 48, 49, 58, 48, 48, 58, 48, 48, 32, 43, 48, 49, 48, 48]⟩ w (by decide) h)
  have HP2 := Lib.hid (fun w h => parseInternal_any ⟨#[34, 32, 49, 45, 74, 97, 110, 45, 49, 57, 55, 48, 32, 48, 49, 58, 48, 48, 58, 48, 48, 32, 43, 48, 49, 48, 48, 34]⟩ w (by decide) h)
  have HP3 := Lib.hid (fun w h => parseDay_any ⟨#[50, 45, 106, 97, 110, 45, 49, 57, 55, 48]⟩ w (by decide) h)
  have HIn := Lib.hid (fun w h => internal_at HI 0 60 w ⟨by omega, by omega, by omega, by omega⟩ exNum (by omega) h)
  have HDy := Lib.hid (fun w => day_any 0 60 (by omega) (by omega) (by omega) (by omega) w)
  have e1 : (⟨#[84, 104, 117, 44, 32, 49, 32, 74, 97, 110, 32, 49, 57, 55, 48, 32, 48, 49, 58, 48, 48, 58, 48, 48, 32, 43, 48, 49, 48, 48]⟩ : ByteArray).data.toList = [84, 104, 117, 44, 32, 49, 32, 74, 97, 110, 32, 49, 57, 55, 48, 32, 48, 49, 58, 48, 48, 58, 48, 48, 32, 43, 48, 49, 48, 48] := rfl
  have e2 : (⟨#[34, 32, 49, 45, 74, 97, 110, 45, 49, 57, 55, 48, 32, 48, 49, 58, 48, 48, 58, 48, 48, 32, 43, 48, 49, 48, 48, 34]⟩ : ByteArray).data.toList = [34, 32, 49, 45, 74, 97, 110, 45, 49, 57, 55, 48, 32, 48, 49, 58, 48, 48, 58, 48, 48, 32, 43, 48, 49, 48, 48, 34] := rfl
  have e3 : (⟨#[50, 45, 106, 97, 110, 45, 49, 57, 55, 48]⟩ : ByteArray).data.toList = [50, 45, 106, 97, 110, 45, 49, 57, 55, 48] := rfl
  rw [e1, exParse] at HP1
  rw [e2, exInt] at HP2
  rw [e3, exDay] at HP3
  rw [exText] at HIn
  have e4 : dayN 0 60 = 0 := by decide
  rw [e4] at HDy
  unfold momV at HP1 HP2
  unfold numV' at HP3
  clear e1 e2 e3 e4 hA1 hE HI
  go_enter Tryd.func7, Tryd.ntmps7
  go_wp2_with fail
  with_reducible refine (HP1.out _ HEn.out).mono ?_
  rintro e w1 ⟨rfl, hb1⟩
  obtain ⟨X1, hX1⟩ : ∃ X, X = w1.alloc (.cells #[.int .i64 0, .int .i64 60] 24) := ⟨_, rfl⟩
  obtain ⟨g0, g1⟩ : X1.cell? ⟨w1.heap.size, 0, none⟩ = some (.int .i64 0) ∧ X1.cell? ⟨w1.heap.size, 1, none⟩ = some (.int .i64 60) := by rw [hX1]; exact cells2 w1 _ _ _
  have HB := Lib.hid (show Below w.heap.size w X1 by rw [hX1]; exact hb1.alloc hb1.size _)
  have hl1 : w1.heap.size < X1.heap.size := by rw [hX1]; simp
  obtain ⟨B1, hB1⟩ : ∃ B, B = w1.heap.size := ⟨_, rfl⟩
  rw [← hB1] at g0 g1 hl1
  clear hb1
  go_wp2_with fail
  rw [← hX1, ← hB1]
  clear hX1 hB1
  with_reducible refine (HP2.out _ (HEn.out.below HB.out)).mono ?_
  rintro e w2 ⟨rfl, hb2⟩
  obtain ⟨X2, hX2⟩ : ∃ X, X = w2.alloc (.cells #[.int .i64 0, .int .i64 60] 24) := ⟨_, rfl⟩
  have hbx : Below X1.heap.size X1 X2 := by rw [hX2]; exact hb2.alloc hb2.size _
  have g2 : X2.cell? ⟨B1, 0, none⟩ = some (.int .i64 0) := (hbx.cell (p := ⟨B1, 0, none⟩) hl1).trans g0
  have g3 : X2.cell? ⟨B1, 1, none⟩ = some (.int .i64 60) := (hbx.cell (p := ⟨B1, 1, none⟩) hl1).trans g1
  obtain ⟨g4, g5⟩ : X2.cell? ⟨w2.heap.size, 0, none⟩ = some (.int .i64 0) ∧ X2.cell? ⟨w2.heap.size, 1, none⟩ = some (.int .i64 60) := by rw [hX2]; exact cells2 w2 _ _ _
  have hl2 : w2.heap.size < X2.heap.size := by rw [hX2]; simp
  have hl3 : B1 < X2.heap.size := Nat.lt_of_lt_of_le hl1 hbx.size
  replace HB := Lib.hid (HB.out.trans (hbx.mono HB.out.size))
  obtain ⟨B2, hB2⟩ : ∃ B, B = w2.heap.size := ⟨_, rfl⟩
  rw [← hB2] at g4 g5 hl2
  clear hb2 hbx g0 g1 hl1
  go_wp2_with fail
  rw [← hX2, ← hB2]
  clear hX2 hB2
  with_reducible refine (HP3.out _ (HEn.out.below HB.out)).mono ?_
  rintro e w3 ⟨rfl, hb3⟩
  have h2 : w3.cell? ⟨B1, 0, none⟩ = some (.int .i64 0) := (hb3.cell (p := ⟨B1, 0, none⟩) hl3).trans g2
  have h3 : w3.cell? ⟨B1, 1, none⟩ = some (.int .i64 60) := (hb3.cell (p := ⟨B1, 1, none⟩) hl3).trans g3
  have h4 : w3.cell? ⟨B2, 0, none⟩ = some (.int .i64 0) := (hb3.cell (p := ⟨B2, 0, none⟩) hl2).trans g4
  have h5 : w3.cell? ⟨B2, 1, none⟩ = some (.int .i64 60) := (hb3.cell (p := ⟨B2, 1, none⟩) hl2).trans g5
  have hl4 : B1 < w3.heap.size := Nat.lt_of_lt_of_le hl3 hb3.size
  have hl5 : B2 < w3.heap.size := Nat.lt_of_lt_of_le hl2 hb3.size
  replace HB := Lib.hid (HB.out.trans (hb3.mono HB.out.size))
  clear hb3 g2 g3 g4 g5 hl2 hl3
  go_wp2_with fail
  with_reducible refine (HIn.out _ (HEn.out.below HB.out)).mono ?_
  rintro e w4 ⟨rfl, hb4⟩
  have j2 : w4.cell? ⟨B1, 0, none⟩ = some (.int .i64 0) := (hb4.cell (p := ⟨B1, 0, none⟩) hl4).trans h2
  have j3 : w4.cell? ⟨B1, 1, none⟩ = some (.int .i64 60) := (hb4.cell (p := ⟨B1, 1, none⟩) hl4).trans h3
  have hl6 : B1 < w4.heap.size := Nat.lt_of_lt_of_le hl4 hb4.size
  replace HB := Lib.hid (HB.out.trans (hb4.mono HB.out.size))
  clear hb4 h2 h3 h4 h5 hl4 hl5
  go_wp2_with fail
  with_reducible refine (HDy.out _).mono ?_
  rintro e w5 ⟨rfl, hb5⟩
  go_wp2_with fail
  go_ret
  exact ⟨rfl, HB.out.trans (hb5.mono HB.out.size)⟩
end Go.Proofs.YtfndidcoahammaaDoor
