/- The document's functions of layer 11: Internal. -/
import Derived.Test.YtfndidcoahammaaDoorDrA
import Derived.Test.YtfndidcoahammaaDoorDvA
import Derived.Deep.CutBlock
namespace Go.Proofs.YtfndidcoahammaaDoor
open Go Go.RowKit

def twoB (n : Nat) : ByteArray := ⟨#[dgt (n / 10), dgt n]⟩
theorem twoB_size (n : Nat) : (twoB n).size = 2 := rfl
theorem twoB_list (n : Nat) : (twoB n).data.toList = [dgt (n / 10), dgt n] := rfl
theorem refTwo_is (n : Nat) (hn : n < 100) (w : World) :
    Calls Tryd.prog 47 #[.int .i64 (n : Int)] w fun e w' => e = .returned (.string (twoB n)) ∧ Below w.heap.size w w' := refTwo_any n hn w
theorem ahead_1970 : ahead 1970 = 719162 := by decide
theorem ahead_10000 : ahead 10000 = 3652059 := by decide
theorem yearLen_b (y : Nat) : 365 ≤ yearLen y ∧ yearLen y ≤ 366 := by unfold yearLen; split <;> omega
theorem numberK_of {y m k r : Nat} {N : Int} (h1 : 1 ≤ y) (h2 : y ≤ 9999) (hr : N + 719162 = (ahead y : Int) + (r : Int)) (hk : r = monSum y m + k) (hd : k < daysM y m) : numberK y m (k + 1) = some N := by
  unfold numberK
  rw [if_neg (by omega)]
  congr 1
  omega
theorem refText_is {y m d x zh zm : Nat} {sg : UInt8} {D2 : ByteArray} (hy : y < 10000) (hm : m < 12) (hd : d < 100) (hx : x < 86400) (hzh : zh < 100) (hzm : zm < 100) (hD : D2.data.toList = day2 d) :
    (⟨#[34]⟩ ++ D2 ++ ⟨#[45]⟩ ++ monN m ++ ⟨#[45]⟩ ++ twoB (y / 100) ++ twoB (y % 100) ++ ⟨#[32]⟩ ++ twoB (x / 3600) ++ ⟨#[58]⟩ ++ twoB (x / 60 % 60) ++ ⟨#[58]⟩ ++ twoB (x % 60) ++ ⟨#[32]⟩ ++ ⟨#[sg]⟩ ++ twoB zh ++ twoB zm ++ ⟨#[34]⟩ : ByteArray) = ⟨(intT0 y m d x zh zm sg).toArray⟩ := by
  apply bytes_eq
  obtain ⟨a, b, c, hmn, _, _⟩ := mon_cons m hm
  obtain ⟨d1, d2, hd2, hL⟩ := intT_is (sg := sg) hy hd hx hzh hzm hmn
  have e1 : dgt (y % 100 / 10) = dgt (y / 10) := by unfold dgt; rw [show y % 100 / 10 % 10 = y / 10 % 10 by omega]
  have e2 : dgt (y % 100) = dgt y := by unfold dgt; rw [show y % 100 % 10 = y % 10 by omega]
  have e3 : y / 100 / 10 = y / 1000 := by omega
  have e4 : x / 60 % 60 = x % 3600 / 60 := by omega
  rw [hL]
  simp only [cat_toList, hD, hd2, hmn, twoB_list, e1, e2, e3, e4]
  rfl
theorem dayN_here {sec zone h : Int} (hh : sec + 60 * zone = h) : dayN sec zone = h / 86400 := by unfold dayN; rw [hh]

set_option maxRecDepth 100000 in
set_option maxHeartbeats 8000000 in
theorem refInternal_any (sec zone : Int) (w : World) (h0 : -1125899906842624 ≤ sec) (h1 : sec ≤ 1125899906842624) (h2 : -1073741824 ≤ zone) (h3 : zone ≤ 1073741824) :
    Calls Tryd.prog 15 #[.agg #[.int .i64 sec, .int .i64 zone]] w fun e w' => (∃ l, e = .returned (.string ⟨l.toArray⟩) ∧ IntQ sec zone l) ∧ Below w.heap.size w w' := by
  have HYr := Lib.hid (fun y (hy : y ≤ 100000) w => refYear_any y hy w)
  have HTw := Lib.hid (fun n (hn : n < 100) w => refTwo_is n hn w)
  obtain ⟨X1, hX1⟩ : ∃ X, X = w.alloc (.cells #[.int .i64 sec, .int .i64 zone] 27) := ⟨_, rfl⟩
  obtain ⟨c0, c1⟩ : X1.cell? ⟨w.heap.size, 0, none⟩ = some (.int .i64 sec) ∧ X1.cell? ⟨w.heap.size, 1, none⟩ = some (.int .i64 zone) := by rw [hX1]; exact cells2 w _ _ _
  have HB1 : Hid (Below w.heap.size w X1) := by rw [hX1]; exact (Below.refl _ _).alloc (Nat.le_refl _) _
  have hs1 : w.heap.size < X1.heap.size := by rw [hX1]; simp

  by_cases z1 : zone ≤ -1440
  · have i0 : decide (zone ≤ -1440) = true := decide_eq_true z1
    have HR : Hid (IntQ sec zone []) := .inl ⟨fun h => by obtain ⟨g1, g2, g3, g4⟩ := h; omega, rfl⟩
    go_enter Tryd.func15, Tryd.ntmps15
    go_wp2_with fail
    try rw [← hX1]
    try go_wp2_with fail
    go_ret
    exact ⟨⟨[], rfl, HR.out⟩, by first | exact HB1.out | (rw [← hX1]; exact HB1.out)⟩
  · have i0 : decide (zone ≤ -1440) = false := decide_eq_false z1
    by_cases z2 : 1440 ≤ zone
    · have i1 : decide (1440 ≤ zone) = true := decide_eq_true z2
      have HR : Hid (IntQ sec zone []) := .inl ⟨fun h => by obtain ⟨g1, g2, g3, g4⟩ := h; omega, rfl⟩
      go_enter Tryd.func15, Tryd.ntmps15
      go_wp2_with fail
      try rw [← hX1]
      try go_wp2_with fail
      go_ret
      exact ⟨⟨[], rfl, HR.out⟩, by first | exact HB1.out | (rw [← hX1]; exact HB1.out)⟩
    · have i1 : decide (1440 ≤ zone) = false := decide_eq_false z2
      by_cases s2 : 1099511627776 < sec
      · have i2 : decide (1099511627776 < sec) = true := decide_eq_true s2
        have HR : Hid (IntQ sec zone []) := .inl ⟨fun h => by obtain ⟨g1, g2, g3, g4⟩ := h; omega, rfl⟩
        go_enter Tryd.func15, Tryd.ntmps15
        go_wp2_with fail
        try rw [← hX1]
        try go_wp2_with fail
        go_ret
        exact ⟨⟨[], rfl, HR.out⟩, by first | exact HB1.out | (rw [← hX1]; exact HB1.out)⟩
      · have i2 : decide (1099511627776 < sec) = false := decide_eq_false s2
        by_cases s1 : sec < -1099511627776
        · have i3 : decide (sec < -1099511627776) = true := decide_eq_true s1
          have HR : Hid (IntQ sec zone []) := .inl ⟨fun h => by obtain ⟨g1, g2, g3, g4⟩ := h; omega, rfl⟩
          go_enter Tryd.func15, Tryd.ntmps15
          go_wp2_with fail
          try rw [← hX1]
          try go_wp2_with fail
          go_ret
          exact ⟨⟨[], rfl, HR.out⟩, by first | exact HB1.out | (rw [← hX1]; exact HB1.out)⟩
        · have i3 : decide (sec < -1099511627776) = false := decide_eq_false s1
          have HIn : Hid (inQ sec zone) := ⟨by omega, by omega, by omega, by omega⟩
          obtain ⟨N, hN⟩ : ∃ N, N = dayN sec zone := ⟨_, rfl⟩
          obtain ⟨x, hx⟩ : ∃ x, x = secQ sec zone := ⟨_, rfl⟩
          obtain ⟨x86, xs⟩ := secQ_lt sec zone
          rw [← hx, ← hN] at xs
          rw [← hx] at x86
          obtain ⟨hN0, hN1⟩ := dayN_b HIn.out
          rw [← hN] at hN0 hN1
          have HN := Lib.hid hN
          have HX := Lib.hid hx
          clear hN hx
          obtain ⟨h, hh⟩ : ∃ h, sec + 60 * zone = h := ⟨_, rfl⟩
          have hhx : h = 86400 * N + (x : Int) := by omega
          obtain ⟨lh0, lh1⟩ : -2000000000000000 ≤ h ∧ h ≤ 2000000000000000 := by omega
          obtain ⟨r, hr⟩ : ∃ r, h.tmod 86400 = r := ⟨_, rfl⟩
          have hqr := Int.mul_tdiv_add_tmod h 86400
          rw [hr] at hqr
          have hr1 : r < 86400 := by rw [← hr]; exact Int.tmod_lt_of_pos h (by omega)
          have hr2 : -86400 < r := by rw [← hr]; exact Int.lt_tmod_of_pos h (by omega)
          have hxr : (x : Int) = if r < 0 then r + 86400 else r := by split <;> omega
          have hdq : (h - (x : Int)).tdiv 86400 = N := by rw [show h - (x : Int) = 86400 * N by omega]; exact Int.mul_tdiv_cancel_left N (by omega)
          have HXR := Lib.hid hxr
          obtain ⟨Z, hZ⟩ : ∃ Z, Z = zone.natAbs := ⟨_, rfl⟩
          obtain ⟨sg, hsg⟩ : ∃ sg : UInt8, sg = (if zone < 0 then 45 else 43) := ⟨_, rfl⟩
          have hZl : Z < 1440 := by omega
          have HZ := Lib.hid hZ
          have HSg := Lib.hid hsg
          have hz3 : -1440 < zone := by omega
          have hz4 : zone < 1440 := by omega
          clear hZ hsg hqr xs hxr hhx h0 h1 h2 h3 z1 z2 s1 s2
          go_enter Tryd.func15, Tryd.ntmps15
          go_upto_region 1 with fail
          rw [← hX1]
          clear hX1
          go_upto_if 39 with fail
          go_cut [4] (fun x4 wx => x4 = .int .i64 (x : Int) ∧ X1 = wx)
          case first =>
            by_cases hr0 : r < 0
            · have ir : decide (r < 0) = true := decide_eq_true hr0
              have hxx : r + 86400 = (x : Int) := by have := HXR.out; rw [if_pos hr0] at this; omega
              clear hdq
              go_wp2_with fail
              go_meet
              exact ⟨by first | rfl | (rw [hxx]), rfl⟩
            · have ir : decide (r < 0) = false := decide_eq_false hr0
              have hxx : r = (x : Int) := by have := HXR.out; rw [if_neg hr0] at this; omega
              have HXX := Lib.hid hxx
              clear hdq hxx
              go_wp2_with fail
              go_meet
              exact ⟨by rw [← HXX.out], rfl⟩
          case rest =>
            obtain ⟨rfl, rfl⟩ := hcut
            obtain ⟨A, hA⟩ : ∃ A, A = N + 719162 := ⟨_, rfl⟩
            have HA := Lib.hid hA
            have hA0 : -20000000 ≤ A ∧ A ≤ 21000000 := by omega
            clear hA hr hr1 hr2
            go_upto_block 0 with fail
            go_cut [5, 6] (fun x5 x6 wx => (∃ (n : Int) (y : Nat), x5 = .int .i64 n ∧ x6 = .int .i64 (y : Int) ∧ -40000000 ≤ n ∧ n ≤ 40000000 ∧ Hid ((y = 0 ∧ n < 366 ∧ A < 0) ∨ (1 ≤ y ∧ y ≤ 1970 ∧ 0 ≤ n ∧ A = (ahead y : Int) + n))) ∧ X1 = wx)
            case first =>
              go_wp2_with fail
              go_loopg [5, 6] 1970 (fun q x5 x6 wr => ∃ (n : Int) (y : Nat), y ≤ 1970 ∧ q = y ∧ x5 = .int .i64 n ∧ x6 = .int .i64 (y : Int) ∧ -40000000 ≤ n ∧ n ≤ 40000000 ∧ Hid ((y = 0 ∧ n < 366 ∧ A < 0) ∨ (1 ≤ y ∧ A = (ahead y : Int) + n)) ∧ X1 = wr)
              case atStart => exact ⟨N, 1970, Nat.le_refl _, rfl, rfl, rfl, by omega, by omega, .inr ⟨by omega, by rw [ahead_1970, HA.out]; omega⟩, rfl⟩
              case round =>
                obtain ⟨n, y, hy, hgk, rfl, rfl, hn0, hn1, hK, rfl⟩ := hrel
                obtain rfl : y = gk := hgk.symm
                by_cases hn : n < 0
                · have i5 : decide (n < 0) = true := decide_eq_true hn
                  by_cases hy1 : 1 ≤ y
                  · have i6 : decide (1 ≤ (y : Int)) = true := decide_eq_true (by omega)
                    obtain ⟨z, hz⟩ : ∃ z, y = z + 1 := ⟨y - 1, by omega⟩
                    have hzi : (y : Int) - 1 = (z : Int) := by omega
                    have HZy := Lib.hid hz
                    have hzl : z ≤ 1970 := by omega
                    obtain ⟨L, hL⟩ : ∃ L, L = yearLen z := ⟨_, rfl⟩
                    have hLb := yearLen_b z
                    rw [← hL] at hLb
                    have HC := Lib.hid (fun w => HYr.out z (by omega) w)
                    rw [← hL] at HC
                    have HL := Lib.hid hL
                    obtain ⟨hL0, hL1⟩ := hLb
                    clear hz hL
                    go_wp2_with fail
                    with_reducible refine (HC.out _).mono ?_
                    rintro e w1 ⟨rfl, rfl⟩
                    go_wp2_with fail
                    go_roundg z
                    case measure => have := HZy.out; omega
                    case rel =>
                      refine ⟨n + (L : Int), z, hzl, rfl, rfl, rfl, by omega, by omega, ?_, rfl⟩
                      have hyz := HZy.out
                      rcases hK.out with ⟨g1, g2, g3⟩ | ⟨g1, g2⟩
                      · omega
                      · by_cases hz0 : z = 0
                        · subst hz0
                          rw [hyz, show 0 + 1 = 1 from rfl, ahead_one] at g2
                          exact .inl ⟨rfl, by omega, by omega⟩
                        · rw [hyz, ahead_succ z (by omega), ← HL.out] at g2
                          exact .inr ⟨by omega, by omega⟩
                  · have i6 : decide (1 ≤ (y : Int)) = false := decide_eq_false (by omega)
                    have HK2 : Hid ((y = 0 ∧ n < 366 ∧ A < 0) ∨ (1 ≤ y ∧ y ≤ 1970 ∧ 0 ≤ n ∧ A = (ahead y : Int) + n)) := by
                      rcases hK.out with g | ⟨g1, g2⟩
                      · exact .inl g
                      · omega
                    go_wp2_with fail
                    go_meet
                    exact ⟨⟨n, y, rfl, rfl, hn0, hn1, HK2⟩, rfl⟩
                · have i5 : decide (n < 0) = false := decide_eq_false hn
                  have HK2 : Hid ((y = 0 ∧ n < 366 ∧ A < 0) ∨ (1 ≤ y ∧ y ≤ 1970 ∧ 0 ≤ n ∧ A = (ahead y : Int) + n)) := by
                    rcases hK.out with g | ⟨g1, g2⟩
                    · exact .inl g
                    · exact .inr ⟨g1, hy, by omega, g2⟩
                  go_wp2_with fail
                  go_meet
                  exact ⟨⟨n, y, rfl, rfl, hn0, hn1, HK2⟩, rfl⟩
            case rest =>
              obtain ⟨⟨n, y, rfl, rfl, hn0, hn1, HK⟩, rfl⟩ := hcut
              go_upto_block 2 with fail
              go_cut [5, 6] (fun x5 x6 wx => (∃ (n : Int) (y : Nat), x5 = .int .i64 n ∧ x6 = .int .i64 (y : Int) ∧ -40000000 ≤ n ∧ n ≤ 40000000 ∧ y ≤ 10000 ∧ Hid ((y = 0 ∧ A < 0) ∨ (y = 10000 ∧ 3652059 ≤ A) ∨ (1 ≤ y ∧ y ≤ 9999 ∧ 0 ≤ n ∧ n < (yearLen y : Int) ∧ A = (ahead y : Int) + n))) ∧ X1 = wx)
              case first =>
                go_wp2_with fail
                go_loopg [5, 6] (10000 - y) (fun q x5 x6 wr => ∃ (n : Int) (y : Nat), y ≤ 10000 ∧ q = 10000 - y ∧ x5 = .int .i64 n ∧ x6 = .int .i64 (y : Int) ∧ -40000000 ≤ n ∧ n ≤ 40000000 ∧ Hid ((y = 0 ∧ n < 366 ∧ A < 0) ∨ (1 ≤ y ∧ 0 ≤ n ∧ A = (ahead y : Int) + n)) ∧ X1 = wr)
                case atStart =>
                  refine ⟨n, y, ?_, rfl, rfl, rfl, hn0, hn1, ?_, rfl⟩
                  · rcases HK.out with g | g <;> omega
                  · rcases HK.out with g | ⟨g1, g2, g3, g4⟩
                    · exact .inl g
                    · exact .inr ⟨g1, g3, g4⟩
                case round =>
                  clear HK hn0 hn1
                  obtain ⟨n, y, hy, rfl, rfl, rfl, hn0, hn1, hK, rfl⟩ := hrel
                  by_cases hy9 : y ≤ 9999
                  · have i5 : decide ((y : Int) ≤ 9999) = true := decide_eq_true (by omega)
                    obtain ⟨L, hL⟩ : ∃ L, L = yearLen y := ⟨_, rfl⟩
                    have hLb := yearLen_b y
                    rw [← hL] at hLb
                    have HC := Lib.hid (fun w => HYr.out y (by omega) w)
                    rw [← hL] at HC
                    have HL := Lib.hid hL
                    obtain ⟨hL0, hL1⟩ := hLb
                    have HE : Hid (y = 0 → yearLen y = 366) := fun h => by subst h; rfl
                    clear hL
                    by_cases hnL : (L : Int) ≤ n
                    · have i6 : decide ((L : Int) ≤ n) = true := decide_eq_true hnL
                      go_wp2_with fail
                      with_reducible refine (HC.out _).mono ?_
                      rintro e w1 ⟨rfl, rfl⟩
                      go_wp2_with fail
                      with_reducible refine (HC.out _).mono ?_
                      rintro e w1 ⟨rfl, rfl⟩
                      go_wp2_with fail
                      go_roundg (10000 - (y + 1))
                      case measure => omega
                      case rel =>
                        refine ⟨n - (L : Int), y + 1, by omega, rfl, rfl, by go_num, by omega, by omega, ?_, rfl⟩
                        rcases hK.out with ⟨g1, g2, g3⟩ | ⟨g1, g2, g3⟩
                        · have := HE.out g1
                          rw [← HL.out] at this
                          omega
                        · refine .inr ⟨by omega, by omega, ?_⟩
                          rw [ahead_succ y g1, ← HL.out]
                          omega
                    · have i6 : decide ((L : Int) ≤ n) = false := decide_eq_false hnL
                      have HK2 : Hid ((y = 0 ∧ A < 0) ∨ (y = 10000 ∧ 3652059 ≤ A) ∨ (1 ≤ y ∧ y ≤ 9999 ∧ 0 ≤ n ∧ n < (yearLen y : Int) ∧ A = (ahead y : Int) + n)) := by
                        rcases hK.out with ⟨g1, g2, g3⟩ | ⟨g1, g2, g3⟩
                        · exact .inl ⟨g1, g3⟩
                        · exact .inr (.inr ⟨g1, hy9, g2, by rw [← HL.out]; omega, g3⟩)
                      go_wp2_with fail
                      with_reducible refine (HC.out _).mono ?_
                      rintro e w1 ⟨rfl, rfl⟩
                      go_wp2_with fail
                      go_meet
                      exact ⟨⟨n, y, rfl, rfl, hn0, hn1, hy, HK2⟩, rfl⟩
                  · have i5 : decide ((y : Int) ≤ 9999) = false := decide_eq_false (by omega)
                    have HK2 : Hid ((y = 0 ∧ A < 0) ∨ (y = 10000 ∧ 3652059 ≤ A) ∨ (1 ≤ y ∧ y ≤ 9999 ∧ 0 ≤ n ∧ n < (yearLen y : Int) ∧ A = (ahead y : Int) + n)) := by
                      rcases hK.out with ⟨g1, g2, g3⟩ | ⟨g1, g2, g3⟩
                      · omega
                      · obtain rfl : y = 10000 := by omega
                        rw [ahead_10000] at g3
                        exact .inr (.inl ⟨rfl, by omega⟩)
                    go_wp2_with fail
                    go_meet
                    exact ⟨⟨n, y, rfl, rfl, hn0, hn1, hy, HK2⟩, rfl⟩
              case rest =>
                clear HK hn0 hn1
                obtain ⟨⟨n, y, rfl, rfl, hn0, hn1, hy, HK⟩, rfl⟩ := hcut
                by_cases hy0 : y < 1
                · have j0 : decide ((y : Int) < 1) = true := decide_eq_true (by omega)
                  have HR : Hid (IntQ sec zone []) := by
                    refine .inr (.inl ⟨HIn.out, ?_, rfl⟩)
                    rw [← HN.out]
                    have := HA.out
                    rcases HK.out with g | g | g
                    · exact .inl (by omega)
                    · omega
                    · omega
                  go_wp2_with fail
                  go_ret
                  exact ⟨⟨[], rfl, HR.out⟩, HB1.out⟩
                · have j0 : decide ((y : Int) < 1) = false := decide_eq_false (by omega)
                  by_cases hy9 : 9999 < y
                  · have j1 : decide (9999 < (y : Int)) = true := decide_eq_true (by omega)
                    have HR : Hid (IntQ sec zone []) := by
                      refine .inr (.inl ⟨HIn.out, ?_, rfl⟩)
                      rw [← HN.out]
                      have := HA.out
                      rcases HK.out with g | g | g
                      · omega
                      · exact .inr (by omega)
                      · omega
                    go_wp2_with fail
                    go_ret
                    exact ⟨⟨[], rfl, HR.out⟩, HB1.out⟩
                  · have j1 : decide (9999 < (y : Int)) = false := decide_eq_false (by omega)
                    obtain ⟨hn2, hnl, hAy⟩ : 0 ≤ n ∧ n < (yearLen y : Int) ∧ A = (ahead y : Int) + n := by
                      rcases HK.out with g | g | g
                      · omega
                      · omega
                      · exact g.2.2
                    have j2 : decide (n < 0) = false := decide_eq_false (by omega)
                    obtain ⟨r, rfl⟩ : ∃ r : Nat, n = (r : Int) := ⟨n.toNat, by omega⟩
                    have hr66 : r < 366 := by have := yearLen_b y; omega
                    have HRL : Hid (r < yearLen y) := by unfold Hid; omega
                    have HAy : Hid (A = (ahead y : Int) + (r : Int)) := hAy
                    have HDs := Lib.hid (fun m M (hm : m < 12) (hM : M = m + 1) w => refDays_any y m M (by omega) hm hM w)
                    have hy1 : 1 ≤ y := by omega
                    clear hAy hnl hn2 hn0 hn1 HK
                    go_upto_block 4 with fail
                    go_cut [5, 7] (fun x5 x7 wx => (∃ (k m M : Nat), x5 = .int .i64 (k : Int) ∧ x7 = .int .i64 (M : Int) ∧ k ≤ 31 ∧ m < 12 ∧ Hid (M = m + 1) ∧ Hid (numberK y m (k + 1) = some N)) ∧ X1 = wx)
                    case first =>
                      go_wp2_with fail
                      go_loopg [5, 7] 12 (fun q x5 x7 wr => ∃ (k m M : Nat), m < 12 ∧ q = 12 - m ∧ k ≤ 366 ∧ M ≤ 12 ∧ x5 = .int .i64 (k : Int) ∧ x7 = .int .i64 (M : Int) ∧ Hid (M = m + 1) ∧ Hid (r = monSum y m + k) ∧ X1 = wr)
                      case atStart => exact ⟨r, 0, 1, by omega, by omega, by omega, by omega, rfl, rfl, rfl, by unfold Hid monSum; omega, rfl⟩
                      case round =>
                        obtain ⟨k, m, M, hm, rfl, hk, hM12, rfl, rfl, HM, HK, rfl⟩ := hrel
                        obtain ⟨D, hD⟩ : ∃ D, D = daysM y m := ⟨_, rfl⟩
                        have hD31 := daysM_le y m
                        have HC := Lib.hid (fun w => HDs.out m M hm HM.out w)
                        rw [← hD] at HC hD31
                        have HD := Lib.hid hD
                        clear hD
                        by_cases hDk : D ≤ k
                        · have i5 : decide ((D : Int) ≤ (k : Int)) = true := decide_eq_true (by omega)
                          obtain ⟨k2, hk2⟩ : ∃ k2, k = D + k2 := ⟨k - D, by omega⟩
                          have hki : (k : Int) - (D : Int) = (k2 : Int) := by omega
                          have HK2 := Lib.hid hk2
                          have hk26 : k2 ≤ 366 := by omega
                          have hm11 : m + 1 < 12 := by
                            have e1 := HK.out
                            have e2 := HRL.out
                            have e3 := HD.out
                            have e4 := monSum_step y m
                            have e5 := monSum_12 y
                            rcases Nat.lt_or_ge (m + 1) 12 with g | g
                            · exact g
                            · obtain rfl : m = 11 := by omega
                              have e6 : monSum y 12 = monSum y 11 + daysM y 11 := rfl
                              omega
                          clear hk2
                          go_wp2_with fail
                          with_reducible refine (HC.out _).mono ?_
                          rintro e w1 ⟨rfl, rfl⟩
                          go_wp2_with fail
                          with_reducible refine (HC.out _).mono ?_
                          rintro e w1 ⟨rfl, rfl⟩
                          go_wp2_with fail
                          go_roundg (12 - (m + 1))
                          case measure => omega
                          case rel =>
                            refine ⟨k2, m + 1, M + 1, hm11, rfl, hk26, by have := HM.out; omega, rfl, by go_num, by unfold Hid; rw [HM.out], ?_, rfl⟩
                            unfold Hid
                            have e1 := HK.out
                            have e2 := HK2.out
                            have e3 := HD.out
                            rw [monSum_step]
                            omega
                        · have i5 : decide ((D : Int) ≤ (k : Int)) = false := decide_eq_false (by omega)
                          have HNu : Hid (numberK y m (k + 1) = some N) := numberK_of (by omega) (by omega) (by have := HA.out; have := HAy.out; omega) HK.out (by rw [← HD.out]; omega)
                          go_wp2_with fail
                          with_reducible refine (HC.out _).mono ?_
                          rintro e w1 ⟨rfl, rfl⟩
                          go_wp2_with fail
                          go_meet
                          exact ⟨⟨k, m, M, rfl, rfl, by omega, hm, HM, HNu⟩, rfl⟩
                    case rest =>
                      obtain ⟨⟨k, m, M, rfl, rfl, hk31, hm12, HM, HNu⟩, rfl⟩ := hcut
                      obtain ⟨d, hd⟩ : ∃ d, d = k + 1 := ⟨_, rfl⟩
                      have hdi : (k : Int) + 1 = (d : Int) := by omega
                      have hd100 : d < 100 := by omega
                      have HDk := Lib.hid hd
                      clear hd
                      have HT0 := Lib.hid (fun w => HTw.out d hd100 w)
                      have HNm := Lib.hid (fun w => refName_any m M hm12 HM.out w)
                      obtain ⟨D, hD⟩ : ∃ D, D = twoB d := ⟨_, rfl⟩
                      rw [← hD] at HT0
                      have hDs : D.size = 2 := by rw [hD]; rfl
                      have HD := Lib.hid hD
                      clear hD
                      go_wp2_with fail
                      with_reducible refine (HT0.out _).mono ?_
                      rintro e w2 ⟨rfl, hb⟩
                      have HB2 := Lib.hid (HB1.out.trans (hb.mono HB1.out.size))
                      have d1 : w2.cell? ⟨w.heap.size, 1, none⟩ = some (.int .i64 zone) := (hb.cell (p := ⟨w.heap.size, 1, none⟩) hs1).trans c1
                      clear hb
                      obtain ⟨D2, hD2⟩ : ∃ D2 : ByteArray, D2 = ⟨(day2 d).toArray⟩ := ⟨_, rfl⟩
                      have HD2 := Lib.hid hD2
                      have hD2s : D2.size ≤ 2 := by
                        rw [hD2]
                        show (day2 d).toArray.size ≤ 2
                        rw [List.size_toArray]
                        unfold day2
                        split <;> exact Nat.le_refl 2
                      clear hD2
                      go_upto_if 98 with fail
                      go_cut [8] (fun x8 wx => x8 = .string D2 ∧ w2 = wx)
                      case first =>
                        by_cases hk9 : k < 9
                        · have ik : decide ((k : Int) < 9) = true := decide_eq_true (by omega)
                          have HEq : Hid (⟨#[32]⟩ ++ D.extract 1 2 = D2) := by
                            unfold Hid
                            rw [HD.out, HD2.out]
                            apply bytes_eq
                            unfold day2
                            rw [if_pos (by have := HDk.out; omega), cat_toList, extract_toList, twoB_list]
                            rfl
                          go_wp2_with fail
                          go_meet
                          exact ⟨by first | rw [HEq.out] | (rw [hDs, HEq.out]) | (rw [← hDs] at HEq; rw [HEq.out]), rfl⟩
                        · have ik : decide ((k : Int) < 9) = false := decide_eq_false (by omega)
                          have HEq : Hid (D = D2) := by
                            unfold Hid
                            rw [HD.out, HD2.out]
                            apply bytes_eq
                            unfold day2
                            rw [if_neg (by have := HDk.out; omega), twoB_list]
                          go_wp2_with fail
                          go_meet
                          exact ⟨by rw [HEq.out], rfl⟩
                      case rest =>
                        obtain ⟨rfl, rfl⟩ := hcut
                        go_upto_if 105 with fail
                        go_cut [9, 10] (fun x9 x10 wx => x9 = .int .i64 (Z : Int) ∧ x10 = .string ⟨#[sg]⟩ ∧ w2 = wx)
                        case first =>
                          by_cases hz0 : zone < 0
                          · have iz : decide (zone < 0) = true := decide_eq_true hz0
                            have hZi : -zone = (Z : Int) := by have := HZ.out; omega
                            have hse : sg = 45 := by rw [HSg.out, if_pos hz0]
                            go_wp2_with fail
                            go_meet
                            exact ⟨by first | rfl | (rw [hZi]), by rw [hse], rfl⟩
                          · have iz : decide (zone < 0) = false := decide_eq_false hz0
                            have hZi : zone = (Z : Int) := by have := HZ.out; omega
                            have hse : sg = 43 := by rw [HSg.out, if_neg hz0]
                            have HZi := Lib.hid hZi
                            clear hZi
                            go_wp2_with fail
                            go_meet
                            exact ⟨by rw [← HZi.out], by rw [hse], rfl⟩
                        case rest =>
                          obtain ⟨rfl, rfl, rfl⟩ := hcut
                          have HEq : Hid ((⟨#[34]⟩ ++ D2 ++ ⟨#[45]⟩ ++ monN m ++ ⟨#[45]⟩ ++ twoB (y / 100) ++ twoB (y % 100) ++ ⟨#[32]⟩ ++ twoB (x / 3600) ++ ⟨#[58]⟩ ++ twoB (x / 60 % 60) ++ ⟨#[58]⟩ ++ twoB (x % 60) ++ ⟨#[32]⟩ ++ ⟨#[sg]⟩ ++ twoB (Z / 60) ++ twoB (Z % 60) ++ ⟨#[34]⟩ : ByteArray) = ⟨(intT0 y m d x (Z / 60) (Z % 60) sg).toArray⟩) := refText_is (by omega) hm12 hd100 x86 (by omega) (by omega) (by rw [HD2.out])
                          have hml := monN_size m hm12
                          obtain ⟨MN, hMN⟩ : ∃ MN, MN = monN m := ⟨_, rfl⟩
                          rw [← hMN] at HNm hml HEq
                          obtain ⟨y1, ey1⟩ : ∃ a : Nat, a = y / 100 := ⟨_, rfl⟩
                          have qy1 : (y : Int).tdiv 100 = (y1 : Int) := by rw [Int.tdiv_eq_ediv_of_nonneg (by omega)]; omega
                          have py1 : (y : Int) / 100 = (y1 : Int) := by omega
                          have ly1 : y1 < 100 := by omega
                          rw [← ey1] at HEq
                          obtain ⟨y2, ey2⟩ : ∃ a : Nat, a = y % 100 := ⟨_, rfl⟩
                          have qy2 : (y : Int).tmod 100 = (y2 : Int) := by rw [Int.tmod_eq_emod_of_nonneg (by omega)]; omega
                          have py2 : (y : Int) % 100 = (y2 : Int) := by omega
                          have ly2 : y2 < 100 := by omega
                          rw [← ey2] at HEq
                          obtain ⟨x1, ex1⟩ : ∃ a : Nat, a = x / 3600 := ⟨_, rfl⟩
                          have qx1 : (x : Int).tdiv 3600 = (x1 : Int) := by rw [Int.tdiv_eq_ediv_of_nonneg (by omega)]; omega
                          have px1 : (x : Int) / 3600 = (x1 : Int) := by omega
                          have lx1 : x1 < 100 := by omega
                          rw [← ex1] at HEq
                          obtain ⟨xm, exm⟩ : ∃ a : Nat, a = x / 60 := ⟨_, rfl⟩
                          have qxm : (x : Int).tdiv 60 = (xm : Int) := by rw [Int.tdiv_eq_ediv_of_nonneg (by omega)]; omega
                          have pxm : (x : Int) / 60 = (xm : Int) := by omega
                          have lxm : xm < 1440 := by omega
                          rw [← exm] at HEq
                          obtain ⟨x2, ex2⟩ : ∃ a : Nat, a = xm % 60 := ⟨_, rfl⟩
                          have qx2 : (xm : Int).tmod 60 = (x2 : Int) := by rw [Int.tmod_eq_emod_of_nonneg (by omega)]; omega
                          have px2 : (xm : Int) % 60 = (x2 : Int) := by omega
                          have lx2 : x2 < 100 := by omega
                          rw [← ex2] at HEq
                          obtain ⟨x3, ex3⟩ : ∃ a : Nat, a = x % 60 := ⟨_, rfl⟩
                          have qx3 : (x : Int).tmod 60 = (x3 : Int) := by rw [Int.tmod_eq_emod_of_nonneg (by omega)]; omega
                          have px3 : (x : Int) % 60 = (x3 : Int) := by omega
                          have lx3 : x3 < 100 := by omega
                          rw [← ex3] at HEq
                          obtain ⟨z1, ez1⟩ : ∃ a : Nat, a = Z / 60 := ⟨_, rfl⟩
                          have qz1 : (Z : Int).tdiv 60 = (z1 : Int) := by rw [Int.tdiv_eq_ediv_of_nonneg (by omega)]; omega
                          have pz1 : (Z : Int) / 60 = (z1 : Int) := by omega
                          have lz1 : z1 < 100 := by omega
                          rw [← ez1] at HEq
                          obtain ⟨z2, ez2⟩ : ∃ a : Nat, a = Z % 60 := ⟨_, rfl⟩
                          have qz2 : (Z : Int).tmod 60 = (z2 : Int) := by rw [Int.tmod_eq_emod_of_nonneg (by omega)]; omega
                          have pz2 : (Z : Int) % 60 = (z2 : Int) := by omega
                          have lz2 : z2 < 100 := by omega
                          rw [← ez2] at HEq
                          have Ty1 := Lib.hid (fun w => HTw.out y1 ly1 w)
                          obtain ⟨Sy1, gy1⟩ : ∃ S, S = twoB y1 := ⟨_, rfl⟩
                          have sy1 : Sy1.size ≤ 2 := by rw [gy1]; exact Nat.le_refl 2
                          rw [← gy1] at Ty1 HEq
                          have Ty2 := Lib.hid (fun w => HTw.out y2 ly2 w)
                          obtain ⟨Sy2, gy2⟩ : ∃ S, S = twoB y2 := ⟨_, rfl⟩
                          have sy2 : Sy2.size ≤ 2 := by rw [gy2]; exact Nat.le_refl 2
                          rw [← gy2] at Ty2 HEq
                          have Tx1 := Lib.hid (fun w => HTw.out x1 lx1 w)
                          obtain ⟨Sx1, gx1⟩ : ∃ S, S = twoB x1 := ⟨_, rfl⟩
                          have sx1 : Sx1.size ≤ 2 := by rw [gx1]; exact Nat.le_refl 2
                          rw [← gx1] at Tx1 HEq
                          have Tx2 := Lib.hid (fun w => HTw.out x2 lx2 w)
                          obtain ⟨Sx2, gx2⟩ : ∃ S, S = twoB x2 := ⟨_, rfl⟩
                          have sx2 : Sx2.size ≤ 2 := by rw [gx2]; exact Nat.le_refl 2
                          rw [← gx2] at Tx2 HEq
                          have Tx3 := Lib.hid (fun w => HTw.out x3 lx3 w)
                          obtain ⟨Sx3, gx3⟩ : ∃ S, S = twoB x3 := ⟨_, rfl⟩
                          have sx3 : Sx3.size ≤ 2 := by rw [gx3]; exact Nat.le_refl 2
                          rw [← gx3] at Tx3 HEq
                          have Tz1 := Lib.hid (fun w => HTw.out z1 lz1 w)
                          obtain ⟨Sz1, gz1⟩ : ∃ S, S = twoB z1 := ⟨_, rfl⟩
                          have sz1 : Sz1.size ≤ 2 := by rw [gz1]; exact Nat.le_refl 2
                          rw [← gz1] at Tz1 HEq
                          have Tz2 := Lib.hid (fun w => HTw.out z2 lz2 w)
                          obtain ⟨Sz2, gz2⟩ : ∃ S, S = twoB z2 := ⟨_, rfl⟩
                          have sz2 : Sz2.size ≤ 2 := by rw [gz2]; exact Nat.le_refl 2
                          rw [← gz2] at Tz2 HEq
                          have HIx : Hid (intT0 y m d x z1 z2 sg = intT0 y m d (secQ sec zone) (zone.natAbs / 60) (zone.natAbs % 60) (if zone < 0 then 45 else 43)) := by unfold Hid; rw [ez1, ez2, HX.out, HZ.out, HSg.out]
                          rw [ez1, ez2] at HEq
                          rw [← ez1, ← ez2] at HEq
                          clear ey1 ey2 ex1 exm ex2 ex3 ez1 ez2 gy1 gy2 gx1 gx2 gx3 gz1 gz2
                          clear hMN
                          go_wp2_with fail
                          with_reducible refine (HNm.out _).mono ?_
                          rintro e wn ⟨rfl, rfl⟩
                          go_wp2_with fail
                          with_reducible refine (Ty1.out _).mono ?_
                          rintro e v0 ⟨rfl, hb⟩
                          replace HB2 := Lib.hid (HB2.out.trans (hb.mono HB2.out.size))
                          clear hb
                          go_wp2_with fail
                          with_reducible refine (Ty2.out _).mono ?_
                          rintro e v1 ⟨rfl, hb⟩
                          replace HB2 := Lib.hid (HB2.out.trans (hb.mono HB2.out.size))
                          clear hb
                          go_wp2_with fail
                          with_reducible refine (Tx1.out _).mono ?_
                          rintro e v2 ⟨rfl, hb⟩
                          replace HB2 := Lib.hid (HB2.out.trans (hb.mono HB2.out.size))
                          clear hb
                          go_wp2_with fail
                          with_reducible refine (Tx2.out _).mono ?_
                          rintro e v3 ⟨rfl, hb⟩
                          replace HB2 := Lib.hid (HB2.out.trans (hb.mono HB2.out.size))
                          clear hb
                          go_wp2_with fail
                          with_reducible refine (Tx3.out _).mono ?_
                          rintro e v4 ⟨rfl, hb⟩
                          replace HB2 := Lib.hid (HB2.out.trans (hb.mono HB2.out.size))
                          clear hb
                          go_wp2_with fail
                          with_reducible refine (Tz1.out _).mono ?_
                          rintro e v5 ⟨rfl, hb⟩
                          replace HB2 := Lib.hid (HB2.out.trans (hb.mono HB2.out.size))
                          clear hb
                          go_wp2_with fail
                          with_reducible refine (Tz2.out _).mono ?_
                          rintro e v6 ⟨rfl, hb⟩
                          replace HB2 := Lib.hid (HB2.out.trans (hb.mono HB2.out.size))
                          clear hb
                          go_wp2_with fail
                          go_ret
                          exact ⟨⟨_, ret_str HEq.out, .inr (.inr ⟨HIn.out, y, m, d, ⟨by rw [HDk.out, ← HN.out]; exact HNu.out, hm12⟩, HIx.out⟩)⟩, HB2.out⟩
end Go.Proofs.YtfndidcoahammaaDoor
