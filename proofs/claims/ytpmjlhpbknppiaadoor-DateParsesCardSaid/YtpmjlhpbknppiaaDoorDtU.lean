/- Contracts of package date: a moment's day, and a day of a number. -/
import Derived.Test.YtpmjlhpbknppiaaDoorDtK
namespace Go.Proofs.YtpmjlhpbknppiaaDoor
open Go Go.RowKit

set_option maxRecDepth 100000 in
theorem down_any (n b : Int) (hn0 : -4611686018427387904 ≤ n) (hn1 : n ≤ 4611686018427387904) (hb0 : 0 < b) (hb1 : b ≤ 100000) (w : World) :
    Calls Tryd.prog 40 #[.int .i64 n, .int .i64 b] w fun e w' => e = .returned (.tuple #[.int .i64 (n / b), .int .i64 (n % b)]) ∧ Below w.heap.size w w' := by
  obtain ⟨q, hq⟩ : ∃ q, n.tdiv b = q := ⟨_, rfl⟩
  obtain ⟨r, hr⟩ : ∃ r, n.tmod b = r := ⟨_, rfl⟩
  have hqr : b * q + r = n := by rw [← hq, ← hr]; exact Int.mul_tdiv_add_tmod n b
  have hne : ¬ (b = 0) := by omega
  have hne2 : ¬ (b = -1) := by omega
  have hrb : -b < r ∧ r < b := by
    rw [← hr]
    have h1 := Int.tmod_lt_of_pos n hb0
    have h2 := Int.lt_tmod_of_pos n hb0
    omega
  have hqb : -4611686018427387905 ≤ q ∧ q ≤ 4611686018427387905 := by
    rw [← hq]
    have h1 := Int.natAbs_tdiv_le_natAbs n b
    omega
  have hdm : (r < 0 → n / b = q - 1 ∧ n % b = r + b) ∧ (¬ r < 0 → n / b = q ∧ n % b = r) := by
    constructor
    · intro h
      have e : n = (r + b) + b * (q - 1) := by rw [Int.mul_sub, Int.mul_one]; omega
      rw [e]
      constructor
      · rw [Int.add_mul_ediv_left _ _ (by omega), Int.ediv_eq_zero_of_lt (by omega) (by omega)]
        omega
      · rw [Int.add_mul_emod_self_left]
        exact Int.emod_eq_of_lt (by omega) (by omega)
    · intro h
      have e : n = r + b * q := by omega
      rw [e]
      constructor
      · rw [Int.add_mul_ediv_left _ _ (by omega), Int.ediv_eq_zero_of_lt (by omega) (by omega)]
        omega
      · rw [Int.add_mul_emod_self_left]
        exact Int.emod_eq_of_lt (by omega) (by omega)
  have HD := Lib.hid hdm
  obtain ⟨hr1, hr2⟩ := hrb
  obtain ⟨hq1, hq2⟩ := hqb
  clear hqr hdm
  by_cases hneg : r < 0
  · obtain ⟨e1, e2⟩ := HD.out.1 hneg
    have HE1 := Lib.hid e1
    have HE2 := Lib.hid e2
    clear e1 e2
    go_enter Tryd.func40, Tryd.ntmps40
    go_wp2_with fail
    go_quiet (fail)
    go_wp2_with fail
    go_ret2
    rw [HE1.out, HE2.out]
    exact ⟨rfl, below_drewN' nq⟩
  · obtain ⟨e1, e2⟩ := HD.out.2 hneg
    have HE1 := Lib.hid e1
    have HE2 := Lib.hid e2
    clear e1 e2
    go_enter Tryd.func40, Tryd.ntmps40
    go_wp2_with fail
    go_quiet (fail)
    go_wp2_with fail
    go_ret2
    rw [HE1.out, HE2.out]
    exact ⟨rfl, below_drewN' nq⟩

/-- The number of a moment's day. -/
def dayN (sec zone : Int) : Int := (sec + 60 * zone) / 86400
theorem dayN_is (sec zone : Int) : sec / 86400 + zone / 1440 + (sec % 86400 + zone % 1440 * 60) / 86400 = dayN sec zone := by
  unfold dayN
  omega
theorem cells2 (w : World) (t : TypeId) (x y : Value) : (w.alloc (.cells #[x, y] t)).cell? ⟨w.heap.size, 0, none⟩ = some x ∧ (w.alloc (.cells #[x, y] t)).cell? ⟨w.heap.size, 1, none⟩ = some y := by
  simp only [World.cell?, heap_alloc_new]
  exact ⟨rfl, rfl⟩
set_option maxRecDepth 100000 in
set_option maxHeartbeats 2000000 in
theorem day_any (sec zone : Int) (h0 : -4611686018427387904 ≤ sec) (h1 : sec ≤ 4611686018427387904) (h2 : -4611686018427387904 ≤ zone) (h3 : zone ≤ 4611686018427387904) (w : World) :
    Calls Tryd.prog 12 #[.agg #[.int .i64 sec, .int .i64 zone]] w fun e w' => e = .returned (.int .i64 (dayN sec zone)) ∧ Below w.heap.size w w' := by
  have HD1 := Lib.hid (fun w => down_any sec 86400 h0 h1 (by omega) (by omega) w)
  have HD2 := Lib.hid (fun w => down_any zone 1440 h2 h3 (by omega) (by omega) w)
  obtain ⟨X1, hX1⟩ : ∃ X, X = w.alloc (.cells #[.int .i64 sec, .int .i64 zone] 24) := ⟨_, rfl⟩
  obtain ⟨c0, c1⟩ : X1.cell? ⟨w.heap.size, 0, none⟩ = some (.int .i64 sec) ∧ X1.cell? ⟨w.heap.size, 1, none⟩ = some (.int .i64 zone) := by rw [hX1]; exact cells2 w _ _ _
  have HB1 : Hid (Below w.heap.size w X1) := by rw [hX1]; exact (Below.refl _ _).alloc (Nat.le_refl _) _
  have hs1 : w.heap.size < X1.heap.size := by rw [hX1]; simp
  have HC1 := Lib.hid c1
  obtain ⟨a, ha⟩ : ∃ a, sec / 86400 = a := ⟨_, rfl⟩
  obtain ⟨b, hb⟩ : ∃ b, sec % 86400 = b := ⟨_, rfl⟩
  obtain ⟨c, hc⟩ : ∃ c, zone / 1440 = c := ⟨_, rfl⟩
  obtain ⟨d, hd⟩ : ∃ d, zone % 1440 = d := ⟨_, rfl⟩
  have hA : -4611686018427387904 ≤ a ∧ a ≤ 4611686018427387904 := by omega
  have hB : 0 ≤ b ∧ b < 86400 := by omega
  have hC : -4611686018427387904 ≤ c ∧ c ≤ 4611686018427387904 := by omega
  have hD : 0 ≤ d ∧ d < 1440 := by omega
  have HR : Hid (a + c + (b + d * 60) / 86400 = dayN sec zone) := by
    unfold Hid
    rw [← dayN_is, ha, hb, hc, hd]
  have hsum : -9000000000000000000 ≤ a + c ∧ a + c ≤ 9000000000000000000 := by omega
  rw [ha, hb] at HD1
  rw [hc, hd] at HD2
  clear ha hb hc hd h0 h1 h2 h3
  obtain ⟨hA1, hA2⟩ := hA
  obtain ⟨hB1, hB2⟩ := hB
  obtain ⟨hC1, hC2⟩ := hC
  obtain ⟨hD1, hD2⟩ := hD
  obtain ⟨hs2, hs3⟩ := hsum
  have ht : (b + d * 60).tdiv 86400 = (b + d * 60) / 86400 := Int.tdiv_eq_ediv_of_nonneg (by omega)
  go_enter Tryd.func12, Tryd.ntmps12
  go_wp2_with fail
  rw [← hX1]
  clear hX1
  with_reducible refine (HD1.out _).mono ?_
  rintro e w1 ⟨rfl, hb1⟩
  have c1' : w1.cell? ⟨w.heap.size, 1, none⟩ = some (.int .i64 zone) := (hb1.cell (p := ⟨w.heap.size, 1, none⟩) hs1).trans HC1.out
  have HB2 := Lib.hid (HB1.out.trans (hb1.mono HB1.out.size))
  have hs4 : w.heap.size < w1.heap.size := Nat.lt_of_lt_of_le hs1 hb1.size
  clear hb1 c0 c1
  go_wp2_with fail
  with_reducible refine (HD2.out _).mono ?_
  rintro e w2 ⟨rfl, hb2⟩
  have HB3 := Lib.hid (HB2.out.trans (hb2.mono HB2.out.size))
  clear hb2 c1'
  go_wp2_with fail
  go_ret
  exact ⟨ret_int HR.out, HB3.out⟩

def yearLen (y : Nat) : Nat := if leapY y = true then 366 else 365
theorem leapY_iff (y : Nat) : leapY y = true ↔ (y % 4 = 0 ∧ y % 100 ≠ 0) ∨ y % 400 = 0 := by
  unfold leapY
  simp
theorem div_step (x k : Nat) : (x + 1) / k = x / k + if (x + 1) % k = 0 then 1 else 0 := by
  rw [Nat.succ_div]
  by_cases h : k ∣ x + 1
  · rw [if_pos h, if_pos (Nat.mod_eq_zero_of_dvd h)]
  · rw [if_neg h, if_neg (fun e => h (Nat.dvd_of_mod_eq_zero e))]
theorem ahead_succ (y : Nat) (h : 1 ≤ y) : ahead (y + 1) = ahead y + yearLen y := by
  obtain ⟨x, rfl⟩ : ∃ x, y = x + 1 := ⟨y - 1, by omega⟩
  unfold yearLen ahead
  have hx := leapY_iff (x + 1)
  have d4 := div_step x 4
  have d100 := div_step x 100
  have d400 := div_step x 400
  have l1 : x / 100 ≤ x / 4 := Nat.div_le_div_left (by omega) (by omega)
  rw [show x + 1 + 1 - 1 = x + 1 from rfl, show x + 1 - 1 = x from rfl, d4, d100, d400]
  generalize x / 4 = a at l1 ⊢
  generalize x / 100 = b at l1 ⊢
  generalize x / 400 = c
  clear d4 d100 d400
  by_cases h4 : (x + 1) % 4 = 0
  · by_cases h100 : (x + 1) % 100 = 0
    · by_cases h400 : (x + 1) % 400 = 0
      · rw [if_pos h4, if_pos h100, if_pos h400, if_pos (hx.2 (.inr h400))]
        omega
      · rw [if_pos h4, if_pos h100, if_neg h400, if_neg (fun e => by rcases hx.1 e with g | g; exact g.2 h100; exact h400 g)]
        omega
    · have h400 : ¬ (x + 1) % 400 = 0 := fun e => h100 (Nat.mod_eq_zero_of_dvd (Nat.dvd_trans (by decide) (Nat.dvd_of_mod_eq_zero e)))
      rw [if_pos h4, if_neg h100, if_neg h400, if_pos (hx.2 (.inl ⟨h4, h100⟩))]
      omega
  · have h100 : ¬ (x + 1) % 100 = 0 := fun e => h4 (Nat.mod_eq_zero_of_dvd (Nat.dvd_trans (by decide) (Nat.dvd_of_mod_eq_zero e)))
    have h400 : ¬ (x + 1) % 400 = 0 := fun e => h100 (Nat.mod_eq_zero_of_dvd (Nat.dvd_trans (by decide) (Nat.dvd_of_mod_eq_zero e)))
    rw [if_neg h4, if_neg h100, if_neg h400, if_neg (fun e => by rcases hx.1 e with g | g; exact h4 g.1; exact h400 g)]
    omega
theorem ahead_mono {x : Nat} (h1 : 1 ≤ x) : ∀ k, ahead x ≤ ahead (x + k)
  | 0 => Nat.le_refl _
  | k + 1 => by
    have h2 := ahead_mono h1 k
    have h3 := ahead_succ (x + k) (by omega)
    rw [show x + (k + 1) = x + k + 1 by omega, h3]
    omega
theorem ahead_le {x y : Nat} (h1 : 1 ≤ x) (h : x ≤ y) : ahead x ≤ ahead y := by
  have := ahead_mono h1 (y - x)
  rwa [show x + (y - x) = y by omega] at this
theorem ahead_one : ahead 1 = 0 := by decide
theorem year_ex (N : Nat) (k : Nat) (h : N < ahead (k + 1)) : ∃ Y, 1 ≤ Y ∧ Y ≤ k ∧ ahead Y ≤ N ∧ N < ahead (Y + 1) := by
  induction k with
  | zero =>
    exfalso
    rw [show 0 + 1 = 1 from rfl, ahead_one] at h
    exact Nat.not_lt_zero _ h
  | succ k ih =>
    by_cases h2 : N < ahead (k + 1)
    · obtain ⟨Y, g1, g2, g3, g4⟩ := ih h2
      exact ⟨Y, g1, Nat.le_succ_of_le g2, g3, g4⟩
    · exact ⟨k + 1, Nat.succ_le_succ (Nat.zero_le _), Nat.le_refl _, Nat.le_of_not_lt h2, h⟩
theorem monSum_12 (y : Nat) : monSum y 12 = yearLen y := by
  unfold yearLen
  cases h : leapY y with
  | true => simp [monSum, daysM, h, monD, monthsL]
  | false => simp [monSum, daysM, h, monD, monthsL]
theorem mon_ex (y r : Nat) : ∀ k, r < monSum y k → ∃ m, m < k ∧ monSum y m ≤ r ∧ r < monSum y (m + 1)
  | 0, h => by simp [monSum] at h
  | k + 1, h => by
    by_cases h2 : r < monSum y k
    · obtain ⟨m, g1, g2, g3⟩ := mon_ex y r k h2
      exact ⟨m, by omega, g2, g3⟩
    · exact ⟨k, by omega, by omega, h⟩
theorem monSum_step (y m : Nat) : monSum y (m + 1) = monSum y m + daysM y m := rfl
theorem monSum_mono (y : Nat) (m : Nat) : ∀ k, monSum y m ≤ monSum y (m + k)
  | 0 => Nat.le_refl _
  | k + 1 => by
    have := monSum_mono y m k
    rw [show m + (k + 1) = m + k + 1 by omega, monSum_step]
    omega
theorem monSum_le' {y m k : Nat} (h : m ≤ k) : monSum y m ≤ monSum y k := by
  have := monSum_mono y m (k - m)
  rwa [show m + (k - m) = k by omega] at this
/-- Each number within the years that count is a day's. -/
theorem number_ex (n : Int) (h0 : 0 ≤ n + 719162) (h1 : n + 719162 < 3652059) :
    ∃ y m d N r : Nat, n + 719162 = (N : Int) ∧ 1 ≤ y ∧ y ≤ 9999 ∧ ahead y ≤ N ∧ N < ahead (y + 1) ∧ r = N - ahead y ∧ m < 12 ∧ monSum y m ≤ r ∧ r < monSum y (m + 1) ∧ d = r - monSum y m + 1 ∧ d ≤ daysM y m ∧ numberK y m d = some n := by
  obtain ⟨N, hN⟩ : ∃ N : Nat, n + 719162 = (N : Int) := ⟨(n + 719162).toNat, by omega⟩
  have e : ahead (9999 + 1) = 3652059 := by decide
  obtain ⟨y, g1, g2, g3, g4⟩ := year_ex N 9999 (by rw [e]; omega)
  have hs := ahead_succ y g1
  obtain ⟨m, m1, m2, m3⟩ := mon_ex y (N - ahead y) 12 (by rw [monSum_12]; omega)
  refine ⟨y, m, N - ahead y - monSum y m + 1, N, N - ahead y, hN, g1, g2, g3, g4, rfl, m1, m2, m3, rfl, ?_, ?_⟩
  · rw [monSum_step] at m3
    omega
  · unfold numberK
    rw [monSum_step] at m3
    rw [if_neg (by omega)]
    congr 1
    omega
theorem numberK_inv {y m d : Nat} {n : Int} (h : numberK y m d = some n) : 1 ≤ y ∧ y ≤ 9999 ∧ 1 ≤ d ∧ d ≤ daysM y m ∧ n = (ahead y : Int) - 719162 + (d : Int) - 1 + (monSum y m : Int) := by
  unfold numberK at h
  split at h
  · cases h
  · next hc =>
    have e := Option.some.inj h
    exact ⟨by omega, by omega, by omega, by omega, e.symm⟩
theorem numberK_inj {y m d y' m' d' : Nat} {n : Int} (hm : m < 12) (hm' : m' < 12) (h : numberK y m d = some n) (h' : numberK y' m' d' = some n) : y = y' ∧ m = m' ∧ d = d' := by
  obtain ⟨a1, a2, a3, a4, a5⟩ := numberK_inv h
  obtain ⟨b1, b2, b3, b4, b5⟩ := numberK_inv h'
  have s1 := monSum_step y m
  have s2 := monSum_step y' m'
  have l1 : monSum y (m + 1) ≤ monSum y 12 := monSum_le' (by omega)
  have l2 : monSum y' (m' + 1) ≤ monSum y' 12 := monSum_le' (by omega)
  rw [monSum_12] at l1 l2
  have q1 := ahead_succ y a1
  have q2 := ahead_succ y' b1
  have hy : y = y' := by
    rcases Nat.lt_trichotomy y y' with h3 | h3 | h3
    · have := ahead_le (x := y + 1) (y := y') (by omega) h3
      omega
    · exact h3
    · have := ahead_le (x := y' + 1) (y := y) (by omega) h3
      omega
  subst hy
  have hmm : m = m' := by
    rcases Nat.lt_trichotomy m m' with h3 | h3 | h3
    · have := monSum_le' (y := y) (m := m + 1) (k := m') h3
      omega
    · exact h3
    · have := monSum_le' (y := y) (m := m' + 1) (k := m) h3
      omega
  subst hmm
  exact ⟨rfl, rfl, by omega⟩
set_option maxRecDepth 100000 in
theorem numbered1_any (y : Nat) (hy : y ≤ 10000) (N : Int) (B : Nat) (w : World) (hc : w.cell? ⟨B, 0, none⟩ = some (.int .i64 N)) :
    Calls Tryd.prog 61 #[.int .i64 (y : Int), .pointer (some ⟨B, 0, none⟩)] w fun e w' => e = .returned (.bool (decide (N < (ahead (y + 1) : Int)))) ∧ ∃ n, w' = w.drewN n := by
  have hB : B < w.heap.size := World.block_lt_of_cell? _ _ hc
  have hcn : ∀ n, (w.drewN n).cell? ⟨B, 0, none⟩ = some (.int .i64 N) := fun n => hc
  have HA := Lib.hid (fun w => daysAhead_any (y + 1) (by omega) (by omega) w)
  have hyy : ((y + 1 : Nat) : Int) = (y : Int) + 1 := by omega
  rw [hyy] at HA
  obtain ⟨A, hA⟩ : ∃ A : Int, A = (ahead (y + 1) : Int) := ⟨_, rfl⟩
  rw [← hA] at HA ⊢
  obtain ⟨b, hb⟩ : ∃ b, decide (N < A) = b := ⟨_, rfl⟩
  rw [hb]
  clear hA hyy
  go_enter Tryd.func61, Tryd.ntmps61
  go_wp2_with fail
  go_quiet ((go_at_call 59; exact quiet_same' (HA.out _)))
  go_wp2_with fail
  go_ret
  exact ⟨rfl, nq, rfl⟩

set_option maxRecDepth 100000 in
set_option maxHeartbeats 2000000 in
theorem search_any (Y : Nat) (hY : Y ≤ 9999) (N : Int) (hF : ∀ y : Nat, y < 9999 → decide (N < (ahead (y + 1) : Int)) = decide (Y ≤ y)) (B : Nat) (w : World) (hc : w.cell? ⟨B, 0, none⟩ = some (.int .i64 N)) :
    Calls Tryd.prog 60 #[.int .i64 9999, .func (.func 61) #[] #[.pointer (some ⟨B, 0, none⟩)]] w fun e w' => e = .returned (.int .i64 (Y : Int)) ∧ ∃ n, w' = w.drewN n := by
  have HC := Lib.hid hc
  have HF := Lib.hid hF
  clear hc hF
  go_enter Tryd.func60, Tryd.ntmps60
  go_wp2_with fail
  go_loopg [5, 6] 9999 (fun q xi xj wr => ∃ i j : Nat, i ≤ Y ∧ Y ≤ j ∧ j ≤ 9999 ∧ q = j - i ∧ xi = .int .i64 (i : Int) ∧ xj = .int .i64 (j : Int) ∧ Hid (∃ n, wr = w.drewN n))
  case atStart => exact ⟨0, 9999, by omega, hY, by omega, rfl, rfl, rfl, 0, rfl⟩
  case round =>
    obtain ⟨i, j, hi, hj, hj9, rfl, rfl, rfl, HW⟩ := hrel
    by_cases hlt : i < j
    · have hcr : wr.cell? ⟨B, 0, none⟩ = some (.int .i64 N) := by
        obtain ⟨n, rfl⟩ := HW.out
        exact HC.out
      obtain ⟨h, hh⟩ : ∃ h : Nat, h = (i + j) / 2 := ⟨_, rfl⟩
      have h1 : i ≤ h := by omega
      have h2 : h < j := by omega
      have hhI : ((i : Int) + (j : Int)) / 2 = (h : Int) := by omega
      have HN := Lib.hid (numbered1_any h (by omega) N B wr hcr)
      rw [HF.out h (by omega)] at HN
      clear hh
      by_cases hle : Y ≤ h
      · rw [decide_eq_true hle] at HN
        go_wp2_with fail
        with_reducible refine HN.out.mono ?_
        rintro e w1 ⟨rfl, hq⟩
        have HW1 : Hid (∃ n, w1 = w.drewN n) := by
          obtain ⟨n, rfl⟩ := HW.out
          obtain ⟨k, rfl⟩ := hq
          exact ⟨n + k, World.drewN_drewN _ _ _⟩
        clear hq hcr
        go_wp2_with fail
        go_roundg (h - i)
        case measure => omega
        case rel => exact ⟨i, h, hi, hle, by omega, rfl, rfl, rfl, HW1.out⟩
      · rw [decide_eq_false hle] at HN
        go_wp2_with fail
        with_reducible refine HN.out.mono ?_
        rintro e w1 ⟨rfl, hq⟩
        have HW1 : Hid (∃ n, w1 = w.drewN n) := by
          obtain ⟨n, rfl⟩ := HW.out
          obtain ⟨k, rfl⟩ := hq
          exact ⟨n + k, World.drewN_drewN _ _ _⟩
        clear hq hcr
        go_wp2_with fail
        go_roundg (j - (h + 1))
        case measure => omega
        case rel => exact ⟨h + 1, j, by omega, hj, hj9, rfl, by first | rfl | (congr 1), rfl, HW1.out⟩
    · obtain rfl : i = Y := by omega
      obtain rfl : j = i := by omega
      have hltI : decide ((j : Int) < (j : Int)) = false := decide_eq_false (by omega)
      go_wp2_with fail
      go_ret
      exact ⟨rfl, HW.out⟩
end Go.Proofs.YtpmjlhpbknppiaaDoor
