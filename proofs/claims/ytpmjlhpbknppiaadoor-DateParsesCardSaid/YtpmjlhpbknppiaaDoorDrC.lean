/- The document's functions of layer 11: digits, number, month. -/
import Derived.Test.YtpmjlhpbknppiaaDoorDrA
import Derived.Test.YtpmjlhpbknppiaaDoorChars4
namespace Go.Proofs.YtpmjlhpbknppiaaDoor
open Go Go.RowKit

def digK (l : List UInt8) (lo hi : Nat) : Int := if l.length < lo ∨ hi < l.length ∨ l.all isDig = false then -1 else (numOf l : Int)
def numR (y m d : Int) : Option Int := if y < 1 ∨ m < 1 ∨ 12 < m then none else numberK y.toNat (m.toNat - 1) d.toNat
theorem digK_b (l : List UInt8) (lo hi : Nat) (h : hi ≤ 4) : -1 ≤ digK l lo hi ∧ digK l lo hi ≤ 9999 := by
  unfold digK
  split
  · omega
  · rename_i g
    have hd : l.all isDig = true := by
      cases e : l.all isDig with
      | true => rfl
      | false => exact absurd (.inr (.inr e)) g
    have h1 := numOf_lt l hd
    have h2 : 10 ^ l.length ≤ 10 ^ 4 := Nat.pow_le_pow_right (by decide) (by omega)
    omega
set_option maxRecDepth 100000 in
theorem refDigits_any (s : ByteArray) (lo hi : Nat) (L H : Int) (hL : (lo : Int) = L) (hH : (hi : Int) = H) (h4 : hi ≤ 4) (hs : s.size ≤ 1000000000000) (w : World) :
    Calls Tryd.prog 28 #[.string s, .int .i64 L, .int .i64 H] w fun e w' => e = .returned (.int .i64 (digK s.data.toList lo hi)) ∧ w = w' := by
  have Hlen := Lib.hid (len_toList s)
  by_cases a1 : s.size < lo
  · have i1 : decide ((s.size : Int) < L) = true := decide_eq_true (by omega)
    have HR : Hid (digK s.data.toList lo hi = -1) := by unfold Hid digK; rw [if_pos (.inl (by rw [Hlen.out]; exact a1))]
    clear a1 hL hH
    go_enter Tryd.func28, Tryd.ntmps28
    go_wp2_with fail
    go_ret
    exact ⟨ret_int HR.out.symm, rfl⟩
  · have i1 : decide ((s.size : Int) < L) = false := decide_eq_false (by omega)
    by_cases a2 : hi < s.size
    · have i2 : decide (H < (s.size : Int)) = true := decide_eq_true (by omega)
      have HR : Hid (digK s.data.toList lo hi = -1) := by unfold Hid digK; rw [if_pos (.inr (.inl (by rw [Hlen.out]; exact a2)))]
      clear a1 a2 hL hH
      go_enter Tryd.func28, Tryd.ntmps28
      go_wp2_with fail
      go_ret
      exact ⟨ret_int HR.out.symm, rfl⟩
    · have i2 : decide (H < (s.size : Int)) = false := decide_eq_false (by omega)
      have h5 : s.size ≤ 4 := by omega
      have HA1 := Lib.hid a1
      have HA2 := Lib.hid a2
      clear a1 a2 hL hH h4
      go_enter Tryd.func28, Tryd.ntmps28
      go_wp2_with fail
      go_loopg [7, 8] s.size (fun q xn xi wr => ∃ k N : Nat, k ≤ s.size ∧ q = s.size - k ∧ xi = .int .i64 (k : Int) ∧ xn = .int .i64 (N : Int) ∧ w = wr ∧ N ≤ 100000 ∧ Hid (N = numOf (s.data.toList.take k) ∧ (s.data.toList.take k).all isDig = true))
      case atStart => exact ⟨0, 0, by omega, by omega, rfl, rfl, rfl, by omega, rfl, rfl⟩
      case round =>
        obtain ⟨k, N, hk, rfl, rfl, rfl, rfl, hN, HN⟩ := hrel
        by_cases hlt : k < s.size
        · by_cases hd : 48 ≤ s[k].toNat ∧ s[k].toNat ≤ 57
          · obtain ⟨hd1, hd2⟩ := hd
            have hb1 : ¬ ((s[k].toNat : Int) < 48) := by omega
            have hb2 : ¬ ((57 : Int) < (s[k].toNat : Int)) := by omega
            have HNn : Hid (N * 10 + (s[k].toNat - 48) = numOf (s.data.toList.take (k + 1)) ∧ (s.data.toList.take (k + 1)).all isDig = true) := by
              unfold Hid
              rw [take_snoc s k hlt, numOf_snoc, ← HN.out.1]
              refine ⟨rfl, ?_⟩
              rw [List.all_append, HN.out.2]
              simp only [List.all_cons, List.all_nil, Bool.and_true, Bool.true_and]
              exact (isDig_iff _).2 ⟨hd1, hd2⟩
            have hNl : N * 10 + (s[k].toNat - 48) ≤ 100000 := by
              rw [HNn.out.1]
              have := numOf_lt _ HNn.out.2
              rw [List.length_take] at this
              have h9 : 10 ^ min (k + 1) s.data.toList.length ≤ 10 ^ 4 := Nat.pow_le_pow_right (by omega) (by omega)
              omega
            obtain ⟨c, hc⟩ : ∃ c, c = s[k].toNat := ⟨_, rfl⟩
            go_wp2_with fail
            go_roundg (s.size - (k + 1))
            case measure => omega
            case rel => exact ⟨k + 1, N * 10 + (s[k].toNat - 48), by omega, rfl, by go_num, by congr 1; omega, rfl, hNl, HNn.out⟩
          · have HB : Hid (digK s.data.toList lo hi = -1) := by
              unfold Hid digK
              rw [if_pos]
              refine .inr (.inr ?_)
              cases e : s.data.toList.all isDig with
              | false => rfl
              | true =>
                have hm : s.data.toList[k]'(by rw [Hlen.out]; exact hlt) ∈ s.data.toList := List.getElem_mem _
                have := List.all_eq_true.1 e _ hm
                rw [show s.data.toList[k]'(by rw [Hlen.out]; exact hlt) = s[k] from rfl] at this
                exact absurd ((isDig_iff _).1 this) hd
            by_cases hb1 : (s[k].toNat : Int) < 48
            · go_wp2_with fail
              go_ret
              exact ⟨ret_int HB.out.symm, rfl⟩
            · have hb2 : (57 : Int) < (s[k].toNat : Int) := by omega
              go_wp2_with fail
              go_ret
              exact ⟨ret_int HB.out.symm, rfl⟩
        · obtain rfl : k = s.size := by omega
          have HG : Hid (digK s.data.toList lo hi = (N : Int)) := by
            unfold Hid digK
            have e1 := HN.out.1
            have e2 := HN.out.2
            rw [List.take_of_length_le (by rw [Hlen.out]; exact Nat.le_refl _)] at e1 e2
            rw [if_neg, e1]
            rintro (g | g | g)
            · rw [Hlen.out] at g; exact HA1.out g
            · rw [Hlen.out] at g; exact HA2.out g
            · rw [e2] at g; cases g
          go_wp2_with fail
          go_ret
          exact ⟨ret_int HG.out.symm, rfl⟩
theorem ahead_1970' : ahead 1970 = 719162 := by decide
set_option maxRecDepth 100000 in
set_option maxHeartbeats 4000000 in
theorem refNumber_any (y m d : Int) (hy0 : -1 ≤ y) (hy1 : y ≤ 100000) (hm0 : -1 ≤ m) (hm1 : m ≤ 100000) (hd0 : -1 ≤ d) (hd1 : d ≤ 100000) (w : World) :
    Calls Tryd.prog 31 #[.int .i64 y, .int .i64 m, .int .i64 d] w fun e w' => e = .returned (numV' (numR y m d)) ∧ w = w' := by
  by_cases b0 : y < 1
  · have i0 : decide (y < 1) = true := decide_eq_true b0
    have HR : Hid (numR y m d = none) := by
      unfold Hid numR; rw [if_pos (by omega)]
    go_enter Tryd.func31, Tryd.ntmps31
    go_wp2_with fail
    go_ret2
    exact ⟨by rw [HR.out]; rfl, rfl⟩
  · have i0 : decide (y < 1) = false := decide_eq_false b0
    by_cases b1 : 9999 < y
    · have i1 : decide (9999 < y) = true := decide_eq_true b1
      have HR : Hid (numR y m d = none) := by
        unfold Hid numR numberK; split <;> first | rfl | (rw [if_pos (by omega)])
      go_enter Tryd.func31, Tryd.ntmps31
      go_wp2_with fail
      go_ret2
      exact ⟨by rw [HR.out]; rfl, rfl⟩
    · have i1 : decide (9999 < y) = false := decide_eq_false b1
      by_cases b2 : m < 1
      · have i2 : decide (m < 1) = true := decide_eq_true b2
        have HR : Hid (numR y m d = none) := by
          unfold Hid numR; rw [if_pos (by omega)]
        go_enter Tryd.func31, Tryd.ntmps31
        go_wp2_with fail
        go_ret2
        exact ⟨by rw [HR.out]; rfl, rfl⟩
      · have i2 : decide (m < 1) = false := decide_eq_false b2
        by_cases b3 : 12 < m
        · have i3 : decide (12 < m) = true := decide_eq_true b3
          have HR : Hid (numR y m d = none) := by
            unfold Hid numR; rw [if_pos (by omega)]
          go_enter Tryd.func31, Tryd.ntmps31
          go_wp2_with fail
          go_ret2
          exact ⟨by rw [HR.out]; rfl, rfl⟩
        · have i3 : decide (12 < m) = false := decide_eq_false b3
          by_cases b4 : d < 1
          · have i4 : decide (d < 1) = true := decide_eq_true b4
            have HR : Hid (numR y m d = none) := by
              unfold Hid numR numberK; split <;> first | rfl | (rw [if_pos (by omega)])
            go_enter Tryd.func31, Tryd.ntmps31
            go_wp2_with fail
            go_ret2
            exact ⟨by rw [HR.out]; rfl, rfl⟩
          · have i4 : decide (d < 1) = false := decide_eq_false b4
            obtain ⟨Y, rfl⟩ : ∃ Y : Nat, y = (Y : Int) := ⟨y.toNat, by omega⟩
            obtain ⟨M, rfl⟩ : ∃ M : Nat, m = (M : Int) := ⟨m.toNat, by omega⟩
            obtain ⟨D, rfl⟩ : ∃ D : Nat, d = (D : Int) := ⟨d.toNat, by omega⟩
            obtain ⟨mm, hmm⟩ : ∃ mm, M = mm + 1 := ⟨M - 1, by omega⟩
            have hN : numR (Y : Int) (M : Int) (D : Int) = numberK Y mm D := by
              unfold numR
              rw [if_neg (by omega)]
              rw [show (Y : Int).toNat = Y from rfl, show (M : Int).toNat = M from rfl, show (D : Int).toNat = D from rfl, hmm]
              rfl
            have HC := Lib.hid (fun w => refDays_any Y mm M (by omega) (by omega) hmm w)
            obtain ⟨T, hT⟩ : ∃ T, T = daysM Y mm := ⟨_, rfl⟩
            have hTl := daysM_le Y mm
            rw [← hT] at HC hTl
            have HDm := Lib.hid (fun k K (hk : k < 12) (hK : K = k + 1) w => refDays_any Y k K (by omega) hk hK w)
            have HYr := Lib.hid (fun k (hk : k ≤ 100000) w => refYear_any k hk w)
            have hY1 : 1 ≤ Y := by omega
            have hY9 : Y ≤ 9999 := by omega
            have hmm12 : mm < 12 := by omega
            have hD1 : 1 ≤ D := by omega
            by_cases b5 : T < D
            · have i5 : decide ((T : Int) < (D : Int)) = true := decide_eq_true (by omega)
              have i5n : decide (T < D) = true := decide_eq_true (by omega)
              have HR : Hid (numR (Y : Int) (M : Int) (D : Int) = none) := by
                unfold Hid
                rw [hN]
                unfold numberK
                rw [if_pos (by omega)]
              clear hN hT hmm b0 b1 b2 b3 b4
              go_enter Tryd.func31, Tryd.ntmps31
              go_wp2_with fail
              with_reducible refine (HC.out _).mono ?_
              rintro e w1 ⟨rfl, rfl⟩
              go_wp2_with fail
              go_ret2
              exact ⟨by rw [HR.out]; rfl, rfl⟩
            · have i5 : decide ((T : Int) < (D : Int)) = false := decide_eq_false (by omega)
              have i5n : decide (T < D) = false := decide_eq_false (by omega)
              have HR : Hid (numR (Y : Int) (M : Int) (D : Int) = some ((ahead Y : Int) - 719162 + (D : Int) - 1 + (monSum Y mm : Int))) := by
                unfold Hid
                rw [hN]
                unfold numberK
                rw [if_neg (by omega)]
              have hDl : D ≤ 31 := by omega
              have HMM := Lib.hid hmm
              have hM12 : M ≤ 12 := by omega
              have hM1 : 1 ≤ M := by omega
              clear hN hT hmm b0 b1 b2 b3 b4 b5 hy0 hy1 hm0 hm1 hd0 hd1
              go_enter Tryd.func31, Tryd.ntmps31
              go_wp2_with fail
              with_reducible refine (HC.out _).mono ?_
              rintro e w1 ⟨rfl, rfl⟩
              go_wp2_with fail
              go_loopg [8, 9] M (fun q xn xk wr => ∃ (k : Nat) (n : Int), k + 1 ≤ M ∧ q = M - k ∧ xk = .int .i64 ((k + 1 : Nat) : Int) ∧ xn = .int .i64 n ∧ w = wr ∧ 0 ≤ n ∧ n ≤ 1000 ∧ Hid (n = (D : Int) - 1 + (monSum Y k : Int)))
              case atStart => exact ⟨0, (D : Int) - 1, by omega, by omega, by go_num, rfl, rfl, by omega, by omega, by unfold Hid; rw [show monSum Y 0 = 0 from rfl]; omega⟩
              case round =>
                obtain ⟨k, n, hk, rfl, rfl, rfl, rfl, hn0, hn1, HN⟩ := hrel
                obtain ⟨K, hK⟩ : ∃ K, K = k + 1 := ⟨_, rfl⟩
                rw [← hK]
                by_cases hKM : K < M
                · have j1 : decide ((K : Int) < (M : Int)) = true := decide_eq_true (by omega)
                  have j1n : decide (K < M) = true := decide_eq_true (by omega)
                  have HD := Lib.hid (fun w => HDm.out k K (by omega) hK w)
                  obtain ⟨L, hL⟩ : ∃ L, L = daysM Y k := ⟨_, rfl⟩
                  have hLl := daysM_le Y k
                  have hms := monSum_le Y (k + 1)
                  have hst := monSum_step Y k
                  rw [← hL] at HD hLl hst
                  have HNn : Hid (n + (L : Int) = (D : Int) - 1 + (monSum Y (k + 1) : Int)) := by
                    have := HN.out
                    unfold Hid
                    omega
                  have hn3 : n + (L : Int) ≤ 1000 := by have := HNn.out; omega
                  have HK := Lib.hid hK
                  clear hL hK hms hst
                  go_wp2_with fail
                  with_reducible refine (HD.out _).mono ?_
                  rintro e w1 ⟨rfl, rfl⟩
                  go_wp2_with fail
                  go_roundg (M - (k + 1))
                  case measure => have := HK.out; omega
                  case rel => exact ⟨k + 1, n + (L : Int), by have := HK.out; omega, rfl, by rw [HK.out]; go_num, rfl, rfl, by omega, hn3, HNn⟩
                · have j1 : decide ((K : Int) < (M : Int)) = false := decide_eq_false (by omega)
                  have j1n : decide (K < M) = false := decide_eq_false (by omega)
                  have HNm : Hid (n = (D : Int) - 1 + (monSum Y mm : Int)) := by
                    have := HN.out
                    have e := HMM.out
                    obtain rfl : k = mm := by omega
                    exact this
                  clear HN hK
                  go_wp2_with fail
                  go_loopg [8, 10] 8030 (fun q xn xk wr => ∃ (k : Nat) (v : Int), 1970 ≤ k ∧ (k ≤ Y ∨ k = 1970) ∧ q = 10000 - k ∧ xk = .int .i64 (k : Int) ∧ xn = .int .i64 v ∧ w = wr ∧ -10000000 ≤ v ∧ v ≤ 10000000 ∧ Hid (v = n + (ahead k : Int) - 719162))
                  case atStart => exact ⟨1970, n, by omega, by omega, by omega, rfl, rfl, rfl, by omega, by omega, by unfold Hid; rw [ahead_1970']; omega⟩
                  case round =>
                    obtain ⟨k2, v, hk0, hk1, rfl, rfl, rfl, rfl, hv0, hv1, HV⟩ := hrel
                    by_cases hkY : k2 < Y
                    · have j2 : decide ((k2 : Int) < (Y : Int)) = true := decide_eq_true (by omega)
                      have j2n : decide (k2 < Y) = true := decide_eq_true (by omega)
                      have HD := Lib.hid (fun w => HYr.out k2 (by omega) w)
                      obtain ⟨L, hL⟩ : ∃ L, L = yearLen k2 := ⟨_, rfl⟩
                      have hLb : L ≤ 366 := by rw [hL]; unfold yearLen; split <;> omega
                      rw [← hL] at HD
                      have HNn : Hid (v + (L : Int) = n + (ahead (k2 + 1) : Int) - 719162) := by
                        have := HV.out
                        have e := ahead_succ k2 (by omega)
                        unfold Hid
                        omega
                      have hle : (ahead (k2 + 1) : Int) ≤ 3652059 := by
                        have := ahead_le (x := k2 + 1) (y := 10000) (by omega) (by omega)
                        rw [show ahead 10000 = 3652059 by decide] at this
                        omega
                      have hv3 : v + (L : Int) ≤ 10000000 := by have := HNn.out; omega
                      clear hL hle
                      go_wp2_with fail
                      with_reducible refine (HD.out _).mono ?_
                      rintro e w1 ⟨rfl, rfl⟩
                      go_wp2_with fail
                      go_roundg (10000 - (k2 + 1))
                      case measure => omega
                      case rel => exact ⟨k2 + 1, v + (L : Int), by omega, by omega, rfl, by go_num, rfl, rfl, by omega, hv3, HNn⟩
                    · have j2 : decide ((k2 : Int) < (Y : Int)) = false := decide_eq_false (by omega)
                      have j2n : decide (k2 < Y) = false := decide_eq_false (by omega)
                      have HV0 : Hid (1970 ≤ Y → k2 = Y) := fun h => by omega
                      have HV1 : Hid (Y < 1970 → k2 = 1970) := fun h => by omega
                      go_wp2_with fail
                      go_loopg [8, 11] (10000 - Y) (fun q xn xk wr => ∃ (k : Nat) (u : Int), Y ≤ k ∧ (k ≤ 1970 ∨ k = Y) ∧ q = 10000 - k ∧ xk = .int .i64 (k : Int) ∧ xn = .int .i64 u ∧ w = wr ∧ -20000000 ≤ u ∧ u ≤ 20000000 ∧ Hid (u = v + (ahead Y : Int) - (ahead k : Int)))
                      case atStart => exact ⟨Y, v, by omega, by omega, by omega, rfl, rfl, rfl, by omega, by omega, by unfold Hid; omega⟩
                      case round =>
                        obtain ⟨k3, u, hk3, hk4, rfl, rfl, rfl, rfl, hu0, hu1, HU⟩ := hrel
                        by_cases hkY3 : k3 < 1970
                        · have j3 : decide ((k3 : Int) < 1970) = true := decide_eq_true (by omega)
                          have HD := Lib.hid (fun w => HYr.out k3 (by omega) w)
                          obtain ⟨L, hL⟩ : ∃ L, L = yearLen k3 := ⟨_, rfl⟩
                          have hLb : L ≤ 366 := by rw [hL]; unfold yearLen; split <;> omega
                          rw [← hL] at HD
                          have HNn : Hid (u - (L : Int) = v + (ahead Y : Int) - (ahead (k3 + 1) : Int)) := by
                            have := HU.out
                            have e := ahead_succ k3 (by omega)
                            unfold Hid
                            omega
                          have hle : (ahead (k3 + 1) : Int) ≤ 3652059 := by
                            have := ahead_le (x := k3 + 1) (y := 10000) (by omega) (by omega)
                            rw [show ahead 10000 = 3652059 by decide] at this
                            omega
                          have hv3 : -20000000 ≤ u - (L : Int) := by have := HNn.out; omega
                          clear hL hle
                          go_wp2_with fail
                          with_reducible refine (HD.out _).mono ?_
                          rintro e w1 ⟨rfl, rfl⟩
                          go_wp2_with fail
                          go_roundg (10000 - (k3 + 1))
                          case measure => omega
                          case rel => exact ⟨k3 + 1, u - (L : Int), by omega, by omega, rfl, by go_num, rfl, rfl, hv3, by omega, HNn⟩
                        · have j3 : decide ((k3 : Int) < 1970) = false := decide_eq_false (by omega)
                          have HE : Hid (u = (ahead Y : Int) - 719162 + (D : Int) - 1 + (monSum Y mm : Int)) := by
                            unfold Hid
                            have e1 := HU.out
                            have e2 := HV.out
                            have e3 := HNm.out
                            rcases Nat.lt_or_ge Y 1970 with g | g
                            · obtain rfl : k3 = 1970 := by omega
                              rw [HV1.out g, ahead_1970'] at e2
                              rw [ahead_1970'] at e1
                              omega
                            · have := HV0.out g
                              obtain rfl : k3 = Y := by omega
                              rw [this] at e2
                              omega
                          go_wp2_with fail
                          go_ret2
                          exact ⟨by rw [HR.out, ← HE.out]; rfl, rfl⟩
end Go.Proofs.YtpmjlhpbknppiaaDoor
