/- Contracts of the document's layer 10: addresses as a text. -/
import Derived.Test.YtjlcphofkepajaaGreatAdZ
import Derived.Test.YtjlcphofkepajaaGreatAdT
import Derived.Deep.DeepCutAuto
import Derived.Deep.CutBlock
namespace Go.Proofs.YtjlcphofkepajaaGreat
open Go Go.RowKit

theorem cat_lit (A : ByteArray) (l : List UInt8) : (A ++ ⟨l.toArray⟩).data.toList = A.data.toList ++ l := by rw [cat_toList]
set_option maxRecDepth 100000 in
set_option maxHeartbeats 8000000 in
theorem refText_any10 (v : Value) (l : List Adx) (w : World) (hv : rowAdx w v l) (hs : small l 10000000) (hll : l.length ≤ 1000) :
    Calls Tryz.prog 7 #[v] w fun e w' => ∃ T : ByteArray, e = .returned (.string T) ∧ T.data.toList = textA none l ∧ w = w' := by
  obtain ⟨ao, cap, rfl, hc, hm, hcells⟩ := hv.at
  unfold maxLen at hm
  have HC := Lib.hid hcells
  have HSm := Lib.hid hs
  obtain ⟨n, hn⟩ : ∃ n, n = l.length := ⟨_, rfl⟩
  rw [← hn] at hc hll ⊢
  have HN := Lib.hid hn
  clear hcells hs hn hv
  go_enter Tryz.func7, Tryz.ntmps7
  go_wp2_with fail
  go_loopg [3, 4] n (fun g v3 v4 wr => ∃ (i : Nat) (A : ByteArray), g = n - i ∧ i ≤ n ∧ v4 = .int .i64 (i : Int) ∧ v3 = .string A ∧ A.size ≤ i * 100000000 ∧ Hid (A.data.toList = textA none (l.take i)) ∧ w = wr)
  case atStart => exact ⟨0, ⟨#[]⟩, by omega, by omega, rfl, rfl, by decide, rfl, rfl⟩
  case round =>
    obtain ⟨i, A, rfl, hi, rfl, rfl, hal, HA, rfl⟩ := hrel
    by_cases hlt : i < n
    · have hil : i < l.length := by rw [← HN.out]; exact hlt
      obtain ⟨g, off, rfl, hg, c0, c1, c2, c3⟩ := HC.out i hil
      have hstep := textA_step l i hil
      obtain ⟨hs1, hs2, hs3⟩ := HSm.out l[i] (List.getElem_mem hil)
      have hil2 := itemX_len l[i]
      obtain ⟨a, ha⟩ : ∃ a, a = l[i] := ⟨_, rfl⟩
      rw [← ha] at c0 c1 c2 c3 hstep hs1 hs2 hs3 hil2
      obtain ⟨K, nm, lo, ho⟩ := a
      simp only at c0 c1 c2 c3 hs1 hs2 hs3 hil2 hstep
      have HQN := Lib.hid (fun W => refQuotedT_any ⟨nm.toArray⟩ W (by show nm.toArray.size ≤ _; simp; omega))
      have HQL := Lib.hid (fun W => refQuotedT_any ⟨lo.toArray⟩ W (by show lo.toArray.size ≤ _; simp; omega))
      obtain ⟨N, hN⟩ : ∃ N : ByteArray, N = ⟨nm.toArray⟩ := ⟨_, rfl⟩
      obtain ⟨L, hL⟩ : ∃ L : ByteArray, L = ⟨lo.toArray⟩ := ⟨_, rfl⟩
      obtain ⟨H, hH⟩ : ∃ H : ByteArray, H = ⟨ho.toArray⟩ := ⟨_, rfl⟩
      have HNl : Hid (N.data.toList = nm) := by unfold Hid; rw [hN]
      have HHl : Hid (H.data.toList = ho) := by unfold Hid; rw [hH]
      have hHs : H.size ≤ 10000000 := by rw [← len_toList, HHl.out]; exact hs3
      rw [← hN] at c1 HQN
      rw [← hL] at c2 HQL
      rw [← hH] at c3
      have eLl : L.data.toList = lo := by rw [hL]
      have HQN' : Hid (∀ W, Calls Tryz.prog 12 #[.string N] W fun e w' => ∃ T : ByteArray, e = .returned (.string T) ∧ T.data.toList = quoteL nm ∧ W = w') := by
        intro W
        have := HQN.out W
        rwa [HNl.out] at this
      have HQL' : Hid (∀ W, Calls Tryz.prog 12 #[.string L] W fun e w' => ∃ T : ByteArray, e = .returned (.string T) ∧ T.data.toList = quoteL lo ∧ W = w') := by
        intro W
        have := HQL.out W
        rwa [eLl] at this
      have HST := Lib.hid hstep
      have hqn := quoteL_len nm
      have hql := quoteL_len lo
      clear hN hL hH hil2 hstep eLl HQN HQL
      clear ha
      go_upto_region 5 with fail
      go_cut [29] (fun v29 wx => ∃ B : Bool, v29 = .bool B ∧ Hid (sepL (lastK none (l.take i)) K = if B then [44, 32] else []) ∧ w = wx)
      case first =>
        by_cases hi0 : i = 0
        · have HSep : Hid (sepL (lastK none (l.take i)) K = if false = true then [44, 32] else []) := by unfold Hid; rw [hi0]; rfl
          have bi1 : ¬ (0 : Int) < (i : Int) := by omega
          have bi2 : decide ((0 : Int) < (i : Int)) = false := decide_eq_false bi1
          have HI0 := Lib.hid hi0
          clear hi0
          go_wp2_with fail
          go_meet
          exact ⟨false, rfl, HSep, rfl⟩
        · obtain ⟨j, hj⟩ : ∃ j, i = j + 1 := ⟨i - 1, by omega⟩
          have hjl : j < l.length := by omega
          obtain ⟨_, _, e0, _, y0, _, _, _⟩ := HC.out j hjl
          cases e0
          have hlast := lastK_at l j hjl
          rw [← hj] at hlast
          obtain ⟨P, hP⟩ : ∃ P, P = l[j].kind := ⟨_, rfl⟩
          rw [← hP] at y0 hlast
          have ei : (i : Int) - 1 = (j : Int) := by omega
          have hi0' : (0 : Int) < (i : Int) := by omega
          have hjn : j < n := by omega
          have hjc : (j : Int) < (n : Int) := by omega
          clear hP
          have HJ := Lib.hid hj
          clear hj
          by_cases hP1 : P = 1
          · have bP : (P != 1) = false := by rw [hP1]; rfl
            have HSep : Hid (sepL (lastK none (l.take i)) K = if false = true then [44, 32] else []) := by unfold Hid; rw [hlast]; exact if_neg (fun h => h.1 hP1)
            clear hP1 hlast
            go_wp2_with fail
            go_meet
            exact ⟨false, rfl, HSep, rfl⟩
          · have bP : (P != 1) = true := by rw [bne, beq_no hP1]; rfl
            by_cases hK2 : K = 2
            · have bK : (K != 2) = false := by rw [hK2]; rfl
              have HSep : Hid (sepL (lastK none (l.take i)) K = if false = true then [44, 32] else []) := by unfold Hid; rw [hlast]; exact if_neg (fun h => h.2 hK2)
              clear hP1 hK2 hlast
              go_wp2_with fail
              go_meet
              exact ⟨false, rfl, HSep, rfl⟩
            · have bK : (K != 2) = true := by rw [bne, beq_no hK2]; rfl
              have HSep : Hid (sepL (lastK none (l.take i)) K = if true = true then [44, 32] else []) := by unfold Hid; rw [hlast]; exact if_pos ⟨hP1, hK2⟩
              clear hP1 hK2 hlast
              go_wp2_with fail
              go_meet
              exact ⟨true, rfl, HSep, rfl⟩
      case rest =>
        obtain ⟨B, rfl, HSep, rfl⟩ := hcut
        go_upto_if 29 with fail
        go_cut [3] (fun v3 wx => ∃ A1 : ByteArray, v3 = .string A1 ∧ A1.size ≤ A.size + 2 ∧ Hid (A1.data.toList = A.data.toList ++ sepL (lastK none (l.take i)) K) ∧ w = wx)
        case first =>
          cases B with
          | true =>
            go_wp2_with fail
            go_meet
            exact ⟨A ++ ⟨#[44, 32]⟩, rfl, by simp only [ByteArray.size_append]; exact Nat.le_refl _, by unfold Hid; rw [HSep.out, cat_toList]; rfl, rfl⟩
          | false =>
            go_wp2_with fail
            go_meet
            exact ⟨A, rfl, by omega, by unfold Hid; rw [HSep.out]; simp, rfl⟩
        case rest =>
          obtain ⟨A1, rfl, hA1s, HA1, rfl⟩ := hcut
          by_cases k0 : K = 0
          · have bk0 : (K == 0) = true := beq_yes k0
            have bk1 : (K == 1) = false := beq_no (by omega)
            have bk2 : (K == 2) = false := beq_no (by omega)
            have HI : Hid (itemX ⟨K, nm, lo, ho⟩ = (if nm = [] then [] else quoteL nm ++ [32]) ++ [60] ++ quoteL lo ++ (if ho = [] then [] else 64 :: ho) ++ [62]) := if_pos k0
            clear k0
            go_upto_if 43 with fail
            go_cut [3] (fun v3 wx => ∃ A2 : ByteArray, v3 = .string A2 ∧ A2.size ≤ A1.size + 30000001 ∧ Hid (A2.data.toList = A1.data.toList ++ (if nm = [] then [] else quoteL nm ++ [32])) ∧ w = wx)
            case first =>
              by_cases hn : N.data.toList = []
              · obtain ⟨n1, n2, n3⟩ := nil_bools N hn
                have hn' : nm = [] := by rw [← HNl.out]; exact hn
                have HE : Hid ((if nm = [] then [] else quoteL nm ++ [32]) = ([] : List UInt8)) := if_pos hn'
                clear hn hn'
                try rw [n1]
                go_wp2_with fail
                go_meet
                exact ⟨A1, rfl, by omega, by unfold Hid; rw [HE.out, List.append_nil], rfl⟩
              · obtain ⟨n1, n2, n3⟩ := cons_bools N hn
                have hn' : ¬ nm = [] := by rw [← HNl.out]; exact hn
                have HE : Hid ((if nm = [] then [] else quoteL nm ++ [32]) = quoteL nm ++ [32]) := if_neg hn'
                clear hn hn'
                try rw [n1]
                go_wp2_with fail
                refine (HQN'.out _).mono ?_
                rintro e w5 ⟨QN, rfl, hQN, rfl⟩
                have hQNs : QN.size ≤ 30000000 := by rw [← len_toList, hQN]; omega
                have HQNe := Lib.hid hQN
                clear hQN
                go_wp2_with fail
                go_meet
                exact ⟨A1 ++ (QN ++ ⟨#[32]⟩), rfl, by simp only [ByteArray.size_append]; show A1.size + (QN.size + 1) ≤ _; omega, by unfold Hid; rw [HE.out, cat_toList, cat_toList, HQNe.out], rfl⟩
            case rest =>
              obtain ⟨A2, rfl, hA2s, HA2, rfl⟩ := hcut
              have hA2m : A2.size ≤ i * 100000000 + 30000003 := by omega
              clear hA2s
              go_wp2_with fail
              refine (HQL'.out _).mono ?_
              rintro e w6 ⟨QL, rfl, hQL, rfl⟩
              have hQLs : QL.size ≤ 30000000 := by rw [← len_toList, hQL]; omega
              have HQLe := Lib.hid hQL
              clear hQL
              go_upto_if 67 with fail
              go_cut [3] (fun v3 wx => ∃ A4 : ByteArray, v3 = .string A4 ∧ A4.size ≤ A2.size + 40000002 ∧ Hid (A4.data.toList = A2.data.toList ++ ([60] ++ quoteL lo) ++ (if ho = [] then [] else 64 :: ho)) ∧ w = wx)
              case first =>
                by_cases hh : H.data.toList = []
                · obtain ⟨h1, h2, h3⟩ := nil_bools H hh
                  have hh' : ho = [] := by rw [← HHl.out]; exact hh
                  have HE : Hid ((if ho = [] then [] else 64 :: ho) = ([] : List UInt8)) := if_pos hh'
                  clear hh hh'
                  try rw [h1]
                  go_wp2_with fail
                  go_meet
                  exact ⟨A2 ++ (⟨#[60]⟩ ++ QL), rfl, by simp only [ByteArray.size_append]; show A2.size + (1 + QL.size) ≤ _; omega, by unfold Hid; rw [HE.out, cat_toList, cat_toList, HQLe.out, List.append_nil], rfl⟩
                · obtain ⟨h1, h2, h3⟩ := cons_bools H hh
                  have hh' : ¬ ho = [] := by rw [← HHl.out]; exact hh
                  have HE : Hid ((if ho = [] then [] else 64 :: ho) = 64 :: ho) := if_neg hh'
                  clear hh hh'
                  try rw [h1]
                  go_wp2_with fail
                  go_meet
                  exact ⟨A2 ++ (⟨#[60]⟩ ++ QL) ++ (⟨#[64]⟩ ++ H), rfl, by simp only [ByteArray.size_append]; show A2.size + (1 + QL.size) + (1 + H.size) ≤ _; omega, by unfold Hid; rw [HE.out, cat_toList, cat_toList, cat_toList, cat_toList, HQLe.out, HHl.out]; rfl, rfl⟩
              case rest =>
                obtain ⟨A4, rfl, hA4s, HA4, rfl⟩ := hcut
                have hz3 : (A4 ++ ⟨#[62]⟩).size ≤ (i + 1) * 100000000 := by simp only [ByteArray.size_append]; show A4.size + 1 ≤ _; omega
                have HZ3 := Lib.hid hz3
                have hA4m : A4.size ≤ 1000000000000 := by omega
                have HZ : Hid ((A4 ++ ⟨#[62]⟩).data.toList = A1.data.toList ++ itemX ⟨K, nm, lo, ho⟩) := by
                  unfold Hid
                  rw [HI.out, cat_toList, HA4.out, HA2.out]
                  simp
                clear hz3 hA4s hA2m
                go_wp2_with fail
                go_roundg (n - (i + 1))
                case measure => omega
                case rel => exact ⟨i + 1, A4 ++ ⟨#[62]⟩, rfl, by omega, by go_num, rfl, HZ3.out, by unfold Hid; rw [HZ.out, HA1.out, HST.out, ← HA.out, List.append_assoc], rfl⟩
          · have bk0 : (K == 0) = false := beq_no k0
            by_cases k1 : K = 1
            · have bk1 : (K == 1) = true := beq_yes k1
              have bk2 : (K == 2) = false := beq_no (by omega)
              have HI : Hid (itemX ⟨K, nm, lo, ho⟩ = quoteL nm ++ [58]) := by unfold Hid itemX; rw [if_neg k0, if_pos k1]
              clear k0 k1
              go_wp2_with fail
              refine (HQN'.out _).mono ?_
              rintro e w5 ⟨QN, rfl, hQN, rfl⟩
              have hQNs : QN.size ≤ 30000000 := by rw [← len_toList, hQN]; omega
              have HQNe := Lib.hid hQN
              clear hQN
              have hz : (A1 ++ (QN ++ ⟨#[58]⟩)).data.toList = A1.data.toList ++ itemX ⟨K, nm, lo, ho⟩ := by
                rw [HI.out]
                simp [HQNe.out]
              have hz2 := congrArg List.length hz
              rw [len_toList, List.length_append, len_toList] at hz2
              have hzi := itemX_len ⟨K, nm, lo, ho⟩
              have hz3 : (A1 ++ (QN ++ ⟨#[58]⟩)).size ≤ (i + 1) * 100000000 := by
                simp only at hzi
                omega
              have HZ := Lib.hid hz
              have HZ3 := Lib.hid hz3
              clear hz hz2 hzi hz3
              go_wp2_with fail
              go_roundg (n - (i + 1))
              case measure => omega
              case rel => exact ⟨i + 1, A1 ++ (QN ++ ⟨#[58]⟩), rfl, by omega, by go_num, rfl, HZ3.out, by unfold Hid; rw [HZ.out, HA1.out, HST.out, ← HA.out, List.append_assoc], rfl⟩
            · have bk1 : (K == 1) = false := beq_no k1
              by_cases k2 : K = 2
              · have bk2 : (K == 2) = true := beq_yes k2
                have HI : Hid (itemX ⟨K, nm, lo, ho⟩ = [59]) := by unfold Hid itemX; rw [if_neg k0, if_neg k1, if_pos k2]
                clear k0 k1 k2
                have hz : (A1 ++ ⟨#[59]⟩).data.toList = A1.data.toList ++ itemX ⟨K, nm, lo, ho⟩ := by
                  rw [HI.out]
                  simp
                have hz2 := congrArg List.length hz
                rw [len_toList, List.length_append, len_toList] at hz2
                have hzi := itemX_len ⟨K, nm, lo, ho⟩
                have hz3 : (A1 ++ ⟨#[59]⟩).size ≤ (i + 1) * 100000000 := by
                  simp only at hzi
                  omega
                have HZ := Lib.hid hz
                have HZ3 := Lib.hid hz3
                clear hz hz2 hzi hz3
                go_wp2_with fail
                go_roundg (n - (i + 1))
                case measure => omega
                case rel => exact ⟨i + 1, A1 ++ ⟨#[59]⟩, rfl, by omega, by go_num, rfl, HZ3.out, by unfold Hid; rw [HZ.out, HA1.out, HST.out, ← HA.out, List.append_assoc], rfl⟩
              · have bk2 : (K == 2) = false := beq_no k2
                have HI : Hid (itemX ⟨K, nm, lo, ho⟩ = []) := by unfold Hid itemX; rw [if_neg k0, if_neg k1, if_neg k2]
                clear k0 k1 k2
                have hz : (A1).data.toList = A1.data.toList ++ itemX ⟨K, nm, lo, ho⟩ := by
                  rw [HI.out]
                  simp
                have hz2 := congrArg List.length hz
                rw [len_toList, List.length_append, len_toList] at hz2
                have hzi := itemX_len ⟨K, nm, lo, ho⟩
                have hz3 : (A1).size ≤ (i + 1) * 100000000 := by
                  simp only at hzi
                  omega
                have HZ := Lib.hid hz
                have HZ3 := Lib.hid hz3
                clear hz hz2 hzi hz3
                go_wp2_with fail
                go_roundg (n - (i + 1))
                case measure => omega
                case rel => exact ⟨i + 1, A1, rfl, by omega, by go_num, rfl, HZ3.out, by unfold Hid; rw [HZ.out, HA1.out, HST.out, ← HA.out, List.append_assoc], rfl⟩
    · have hA' : A.data.toList = textA none l := by have := HA.out; rwa [List.take_of_length_le (by rw [← HN.out]; omega)] at this
      go_wp2_with fail
      go_ret
      exact ⟨A, rfl, hA', rfl⟩
end Go.Proofs.YtjlcphofkepajaaGreat
