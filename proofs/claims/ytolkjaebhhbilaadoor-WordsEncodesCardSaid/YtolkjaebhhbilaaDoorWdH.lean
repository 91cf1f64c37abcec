/- The document's Encode. -/
import Derived.Test.YtolkjaebhhbilaaDoorWdG
import Derived.Test.YtolkjaebhhbilaaDoorB64K
namespace Go.Proofs.YtolkjaebhhbilaaDoor
open Go Go.RowKit

theorem getD_at {T : ByteArray} {k : Nat} (h : k < T.size) : T.data.toList.getD k 0 = T[k] := by
  rw [List.getD_eq_getElem?_getD, bytes_get T k h]
  rfl
set_option maxRecDepth 100000 in
set_option maxHeartbeats 4000000 in
theorem refEncode_any (s : ByteArray) (w : World) (hl : s.size ≤ 10000) :
    Calls Tryd.prog 9 #[.string s] w fun e w' => ∃ T : ByteArray, e = .returned (.string T) ∧ T.data.toList = encodeL s.data.toList ∧ w = w' := by
  have HPn := Lib.hid (fun (T : ByteArray) (h : T.size ≤ 45) W => plain_any T W (by omega))
  go_enter Tryd.func9, Tryd.ntmps9
  go_wp2_with fail
  go_loopg [0, 3, 4, 5] s.size (fun g v0 v3 v4 v5 wr => ∃ (T O : ByteArray), T.size ≤ g ∧ T.size ≤ s.size ∧ v0 = .string T ∧ v3 = .string O ∧ O.size + 17 * T.size ≤ 17 * s.size ∧ w = wr ∧ Hid (encodeL s.data.toList = restE O.data.toList T.data.toList))
  case atStart => exact ⟨s, ⟨#[]⟩, Nat.le_refl _, Nat.le_refl _, rfl, rfl, by show 0 + _ ≤ _; omega, rfl, rfl⟩
  case round =>
    obtain ⟨T, O, hTg, hTs, rfl, rfl, hOT, rfl, HE⟩ := hrel
    by_cases hT0 : 0 < T.size
    · have hse : (T.toList == []) = false := by rw [beq_eq_false_iff_ne]; intro e; rw [toList_nil_iff] at e; omega
      have hse2 : T.toList.isEmpty = false := by rw [← Bool.not_eq_true, List.isEmpty_iff]; intro e; rw [toList_nil_iff] at e; omega
      have hse3 : (T.toList != []) = true := by simp [bne, hse]
      by_cases h45 : T.size ≤ 45
      · have HN : Hid (T.size = takenN T.data.toList) := by unfold Hid takenN; rw [len_toList, if_pos h45]
        go_upto_if 11 with fail
        go_cut [4] (fun s4 wx => s4 = .int .i64 (T.size : Int) ∧ w = wx)
        case first =>
          by_cases h46 : T.size = 45
          · have h45i : ¬ (T.size : Int) < 45 := by omega
            go_wp2_with fail
            go_meet
            exact ⟨by rw [h46]; rfl, rfl⟩
          · have h45i : (T.size : Int) < 45 := by omega
            go_wp2_with fail
            go_meet
            exact ⟨rfl, rfl⟩
        case rest =>
          obtain ⟨rfl, rfl⟩ := hcut
          have htp : (0 : Int) < (T.size : Int) := by omega
          go_wp2_with fail
          go_loopg [5] 1 (fun g v5 wr => g = 1 ∧ v5 = .int .i64 (T.size : Int) ∧ w = wr)
          case atStart => exact ⟨rfl, rfl, rfl⟩
          case round =>
            obtain ⟨rfl, rfl, rfl⟩ := hrel
            go_upto_if 41 with fail
            go_cut [3] (fun s3 wx => (∃ P : ByteArray, s3 = .string P ∧ Hid (P.data.toList = sepE O.data.toList) ∧ P.size ≤ O.size + 1) ∧ w = wx)
            case first =>
              by_cases hO0 : O.size = 0
              · have ho1 : (O.toList == []) = true := by rw [beq_iff_eq, toList_nil_iff]; exact hO0
                have ho2 : O.toList.isEmpty = true := by rw [List.isEmpty_iff, toList_nil_iff]; exact hO0
                have ho3 : (O.toList != []) = false := by simp [bne, ho1]
                have HSp : Hid (O.data.toList = sepE O.data.toList) := by
                  unfold Hid
                  have : O.data.toList = [] := List.eq_nil_of_length_eq_zero (by rw [len_toList]; exact hO0)
                  rw [this]
                  rfl
                rw [ho2]
                go_wp2_with fail
                go_meet
                exact ⟨⟨O, rfl, HSp, by omega⟩, rfl⟩
              · have ho1 : (O.toList == []) = false := by rw [beq_eq_false_iff_ne]; intro e; rw [toList_nil_iff] at e; omega
                have ho2 : O.toList.isEmpty = false := by rw [← Bool.not_eq_true, List.isEmpty_iff]; intro e; rw [toList_nil_iff] at e; omega
                have ho3 : (O.toList != []) = true := by simp [bne, ho1]
                have HSp : Hid ((O ++ ⟨#[32]⟩).data.toList = sepE O.data.toList) := by
                  unfold Hid sepE
                  rw [if_neg (fun e => hO0 (by rw [← len_toList, e]; rfl)), cat_toList]
                have hzz : (O ++ (⟨#[32]⟩ : ByteArray)).size ≤ O.size + 1 := by rw [ByteArray.size_append]; exact Nat.le_refl _
                rw [ho2]
                go_wp2_with fail
                go_meet
                exact ⟨⟨O ++ ⟨#[32]⟩, rfl, HSp, hzz⟩, rfl⟩
            case rest =>
              obtain ⟨⟨P, rfl, HP, hPz⟩, rfl⟩ := hcut
              have HZ1 := Lib.hid (extract_size' T 0 T.size (by omega))
              have HZ2 : Hid (ByteArray.empty.size = T.size - T.size) := by unfold Hid; rw [Nat.sub_self]; rfl
              have HPl := Lib.hid (HPn.out T h45)
              have HX1 : Hid (T.data.toList.take T.size = T.data.toList) := by unfold Hid; rw [List.take_of_length_le (by simp)]
              have HX2 : Hid ((ByteArray.empty).data.toList = T.data.toList.drop T.size) := by unfold Hid; rw [List.drop_eq_nil_of_le (by simp)]; rfl
              have HTs : Hid (T.data.toList ≠ []) := by
                unfold Hid
                intro e
                have := congrArg List.length e
                rw [len_toList] at this
                rw [List.length_nil] at this
                omega
              go_wp2_with fail
              with_reducible refine (HPl.out _).mono ?_
              rintro e w1 ⟨Q, rfl, hQ, rfl⟩
              have hQz : Q.size ≤ 64 := by rw [bytes_len, hQ, enc_len, len_toList]; omega
              have HQ := Lib.hid hQ
              clear hQ
              go_wp2_with fail
              go_roundg (T.size - T.size)
              case measure => omega
              case rel =>
                have hres : (P ++ (((⟨#[61, 63, 117, 116, 102, 45, 56, 63, 66, 63]⟩ : ByteArray) ++ Q) ++ ⟨#[63, 61]⟩)).data.toList = sepE O.data.toList ++ pieceL (T.data.toList.take T.size) := by
                  rw [cat_toList, cat_toList, cat_toList, HP.out, HQ.out, HX1.out]
                  unfold pieceL openW
                  simp
                have hst := piece_step (out := O.data.toList) HTs.out HN.out (M := 17 * s.size) (by rw [len_toList, len_toList]; exact hOT)
                refine ⟨ByteArray.empty, _, by rw [HZ2.out]; exact Nat.le_refl _, by rw [HZ2.out]; omega, rfl, rfl, ?_, rfl, ?_⟩
                · rw [← hres, len_toList, ← HX2.out, len_toList] at hst
                  exact hst
                · unfold Hid
                  rw [HE.out, restE_step O.data.toList HTs.out, ← HN.out, hres, HX2.out]
      · have h45i : (45 : Int) < (T.size : Int) := by omega
        have h45j : ¬ (T.size : Int) < 45 := by omega
        have HN0 : Hid (takenN T.data.toList = if backL T.data.toList 45 = 0 then 45 else backL T.data.toList 45) := by unfold Hid takenN; rw [len_toList, if_neg h45]
        go_wp2_with fail
        go_loopg [5] 45 (fun g v5 wr => ∃ k : Nat, g = 0 + k ∧ k ≤ 45 ∧ v5 = .int .i64 (k : Int) ∧ Hid (backL T.data.toList 45 = backL T.data.toList k) ∧ w = wr)
        case atStart => exact ⟨45, by omega, Nat.le_refl _, rfl, rfl, rfl⟩
        case round =>
          obtain ⟨k, rfl, hk45, rfl, HK, rfl⟩ := hrel
          by_cases hk0 : 0 < k
          · obtain ⟨j, rfl⟩ : ∃ j, k = j + 1 := ⟨k - 1, by omega⟩
            have hkt : j + 1 < T.size := by omega
            have hg := getD_at hkt
            have hk0i : (0 : Int) < ((j + 1 : Nat) : Int) := by omega
            have hkti : ((j + 1 : Nat) : Int) < (T.size : Int) := by omega
            have hc := T[j + 1].toNat_lt
            by_cases q1 : T[j + 1].toNat < 128
            · have HNN : Hid (j + 1 = takenN T.data.toList) := by
                unfold Hid
                have hcb : contB (T.data.toList.getD (j + 1) 0) = false := by rw [hg]; unfold contB; exact decide_eq_false (by omega)
                have e : backL T.data.toList (j + 1) = j + 1 := by rw [backL, hcb, if_neg (by decide)]
                rw [HN0.out, HK.out, e, if_neg (by omega)]
              have HN := HNN
              have q1i : ((T[j + 1].toNat : Nat) : Int) < 128 := by omega
              clear hg
              go_upto_if 41 with fail
              go_cut [3] (fun s3 wx => (∃ P : ByteArray, s3 = .string P ∧ Hid (P.data.toList = sepE O.data.toList) ∧ P.size ≤ O.size + 1) ∧ w = wx)
              case first =>
                by_cases hO0 : O.size = 0
                · have ho1 : (O.toList == []) = true := by rw [beq_iff_eq, toList_nil_iff]; exact hO0
                  have ho2 : O.toList.isEmpty = true := by rw [List.isEmpty_iff, toList_nil_iff]; exact hO0
                  have ho3 : (O.toList != []) = false := by simp [bne, ho1]
                  have HSp : Hid (O.data.toList = sepE O.data.toList) := by
                    unfold Hid
                    have : O.data.toList = [] := List.eq_nil_of_length_eq_zero (by rw [len_toList]; exact hO0)
                    rw [this]
                    rfl
                  rw [ho2]
                  go_wp2_with fail
                  go_meet
                  exact ⟨⟨O, rfl, HSp, by omega⟩, rfl⟩
                · have ho1 : (O.toList == []) = false := by rw [beq_eq_false_iff_ne]; intro e; rw [toList_nil_iff] at e; omega
                  have ho2 : O.toList.isEmpty = false := by rw [← Bool.not_eq_true, List.isEmpty_iff]; intro e; rw [toList_nil_iff] at e; omega
                  have ho3 : (O.toList != []) = true := by simp [bne, ho1]
                  have HSp : Hid ((O ++ ⟨#[32]⟩).data.toList = sepE O.data.toList) := by
                    unfold Hid sepE
                    rw [if_neg (fun e => hO0 (by rw [← len_toList, e]; rfl)), cat_toList]
                  have hzz : (O ++ (⟨#[32]⟩ : ByteArray)).size ≤ O.size + 1 := by rw [ByteArray.size_append]; exact Nat.le_refl _
                  rw [ho2]
                  go_wp2_with fail
                  go_meet
                  exact ⟨⟨O ++ ⟨#[32]⟩, rfl, HSp, hzz⟩, rfl⟩
              case rest =>
                obtain ⟨⟨P, rfl, HP, hPz⟩, rfl⟩ := hcut
                have HZ1 := Lib.hid (extract_size' T 0 (j + 1) (by omega))
                have HZ2 := Lib.hid (extract_size' T (j + 1) T.size (by omega))
                have HPl := Lib.hid (HPn.out (T.extract 0 (j + 1)) (by rw [HZ1.out]; omega))
                have HX1 : Hid ((T.extract 0 (j + 1)).data.toList = T.data.toList.take (j + 1)) := by unfold Hid; rw [extract_toList]; simp
                have HX2 : Hid ((T.extract (j + 1) T.size).data.toList = T.data.toList.drop (j + 1)) := by unfold Hid; rw [extract_toList]; exact List.take_of_length_le (by simp)
                have HTs : Hid (T.data.toList ≠ []) := by
                  unfold Hid
                  intro e
                  have := congrArg List.length e
                  rw [len_toList] at this
                  rw [List.length_nil] at this
                  omega
                go_wp2_with fail
                with_reducible refine (HPl.out _).mono ?_
                rintro e w1 ⟨Q, rfl, hQ, rfl⟩
                have hQz : Q.size ≤ 64 := by rw [bytes_len, hQ, enc_len, len_toList, HZ1.out]; omega
                have HQ := Lib.hid hQ
                clear hQ
                go_wp2_with fail
                go_roundg (T.size - (j + 1))
                case measure => omega
                case rel =>
                  have hres : (P ++ (((⟨#[61, 63, 117, 116, 102, 45, 56, 63, 66, 63]⟩ : ByteArray) ++ Q) ++ ⟨#[63, 61]⟩)).data.toList = sepE O.data.toList ++ pieceL (T.data.toList.take (j + 1)) := by
                    rw [cat_toList, cat_toList, cat_toList, HP.out, HQ.out, HX1.out]
                    unfold pieceL openW
                    simp
                  have hst := piece_step (out := O.data.toList) HTs.out HN.out (M := 17 * s.size) (by rw [len_toList, len_toList]; exact hOT)
                  refine ⟨T.extract (j + 1) T.size, _, by rw [HZ2.out]; exact Nat.le_refl _, by rw [HZ2.out]; omega, rfl, rfl, ?_, rfl, ?_⟩
                  · rw [← hres, len_toList, ← HX2.out, len_toList] at hst
                    exact hst
                  · unfold Hid
                    rw [HE.out, restE_step O.data.toList HTs.out, ← HN.out, hres, HX2.out]
            · by_cases q2 : T[j + 1].toNat < 192
              · have HK2 : Hid (backL T.data.toList 45 = backL T.data.toList j) := by
                  unfold Hid
                  have hcb : contB (T.data.toList.getD (j + 1) 0) = true := by rw [hg]; unfold contB; exact decide_eq_true (by omega)
                  rw [HK.out, backL, hcb, if_pos rfl]
                have q1i : (128 : Int) ≤ ((T[j + 1].toNat : Nat) : Int) := by omega
                have q2i : ((T[j + 1].toNat : Nat) : Int) < 192 := by omega
                clear hg
                go_wp2_with fail
                go_roundg (0 + j)
                case measure => omega
                case rel => exact ⟨j, rfl, by omega, by go_num, HK2, rfl⟩
              · have HNN : Hid (j + 1 = takenN T.data.toList) := by
                  unfold Hid
                  have hcb : contB (T.data.toList.getD (j + 1) 0) = false := by rw [hg]; unfold contB; exact decide_eq_false (by omega)
                  have e : backL T.data.toList (j + 1) = j + 1 := by rw [backL, hcb, if_neg (by decide)]
                  rw [HN0.out, HK.out, e, if_neg (by omega)]
                have HN := HNN
                have q1i : (128 : Int) ≤ ((T[j + 1].toNat : Nat) : Int) := by omega
                have q2i : ¬ ((T[j + 1].toNat : Nat) : Int) < 192 := by omega
                clear hg
                go_upto_if 41 with fail
                go_cut [3] (fun s3 wx => (∃ P : ByteArray, s3 = .string P ∧ Hid (P.data.toList = sepE O.data.toList) ∧ P.size ≤ O.size + 1) ∧ w = wx)
                case first =>
                  by_cases hO0 : O.size = 0
                  · have ho1 : (O.toList == []) = true := by rw [beq_iff_eq, toList_nil_iff]; exact hO0
                    have ho2 : O.toList.isEmpty = true := by rw [List.isEmpty_iff, toList_nil_iff]; exact hO0
                    have ho3 : (O.toList != []) = false := by simp [bne, ho1]
                    have HSp : Hid (O.data.toList = sepE O.data.toList) := by
                      unfold Hid
                      have : O.data.toList = [] := List.eq_nil_of_length_eq_zero (by rw [len_toList]; exact hO0)
                      rw [this]
                      rfl
                    rw [ho2]
                    go_wp2_with fail
                    go_meet
                    exact ⟨⟨O, rfl, HSp, by omega⟩, rfl⟩
                  · have ho1 : (O.toList == []) = false := by rw [beq_eq_false_iff_ne]; intro e; rw [toList_nil_iff] at e; omega
                    have ho2 : O.toList.isEmpty = false := by rw [← Bool.not_eq_true, List.isEmpty_iff]; intro e; rw [toList_nil_iff] at e; omega
                    have ho3 : (O.toList != []) = true := by simp [bne, ho1]
                    have HSp : Hid ((O ++ ⟨#[32]⟩).data.toList = sepE O.data.toList) := by
                      unfold Hid sepE
                      rw [if_neg (fun e => hO0 (by rw [← len_toList, e]; rfl)), cat_toList]
                    have hzz : (O ++ (⟨#[32]⟩ : ByteArray)).size ≤ O.size + 1 := by rw [ByteArray.size_append]; exact Nat.le_refl _
                    rw [ho2]
                    go_wp2_with fail
                    go_meet
                    exact ⟨⟨O ++ ⟨#[32]⟩, rfl, HSp, hzz⟩, rfl⟩
                case rest =>
                  obtain ⟨⟨P, rfl, HP, hPz⟩, rfl⟩ := hcut
                  have HZ1 := Lib.hid (extract_size' T 0 (j + 1) (by omega))
                  have HZ2 := Lib.hid (extract_size' T (j + 1) T.size (by omega))
                  have HPl := Lib.hid (HPn.out (T.extract 0 (j + 1)) (by rw [HZ1.out]; omega))
                  have HX1 : Hid ((T.extract 0 (j + 1)).data.toList = T.data.toList.take (j + 1)) := by unfold Hid; rw [extract_toList]; simp
                  have HX2 : Hid ((T.extract (j + 1) T.size).data.toList = T.data.toList.drop (j + 1)) := by unfold Hid; rw [extract_toList]; exact List.take_of_length_le (by simp)
                  have HTs : Hid (T.data.toList ≠ []) := by
                    unfold Hid
                    intro e
                    have := congrArg List.length e
                    rw [len_toList] at this
                    rw [List.length_nil] at this
                    omega
                  go_wp2_with fail
                  with_reducible refine (HPl.out _).mono ?_
                  rintro e w1 ⟨Q, rfl, hQ, rfl⟩
                  have hQz : Q.size ≤ 64 := by rw [bytes_len, hQ, enc_len, len_toList, HZ1.out]; omega
                  have HQ := Lib.hid hQ
                  clear hQ
                  go_wp2_with fail
                  go_roundg (T.size - (j + 1))
                  case measure => omega
                  case rel =>
                    have hres : (P ++ (((⟨#[61, 63, 117, 116, 102, 45, 56, 63, 66, 63]⟩ : ByteArray) ++ Q) ++ ⟨#[63, 61]⟩)).data.toList = sepE O.data.toList ++ pieceL (T.data.toList.take (j + 1)) := by
                      rw [cat_toList, cat_toList, cat_toList, HP.out, HQ.out, HX1.out]
                      unfold pieceL openW
                      simp
                    have hst := piece_step (out := O.data.toList) HTs.out HN.out (M := 17 * s.size) (by rw [len_toList, len_toList]; exact hOT)
                    refine ⟨T.extract (j + 1) T.size, _, by rw [HZ2.out]; exact Nat.le_refl _, by rw [HZ2.out]; omega, rfl, rfl, ?_, rfl, ?_⟩
                    · rw [← hres, len_toList, ← HX2.out, len_toList] at hst
                      exact hst
                    · unfold Hid
                      rw [HE.out, restE_step O.data.toList HTs.out, ← HN.out, hres, HX2.out]
          · obtain rfl : k = 0 := by omega
            have HN : Hid (45 = takenN T.data.toList) := by
              unfold Hid
              rw [HN0.out, HK.out]
              rfl
            go_upto_if 41 with fail
            go_cut [3] (fun s3 wx => (∃ P : ByteArray, s3 = .string P ∧ Hid (P.data.toList = sepE O.data.toList) ∧ P.size ≤ O.size + 1) ∧ w = wx)
            case first =>
              by_cases hO0 : O.size = 0
              · have ho1 : (O.toList == []) = true := by rw [beq_iff_eq, toList_nil_iff]; exact hO0
                have ho2 : O.toList.isEmpty = true := by rw [List.isEmpty_iff, toList_nil_iff]; exact hO0
                have ho3 : (O.toList != []) = false := by simp [bne, ho1]
                have HSp : Hid (O.data.toList = sepE O.data.toList) := by
                  unfold Hid
                  have : O.data.toList = [] := List.eq_nil_of_length_eq_zero (by rw [len_toList]; exact hO0)
                  rw [this]
                  rfl
                rw [ho2]
                go_wp2_with fail
                go_meet
                exact ⟨⟨O, rfl, HSp, by omega⟩, rfl⟩
              · have ho1 : (O.toList == []) = false := by rw [beq_eq_false_iff_ne]; intro e; rw [toList_nil_iff] at e; omega
                have ho2 : O.toList.isEmpty = false := by rw [← Bool.not_eq_true, List.isEmpty_iff]; intro e; rw [toList_nil_iff] at e; omega
                have ho3 : (O.toList != []) = true := by simp [bne, ho1]
                have HSp : Hid ((O ++ ⟨#[32]⟩).data.toList = sepE O.data.toList) := by
                  unfold Hid sepE
                  rw [if_neg (fun e => hO0 (by rw [← len_toList, e]; rfl)), cat_toList]
                have hzz : (O ++ (⟨#[32]⟩ : ByteArray)).size ≤ O.size + 1 := by rw [ByteArray.size_append]; exact Nat.le_refl _
                rw [ho2]
                go_wp2_with fail
                go_meet
                exact ⟨⟨O ++ ⟨#[32]⟩, rfl, HSp, hzz⟩, rfl⟩
            case rest =>
              obtain ⟨⟨P, rfl, HP, hPz⟩, rfl⟩ := hcut
              have HZ1 := Lib.hid (extract_size' T 0 45 (by omega))
              have HZ2 := Lib.hid (extract_size' T 45 T.size (by omega))
              have HPl := Lib.hid (HPn.out (T.extract 0 45) (by rw [HZ1.out]; omega))
              have HX1 : Hid ((T.extract 0 45).data.toList = T.data.toList.take 45) := by unfold Hid; rw [extract_toList]; simp
              have HX2 : Hid ((T.extract 45 T.size).data.toList = T.data.toList.drop 45) := by unfold Hid; rw [extract_toList]; exact List.take_of_length_le (by simp)
              have HTs : Hid (T.data.toList ≠ []) := by
                unfold Hid
                intro e
                have := congrArg List.length e
                rw [len_toList] at this
                rw [List.length_nil] at this
                omega
              go_wp2_with fail
              with_reducible refine (HPl.out _).mono ?_
              rintro e w1 ⟨Q, rfl, hQ, rfl⟩
              have hQz : Q.size ≤ 64 := by rw [bytes_len, hQ, enc_len, len_toList, HZ1.out]; omega
              have HQ := Lib.hid hQ
              clear hQ
              go_wp2_with fail
              go_roundg (T.size - 45)
              case measure => omega
              case rel =>
                have hres : (P ++ (((⟨#[61, 63, 117, 116, 102, 45, 56, 63, 66, 63]⟩ : ByteArray) ++ Q) ++ ⟨#[63, 61]⟩)).data.toList = sepE O.data.toList ++ pieceL (T.data.toList.take 45) := by
                  rw [cat_toList, cat_toList, cat_toList, HP.out, HQ.out, HX1.out]
                  unfold pieceL openW
                  simp
                have hst := piece_step (out := O.data.toList) HTs.out HN.out (M := 17 * s.size) (by rw [len_toList, len_toList]; exact hOT)
                refine ⟨T.extract 45 T.size, _, by rw [HZ2.out]; exact Nat.le_refl _, by rw [HZ2.out]; omega, rfl, rfl, ?_, rfl, ?_⟩
                · rw [← hres, len_toList, ← HX2.out, len_toList] at hst
                  exact hst
                · unfold Hid
                  rw [HE.out, restE_step O.data.toList HTs.out, ← HN.out, hres, HX2.out]
    · have HX : Hid (T.data.toList = []) := List.eq_nil_of_length_eq_zero (by rw [len_toList]; omega)
      have hse : (T.toList == []) = true := by rw [beq_iff_eq, toList_nil_iff]; omega
      have hse2 : T.toList.isEmpty = true := by rw [List.isEmpty_iff, toList_nil_iff]; omega
      have hse3 : (T.toList != []) = false := by simp [bne, hse]
      go_wp2_with fail
      go_ret
      exact ⟨O, rfl, by rw [HE.out, HX.out, restE_nil], rfl⟩
end Go.Proofs.YtolkjaebhhbilaaDoor
