/- Contracts of the document's layer 7: what is skipped, a token. -/
import Derived.Test.YtcnihodikpcfkaaGreatDoorParW
namespace Go.Proofs.YtcnihodikpcfkaaGreatDoor
open Go Go.RowKit

theorem behind_toList (s : ByteArray) (k : Nat) : (s.extract k s.size).data.toList = s.data.toList.drop k := by
  rw [extract_toList, List.take_of_length_le (by rw [List.length_drop, len_toList]; exact Nat.le_refl _)]
set_option maxHeartbeats 1000000 in
theorem refComment_any (s : ByteArray) (w : World) (hl : s.size ≤ 1000000000) (hk : 0 < s.size) (h40 : s[0].toNat = 40) :
    Calls Tryz.prog 36 #[.string s] w fun e w' => ∃ T : ByteArray, e = .returned (.string T) ∧ T.size < s.size ∧ sk s.data.toList = sk T.data.toList ∧ w = w' := by
  have H40 := Lib.hid h40
  clear h40
  go_enter Tryz.func36, Tryz.ntmps36
  go_wp2_with fail
  go_loopg [3, 4] (s.size + 1) (fun g v5 v1 wr => ∃ j d : Nat, g = s.size + 1 - j ∧ j ≤ s.size + 1 ∧ v1 = .int .i64 (j : Int) ∧ v5 = .int .i64 (d : Int) ∧ d ≤ j ∧ ((j = 0 ∧ d = 0) ∨ (0 < j ∧ 1 ≤ d)) ∧ Hid (sk s.data.toList = skL false d (s.data.toList.drop j)) ∧ w = wr)
  case atStart => exact ⟨0, 0, by omega, by omega, rfl, rfl, by omega, .inl ⟨rfl, rfl⟩, rfl, rfl⟩
  case round =>
    obtain ⟨j, d, rfl, hj, rfl, rfl, hdj, hjd, HS, rfl⟩ := hrel
    by_cases hlt : j < s.size
    · have HD := Lib.hid (drop_cons s j hlt)
      rw [HD.out] at HS
      have HC := Lib.hid (fun (a : Nat) (h : s[j].toNat = a) (h2 : a < 256) => toNat_eq (a := s[j]) (b := byteN a) (by rw [h, byteN_toNat a h2]))
      by_cases h92 : s[j].toNat = 92
      · have hd1 : 1 ≤ d := by
          rcases hjd with ⟨e, _⟩ | ⟨h1, h2⟩
          · subst e; have := H40.out; omega
          · exact h2
        have b1 : (((s[j].toNat : Nat) : Int) == 92) = true := beq_yes (by omega)
        have HC1 := Lib.hid (HC.out 92 h92 (by omega))
        clear HC
        go_wp2_with fail
        go_roundg (s.size + 1 - (j + 2))
        case measure => omega
        case rel =>
          refine ⟨j + 2, d, rfl, by omega, by go_num, rfl, by omega, .inr ⟨by omega, hd1⟩, ?_, rfl⟩
          unfold Hid
          obtain ⟨d', rfl⟩ : ∃ d', d = d' + 1 := ⟨d - 1, by omega⟩
          rw [HS.out, HC1.out]
          refine (skL_stroke _ _).trans ?_
          rw [List.drop_drop]
      · have b1 : (((s[j].toNat : Nat) : Int) == 92) = false := beq_no (by omega)
        have HN1 : Hid (s[j] ≠ 92) := fun e => h92 (by rw [e]; rfl)
        by_cases h40 : s[j].toNat = 40
        · have b2 : (((s[j].toNat : Nat) : Int) == 40) = true := beq_yes (by omega)
          have HC1 := Lib.hid (HC.out 40 h40 (by omega))
          clear HC
          go_wp2_with fail
          go_roundg (s.size + 1 - (j + 1))
          case measure => omega
          case rel =>
            refine ⟨j + 1, d + 1, rfl, by omega, by go_num, by go_num, by omega, .inr ⟨by omega, by omega⟩, ?_, rfl⟩
            unfold Hid
            rw [HS.out, HC1.out]
            exact skL_open _ _
        · have b2 : (((s[j].toNat : Nat) : Int) == 40) = false := beq_no (by omega)
          have HN2 : Hid (s[j] ≠ 40) := fun e => h40 (by rw [e]; rfl)
          have hd1 : 1 ≤ d := by
            rcases hjd with ⟨e, _⟩ | ⟨h1, h2⟩
            · subst e; exact absurd H40.out h40
            · exact h2
          by_cases h41 : s[j].toNat = 41
          · have b3 : (((s[j].toNat : Nat) : Int) == 41) = true := beq_yes (by omega)
            have HC1 := Lib.hid (HC.out 41 h41 (by omega))
            clear HC
            by_cases hd : d = 1
            · subst hd
              go_wp2_with fail
              go_ret
              refine ⟨s.extract (j + 1) s.size, by go_num, ?_, ?_, rfl⟩
              · rw [extract_size' s _ _ (Nat.le_refl _)]
                omega
              · rw [HS.out, HC1.out, behind_toList]
                exact skL_shut 0 _
            · have b4 : (((d : Int) - 1) == 0) = false := beq_no (by omega)
              go_wp2_with fail
              go_roundg (s.size + 1 - (j + 1))
              case measure => omega
              case rel =>
                refine ⟨j + 1, d - 1, rfl, by omega, by go_num, by go_num, by omega, .inr ⟨by omega, by omega⟩, ?_, rfl⟩
                unfold Hid
                obtain ⟨d', rfl⟩ : ∃ d', d = d' + 1 := ⟨d - 1, by omega⟩
                rw [HS.out, HC1.out]
                exact skL_shut _ _
          · have b3 : (((s[j].toNat : Nat) : Int) == 41) = false := beq_no (by omega)
            have HN3 : Hid (s[j] ≠ 41) := fun e => h41 (by rw [e]; rfl)
            clear HC
            go_wp2_with fail
            go_roundg (s.size + 1 - (j + 1))
            case measure => omega
            case rel =>
              refine ⟨j + 1, d, rfl, by omega, by go_num, rfl, by omega, .inr ⟨by omega, hd1⟩, ?_, rfl⟩
              unfold Hid
              obtain ⟨d', rfl⟩ : ∃ d', d = d' + 1 := ⟨d - 1, by omega⟩
              rw [HS.out]
              exact skL_other _ _ _ HN1.out HN2.out HN3.out
    · have HE : Hid (s.data.toList.drop j = []) := List.drop_eq_nil_of_le (by simp; omega)
      go_wp2_with fail
      go_ret
      refine ⟨⟨#[]⟩, rfl, hk, ?_, rfl⟩
      rw [HS.out, HE.out, skL_nil]
      rfl

set_option maxHeartbeats 1000000 in
theorem refSkip_any (s : ByteArray) (w : World) (hl : s.size ≤ 1000000000) :
    Calls Tryz.prog 21 #[.string s] w fun e w' => ∃ T : ByteArray, e = .returned (.string T) ∧ T.data.toList = sk s.data.toList ∧ T.size ≤ s.size ∧ w = w' := by
  have HCm := Lib.hid (fun (T : ByteArray) h1 h2 h3 => refComment_any T w h1 h2 h3)
  go_enter Tryz.func21, Tryz.ntmps21
  go_wp2_with fail
  go_loopg [0] s.size (fun g v0 wr => ∃ T : ByteArray, g = T.size ∧ T.size ≤ s.size ∧ v0 = .string T ∧ Hid (sk s.data.toList = sk T.data.toList) ∧ w = wr)
  case atStart => exact ⟨s, rfl, Nat.le_refl _, rfl, rfl, rfl⟩
  case round =>
    obtain ⟨T, rfl, hT, rfl, HS, rfl⟩ := hrel
    by_cases h0 : 0 < T.size
    · have hne : (T.toList == []) = false := by
        rw [ByteArray.toList_eq]
        have : T.data.toList ≠ [] := fun e => by rw [← len_toList, e] at h0; simp at h0
        simpa using this
      have HD : Hid (T.data.toList = T[0] :: T.data.toList.drop 1) := drop_cons T 0 h0
      by_cases h40 : T[0].toNat = 40
      · have b1 : (((T[0].toNat : Nat) : Int) == 40) = true := beq_yes (by omega)
        have HCt := Lib.hid (HCm.out T (by omega) h0 h40)
        clear HCm h40
        go_wp2_with fail
        with_reducible refine HCt.out.mono ?_
        rintro e w1 ⟨T', rfl, hlt, hsk, rfl⟩
        have HSk := Lib.hid hsk
        clear hsk
        go_wp2_with fail
        go_roundg T'.size
        case measure => omega
        case rel => exact ⟨T', rfl, by omega, rfl, by unfold Hid; rw [HS.out, HSk.out], rfl⟩
      · have b1 : (((T[0].toNat : Nat) : Int) == 40) = false := beq_no (by omega)
        have HN : Hid (T[0] ≠ 40) := fun e => h40 (by rw [e]; rfl)
        clear HCm
        by_cases hb : blk T[0] = true
        · have HX : Hid (sk T.data.toList = sk (T.extract 1 T.size).data.toList) := by
            unfold Hid
            rw [behind_toList]
            conv => lhs; rw [HD.out]
            exact sk_blank _ hb
          have hor : T[0].toNat = 32 ∨ T[0].toNat = 9 := by
            have := of_decide_eq_true hb
            omega
          rcases hor with h | h
          · have b2 : (((T[0].toNat : Nat) : Int) == 32) = true := beq_yes (by omega)
            clear h h40 hb
            go_wp2_with fail
            go_roundg (T.size - 1)
            case measure => omega
            case rel => exact ⟨T.extract 1 T.size, by rw [extract_size' T _ _ (Nat.le_refl _)], by rw [extract_size' T _ _ (Nat.le_refl _)]; omega, by go_num, by unfold Hid; rw [HS.out, HX.out], rfl⟩
          · have b2 : (((T[0].toNat : Nat) : Int) == 32) = false := beq_no (by omega)
            have b3 : (((T[0].toNat : Nat) : Int) == 9) = true := beq_yes (by omega)
            clear h h40 hb
            go_wp2_with fail
            go_roundg (T.size - 1)
            case measure => omega
            case rel => exact ⟨T.extract 1 T.size, by rw [extract_size' T _ _ (Nat.le_refl _)], by rw [extract_size' T _ _ (Nat.le_refl _)]; omega, by go_num, by unfold Hid; rw [HS.out, HX.out], rfl⟩
        · have hb' : blk T[0] = false := by simpa using hb
          have hnor := of_decide_eq_false hb'
          have b2 : (((T[0].toNat : Nat) : Int) == 32) = false := beq_no (by omega)
          have b3 : (((T[0].toNat : Nat) : Int) == 9) = false := beq_no (by omega)
          have HX : Hid (sk T.data.toList = T.data.toList) := by
            unfold Hid
            rw [HD.out]
            exact sk_stay _ hb' HN.out
          clear hb hb' hnor h40
          go_wp2_with fail
          go_ret
          exact ⟨T, rfl, by rw [HS.out, HX.out], hT, rfl⟩
    · have hne : (T.toList == []) = true := by
        rw [ByteArray.toList_eq]
        have : T.data.toList = [] := List.eq_nil_of_length_eq_zero (by rw [len_toList]; omega)
        rw [this]
        rfl
      have HX : Hid (T.data.toList = []) := List.eq_nil_of_length_eq_zero (by rw [len_toList]; omega)
      go_wp2_with fail
      go_ret
      exact ⟨T, rfl, by rw [HS.out, HX.out]; rfl, hT, rfl⟩

set_option maxHeartbeats 1000000 in
theorem refTok_any (s : ByteArray) (w : World) (hl : s.size ≤ 1000000000) :
    Calls Tryz.prog 20 #[.string s] w fun e w' => ∃ T R : ByteArray, e = .returned (.tuple #[.string T, .string R]) ∧ T.data.toList = tokL s.data.toList ∧ R.data.toList = s.data.toList.drop (tokL s.data.toList).length ∧ Below w.heap.size w w' := by
  have HT := Lib.hid (fun (c : UInt8) => refToken_any (c.toNat : Int) w)
  go_enter Tryz.func20, Tryz.ntmps20
  go_wp2_with fail
  go_loopg [4] s.size (fun g v1 wr => ∃ j : Nat, g = s.size - j ∧ j ≤ s.size ∧ v1 = .int .i64 (j : Int) ∧ Hid (tokL s.data.toList = s.data.toList.take j ++ tokL (s.data.toList.drop j)) ∧ w = wr)
  case atStart => exact ⟨0, by omega, by omega, rfl, rfl, rfl⟩
  case round =>
    obtain ⟨j, rfl, hj, rfl, HS, rfl⟩ := hrel
    by_cases hlt : j < s.size
    · have HD := Lib.hid (drop_cons s j hlt)
      have HTj := Lib.hid (HT.out s[j])
      have hte : tokenI (s[j].toNat : Int) = tokB s[j] := rfl
      rw [hte] at HTj
      clear hte
      rcases Bool.eq_false_or_eq_true (tokB s[j]) with ht | ht
      · rw [ht] at HTj
        have HL : Hid (tokL (s.data.toList.drop j) = s[j] :: tokL (s.data.toList.drop (j + 1))) := by unfold Hid; rw [HD.out]; unfold tokL; rw [List.takeWhile_cons, if_pos ht]
        clear ht
        go_wp2_with fail
        with_reducible refine HTj.out.mono ?_
        rintro e w1 ⟨rfl, rfl⟩
        go_wp2_with fail
        go_roundg (s.size - (j + 1))
        case measure => omega
        case rel =>
          refine ⟨j + 1, rfl, by omega, by go_num, ?_, rfl⟩
          unfold Hid
          rw [HS.out, HL.out, take_snoc s j hlt, List.append_assoc]
          rfl
      · rw [ht] at HTj
        have HL : Hid (tokL (s.data.toList.drop j) = []) := by unfold Hid; rw [HD.out]; unfold tokL; rw [List.takeWhile_cons, if_neg (by rw [ht]; simp)]
        clear ht
        go_wp2_with fail
        with_reducible refine HTj.out.mono ?_
        rintro e w1 ⟨rfl, rfl⟩
        go_wp2_with fail
        go_quiet (fail)
        go_wp2_with fail
        go_ret2
        refine ⟨s.extract 0 j, s.extract j s.size, rfl, ?_, ?_, below_drewN' _⟩
        · rw [HS.out, HL.out, List.append_nil, extract_toList]
          rfl
        · rw [HS.out, HL.out, List.append_nil, behind_toList, List.length_take, len_toList, Nat.min_eq_left hj]
    · have HE : Hid (s.data.toList.drop j = []) := List.drop_eq_nil_of_le (by simp; omega)
      have HE2 : Hid (s.data.toList.take j = s.data.toList) := List.take_of_length_le (by simp; omega)
      go_wp2_with fail
      go_ret2
      refine ⟨s, ⟨#[]⟩, rfl, ?_, ?_, Below.refl _ _⟩
      · rw [HS.out, HE.out, HE2.out]
        exact (List.append_nil _).symm
      · rw [HS.out, HE.out, HE2.out]
        show [] = _
        rw [List.drop_eq_nil_of_le (by simp)]
end Go.Proofs.YtcnihodikpcfkaaGreatDoor
