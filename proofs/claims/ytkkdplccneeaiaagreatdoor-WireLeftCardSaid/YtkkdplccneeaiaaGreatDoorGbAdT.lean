/- Contracts of the document's layer 7: a quoted text. -/
import Derived.Test.YtkkdplccneeaiaaGreatDoorGbParE
import Derived.Test.YtkkdplccneeaiaaGreatDoorGbParF
namespace Go.Proofs.YtkkdplccneeaiaaGreatDoor
open Go Go.RowKit

theorem bytes_one7 (s : ByteArray) (k : Nat) (h : k < s.size) : (s.extract k (k + 1)).data.toList = [s[k]] := by
  rw [extract_toList, drop_cons s k h, Nat.add_sub_cancel_left]
  rfl


set_option maxHeartbeats 1000000 in
theorem refQuotedT_any (s : ByteArray) (w : World) (hl : s.size ≤ 100000000) :
    Calls Tryz.prog 23 #[.string s] w fun e w' => ∃ T : ByteArray, e = .returned (.string T) ∧ T.data.toList = quoteL s.data.toList ∧ w = w' := by
  go_enter Tryz.func23, Tryz.ntmps23
  go_wp2_with fail
  go_loopg [3, 4] s.size (fun g v3 v4 wr => ∃ (j : Nat) (T : ByteArray), g = s.size - j ∧ j ≤ s.size ∧ v4 = .int .i64 (j : Int) ∧ v3 = .string T ∧ T.size ≤ 1 + 2 * j ∧ Hid (T.data.toList = [34] ++ escL (s.data.toList.take j)) ∧ w = wr)
  case atStart => exact ⟨0, ⟨#[34]⟩, by omega, by omega, rfl, rfl, by decide, rfl, rfl⟩
  case round =>
    obtain ⟨j, T, rfl, hj, rfl, rfl, hT, HS, rfl⟩ := hrel
    by_cases hlt : j < s.size
    · have HTk : Hid (escL (s.data.toList.take (j + 1)) = escL (s.data.toList.take j) ++ escB s[j]) := by
        unfold Hid
        rw [take_snoc s j hlt, escL_app, escL_one]
      by_cases hh : hitB s[j] = true
      · have HB : Hid (escB s[j] = [92, s[j]]) := by unfold Hid escB; rw [if_pos hh]
        have hor : s[j].toNat = 34 ∨ (s[j].toNat ≠ 34 ∧ s[j].toNat = 92) := by
          unfold hitB at hh
          simp only [Bool.or_eq_true, beq_iff_eq] at hh
          rcases hh with h | h
          · left; rw [h]; rfl
          · right; rw [h]; exact ⟨by decide, rfl⟩
        clear hh
        have fin : ∀ U : ByteArray, U = T ++ ⟨#[92]⟩ ++ s.extract j (j + 1) → U.size ≤ 1 + 2 * (j + 1) ∧ U.data.toList = [34] ++ escL (s.data.toList.take (j + 1)) := by
          intro U hU
          subst hU
          constructor
          · rw [ByteArray.size_append, ByteArray.size_append, extract_size' s _ _ (by omega)]
            have : (⟨#[92]⟩ : ByteArray).size = 1 := rfl
            omega
          · rw [HTk.out, HB.out, cat_toList, cat_toList, HS.out, bytes_one7 s j hlt]
            simp
        have HF := Lib.hid fin
        clear fin
        rcases hor with h | ⟨h1, h⟩
        · have b1 : (((s[j].toNat : Nat) : Int) == 34) = true := beq_yes (by omega)
          clear h
          go_wp2_with fail
          go_roundg (s.size - (j + 1))
          case measure => omega
          case rel => exact ⟨j + 1, _, rfl, by omega, by go_num, rfl, (HF.out _ rfl).1, (HF.out _ rfl).2, rfl⟩
        · have b1 : (((s[j].toNat : Nat) : Int) == 34) = false := beq_no (by omega)
          have b2 : (((s[j].toNat : Nat) : Int) == 92) = true := beq_yes (by omega)
          clear h h1
          go_wp2_with fail
          go_roundg (s.size - (j + 1))
          case measure => omega
          case rel => exact ⟨j + 1, _, rfl, by omega, by go_num, rfl, (HF.out _ rfl).1, (HF.out _ rfl).2, rfl⟩
      · have HB : Hid (escB s[j] = [s[j]]) := by unfold Hid escB; rw [if_neg hh]
        have h34 : ¬ s[j].toNat = 34 := fun e => hh (by unfold hitB; rw [show s[j] = 34 from toNat_eq (by rw [e]; rfl)]; rfl)
        have h92 : ¬ s[j].toNat = 92 := fun e => hh (by unfold hitB; rw [show s[j] = 92 from toNat_eq (by rw [e]; rfl)]; rfl)
        have b1 : (((s[j].toNat : Nat) : Int) == 34) = false := beq_no (by omega)
        have b2 : (((s[j].toNat : Nat) : Int) == 92) = false := beq_no (by omega)
        clear hh h34 h92
        go_wp2_with fail
        go_roundg (s.size - (j + 1))
        case measure => omega
        case rel =>
          refine ⟨j + 1, T ++ s.extract j (j + 1), rfl, by omega, by go_num, rfl, ?_, ?_, rfl⟩
          · rw [ByteArray.size_append, extract_size' s _ _ (by omega)]
            omega
          · unfold Hid
            rw [HTk.out, HB.out, cat_toList, HS.out, bytes_one7 s j hlt, List.append_assoc]
    · have HE : Hid (s.data.toList.take j = s.data.toList) := List.take_of_length_le (by simp; omega)
      go_wp2_with fail
      go_ret
      refine ⟨T ++ ⟨#[34]⟩, rfl, ?_, rfl⟩
      rw [cat_toList, HS.out, HE.out]
      rfl
end Go.Proofs.YtkkdplccneeaiaaGreatDoor
