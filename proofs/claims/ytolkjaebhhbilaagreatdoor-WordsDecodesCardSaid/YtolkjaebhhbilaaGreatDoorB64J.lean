/- Contracts of the document's answers for base64: a letter, a letter's value, letters in one row. -/
import Derived.Test.YtolkjaebhhbilaaGreatDoorB64B
import Derived.Outline
import Derived.Deep.RegionWith
namespace Go.Proofs.YtolkjaebhhbilaaGreatDoor
open Go Go.RowKit

def lettersS : ByteArray := ⟨#[65, 66, 67, 68, 69, 70, 71, 72, 73, 74, 75, 76, 77, 78, 79, 80, 81, 82, 83, 84, 85, 86, 87, 88, 89, 90, 97, 98, 99, 100, 101, 102, 103, 104, 105, 106, 107, 108, 109, 110, 111, 112, 113, 114, 115, 116, 117, 118, 119, 120, 121, 122, 48, 49, 50, 51, 52, 53, 54, 55, 56, 57, 43, 47]⟩
theorem piece_letters (n : Nat) (h : n < 64) : (lettersS.extract n (n + 1)).data.toList = [letB n] := by
  rw [extract_toList]
  show (tabL.drop n).take (n + 1 - n) = [letB n]
  have hl : n < tabL.length := h
  rw [List.drop_eq_getElem_cons hl, Nat.add_sub_cancel_left, List.take_succ_cons, List.take_zero]
  unfold letB
  rw [List.getD_eq_getElem?_getD, List.getElem?_eq_getElem hl]
  rfl

/-- What a call of letter gives. -/
def LetterGot (w : World) (n : Nat) (e : Ending) (w' : World) : Prop := ∃ T : ByteArray, e = .returned (.string T) ∧ T.size = 1 ∧ T.data.toList = [letB n] ∧ w = w'
theorem letter_nat (n : Nat) (w : World) (h1 : n < 64) : Calls Tryz.prog 48 #[.int .i64 (n : Int)] w (LetterGot w n) := by
  have HP := Lib.hid (piece_letters n h1)
  have HZ := Lib.hid (extract_size' lettersS n (n + 1) (by show n + 1 ≤ 64; omega))
  unfold lettersS at HP HZ
  go_enter Tryz.func48, Tryz.ntmps48
  go_wp2
  go_ret
  refine ⟨_, rfl, ?_, HP.out, rfl⟩
  rw [HZ.out]
  omega
theorem letter_int (n : Int) (w : World) (h0 : 0 ≤ n) (h1 : n < 64) : Calls Tryz.prog 48 #[.int .i64 n] w (LetterGot w n.toNat) := by
  obtain ⟨m, rfl⟩ : ∃ m : Nat, n = (m : Int) := ⟨n.toNat, by omega⟩
  exact letter_nat m w (by omega)

set_option maxRecDepth 100000 in
set_option maxHeartbeats 1000000 in
theorem value_any (c : UInt8) (w : World) : Calls Tryz.prog 30 #[.int .u8 (c.toNat : Int)] w fun e w' => e = .returned (.int .i64 (valB c : Nat)) ∧ Below w.heap.size w w' := by
  go_enter Tryz.func30, Tryz.ntmps30
  go_wp2
  go_loopg [3] 64 (fun g v wr => ∃ k : Nat, k ≤ 64 ∧ g = 64 - k ∧ v = .int .i64 k ∧ Hid (∀ j, j < k → letB j ≠ c) ∧ Hid (Below w.heap.size w wr))
  case atStart => exact ⟨0, by omega, by omega, rfl, fun j hj => by omega, Below.refl _ _⟩
  case round =>
    obtain ⟨k, hk, rfl, rfl, HN, HB⟩ := hrel
    by_cases hlt : k < 64
    · obtain ⟨wo, rfl⟩ : ∃ wo : World, wo = wr := ⟨_, rfl⟩
      have hcv := conv_one wo c
      have hblt := HB.out.size
      by_cases he : letB k = c
      · have HE := Lib.hid he
        clear he
        go_wp2_with fail
        go_region_with (go_at_call 48; refine (letter_nat _ _ hlt).mono ?_; rintro e w1 ⟨T, rfl, hz, hT, rfl⟩)
        all_goals
          have ht : (T.toList == [c]) = true := by rw [ByteArray.toList_eq, hT, HE.out]; simp
          rw [ht]
          clear ht hT hz hcv
          go_wp2
          go_ret
          refine ⟨ret_int (by rw [← HE.out, valB_let k hlt]), ?_⟩
          exact (HB.out.alloc hblt _).drew
      · have HE := Lib.hid he
        clear he
        go_wp2_with fail
        go_region_with (go_at_call 48; refine (letter_nat _ _ hlt).mono ?_; rintro e w1 ⟨T, rfl, hz, hT, rfl⟩)
        all_goals
          have ht : (T.toList == [c]) = false := by
            rw [ByteArray.toList_eq, hT, beq_eq_false_iff_ne]
            intro h
            injection h with h
            exact HE.out h
          rw [ht]
          clear ht hT hz hcv
          go_wp2
          go_roundg (64 - (k + 1))
          case measure => omega
          case rel =>
            refine ⟨k + 1, by omega, rfl, by go_num, fun j hj => ?_, (HB.out.alloc hblt _).drew⟩
            rcases Nat.lt_or_ge j k with h | h
            · exact HN.out j h
            · obtain rfl : j = k := by omega
              exact HE.out
    · go_wp2
      go_ret
      refine ⟨ret_int ?_, HB.out⟩
      have : ¬ valB c < 64 := fun h => HN.out _ (by omega) (letB_val h)
      have := valB_le c
      omega
end Go.Proofs.YtolkjaebhhbilaaGreatDoor
