/- Contracts of the document's answers for base64: letters in one row. -/
import Derived.Test.YtolkjaebhhbilaaGreatDoorB64J
import Derived.Outline
namespace Go.Proofs.YtolkjaebhhbilaaGreatDoor
open Go Go.RowKit

set_option maxRecDepth 100000 in
set_option maxHeartbeats 1000000 in
theorem plain_any (s : ByteArray) (w : World) (hs : s.size ≤ 65536) :
    Calls Tryz.prog 31 #[.string s] w fun e w' => ∃ T : ByteArray, e = .returned (.string T) ∧ T.data.toList = encS s.data.toList ∧ w = w' := by
  go_enter Tryz.func31, Tryz.ntmps31
  go_wp2
  go_loopg [3, 4] (s.size + 3) (fun g o v wr => ∃ (k : Nat) (T : ByteArray), k ≤ s.size + 2 ∧ g = s.size + 3 - k ∧ v = .int .i64 k ∧ o = .string T ∧ T.size ≤ 2 * k ∧ w = wr ∧ Hid (T.data.toList ++ encS (s.data.toList.drop k) = encS s.data.toList))
  case atStart => exact ⟨0, ⟨#[]⟩, by omega, by omega, rfl, rfl, Nat.zero_le _, rfl, rfl⟩
  case round =>
    obtain ⟨k, T, hk, rfl, rfl, rfl, hT, rfl, HE⟩ := hrel
    by_cases h0 : k < s.size
    · have hx := s[k].toNat_lt
      have HD := Lib.hid (drop_cons s k h0)
      by_cases h1 : k + 1 < s.size
      · have hy := s[k + 1].toNat_lt
        have HD1 := Lib.hid (drop_cons s (k + 1) h1)
        by_cases h2 : k + 2 < s.size
        · have hz := s[k + 2].toNat_lt
          have HD2 := Lib.hid (drop_cons s (k + 2) h2)
          go_wp2_with fail
          refine (letter_int _ _ (by omega) (by omega)).mono ?_
          rintro e w1 ⟨L1, rfl, hz1, hL1, rfl⟩
          have hz1' : L1.size ≤ 1 := by omega
          have HL1 := Lib.hid hL1
          clear hL1 hz1
          go_wp2_with fail
          refine (letter_int _ _ (by omega) (by omega)).mono ?_
          rintro e w1 ⟨L2, rfl, hz2, hL2, rfl⟩
          have hz2' : L2.size ≤ 1 := by omega
          have HL2 := Lib.hid hL2
          clear hL2 hz2
          go_wp2_with fail
          refine (letter_int _ _ (by omega) (by omega)).mono ?_
          rintro e w1 ⟨L3, rfl, hz3, hL3, rfl⟩
          have hz3' : L3.size ≤ 1 := by omega
          have HL3 := Lib.hid hL3
          clear hL3 hz3
          go_wp2_with fail
          refine (letter_int _ _ (by omega) (by omega)).mono ?_
          rintro e w1 ⟨L4, rfl, hz4, hL4, rfl⟩
          have hz4' : L4.size ≤ 1 := by omega
          have HL4 := Lib.hid hL4
          clear hL4 hz4
          go_wp2
          go_roundg (s.size + 3 - (k + 3))
          case measure => omega
          case rel =>
            refine ⟨k + 3, T ++ (L1 ++ L2) ++ L3 ++ L4, by omega, rfl, by go_num, rfl, ?_, rfl, ?_⟩
            · simp only [ByteArray.size_append]; omega
            · unfold Hid
              rw [← HE.out]
              simp only [cat_toList, HL1.out, HL2.out, HL3.out, HL4.out]
              rw [HD.out, HD1.out, HD2.out]
              simp only [encS, List.append_assoc, List.cons_append, List.nil_append]
              generalize s[k].toNat = x
              generalize s[k + 1].toNat = y
              generalize s[k + 2].toNat = z
              rw [show ((x : Int) / 4).toNat = x / 4 by omega, show ((x : Int) % 4 * 16 + (y : Int) / 16).toNat = x % 4 * 16 + y / 16 by omega, show ((y : Int) % 16 * 4 + (z : Int) / 64).toNat = y % 16 * 4 + z / 64 by omega, show ((z : Int) % 64).toNat = z % 64 by omega]
        · go_wp2_with fail
          refine (letter_int _ _ (by omega) (by omega)).mono ?_
          rintro e w1 ⟨L1, rfl, hz1, hL1, rfl⟩
          have hz1' : L1.size ≤ 1 := by omega
          have HL1 := Lib.hid hL1
          clear hL1 hz1
          go_wp2_with fail
          refine (letter_int _ _ (by omega) (by omega)).mono ?_
          rintro e w1 ⟨L2, rfl, hz2, hL2, rfl⟩
          have hz2' : L2.size ≤ 1 := by omega
          have HL2 := Lib.hid hL2
          clear hL2 hz2
          go_wp2_with fail
          refine (letter_int _ _ (by omega) (by omega)).mono ?_
          rintro e w1 ⟨L3, rfl, hz3, hL3, rfl⟩
          have hz3' : L3.size ≤ 1 := by omega
          have HL3 := Lib.hid hL3
          clear hL3 hz3
          go_wp2
          go_roundg (s.size + 3 - (k + 3))
          case measure => omega
          case rel =>
            refine ⟨k + 3, T ++ (L1 ++ L2) ++ L3 ++ ⟨#[61]⟩, by omega, rfl, by go_num, rfl, ?_, rfl, ?_⟩
            · have e1 : (⟨#[61]⟩ : ByteArray).size = 1 := rfl; simp only [ByteArray.size_append]; omega
            · unfold Hid
              rw [← HE.out]
              simp only [cat_toList, HL1.out, HL2.out, HL3.out]
              rw [HD.out, HD1.out, List.drop_eq_nil_of_le (i := k + 1 + 1) (by simp; omega), List.drop_eq_nil_of_le (i := k + 3) (by simp; omega)]
              simp only [encS, List.append_assoc, List.cons_append, List.nil_append]
              generalize s[k].toNat = x
              generalize s[k + 1].toNat = y
              rw [show ((x : Int) / 4).toNat = x / 4 by omega, show ((x : Int) % 4 * 16 + (y : Int) / 16).toNat = x % 4 * 16 + y / 16 by omega, show ((y : Int) % 16 * 4).toNat = y % 16 * 4 by omega]
      · go_wp2_with fail
        refine (letter_int _ _ (by omega) (by omega)).mono ?_
        rintro e w1 ⟨L1, rfl, hz1, hL1, rfl⟩
        have hz1' : L1.size ≤ 1 := by omega
        have HL1 := Lib.hid hL1
        clear hL1 hz1
        go_wp2_with fail
        refine (letter_int _ _ (by omega) (by omega)).mono ?_
        rintro e w1 ⟨L2, rfl, hz2, hL2, rfl⟩
        have hz2' : L2.size ≤ 1 := by omega
        have HL2 := Lib.hid hL2
        clear hL2 hz2
        go_wp2
        go_roundg (s.size + 3 - (k + 3))
        case measure => omega
        case rel =>
          refine ⟨k + 3, T ++ (L1 ++ L2) ++ ⟨#[61]⟩ ++ ⟨#[61]⟩, by omega, rfl, by go_num, rfl, ?_, rfl, ?_⟩
          · have e1 : (⟨#[61]⟩ : ByteArray).size = 1 := rfl; simp only [ByteArray.size_append]; omega
          · unfold Hid
            rw [← HE.out]
            simp only [cat_toList, HL1.out, HL2.out]
            rw [HD.out, List.drop_eq_nil_of_le (i := k + 1) (by simp; omega), List.drop_eq_nil_of_le (i := k + 3) (by simp; omega)]
            simp only [encS, List.append_assoc, List.cons_append, List.nil_append]
            generalize s[k].toNat = x
            rw [show ((x : Int) / 4).toNat = x / 4 by omega, show ((x : Int) % 4 * 16).toNat = x % 4 * 16 by omega]
    · go_wp2
      go_ret
      refine ⟨T, rfl, ?_, rfl⟩
      have := HE.out
      rw [List.drop_eq_nil_of_le (by simp; omega)] at this
      simpa [encS] using this
end Go.Proofs.YtolkjaebhhbilaaGreatDoor
