/- Contracts of the document's layer 7: what is quoted, a base. -/
import Derived.Test.YtcnihodikpcfkaaGreatDoorPbA
namespace Go.Proofs.YtcnihodikpcfkaaGreatDoor
open Go Go.RowKit

theorem bytes_one7 (s : ByteArray) (k : Nat) (h : k < s.size) : (s.extract k (k + 1)).data.toList = [s[k]] := by
  rw [extract_toList, drop_cons s k h, Nat.add_sub_cancel_left]
  rfl
theorem unq_end (acc l : List UInt8) : unqL false acc (34 :: l) = some (acc, l) := rfl
theorem unq_stroke (acc l : List UInt8) : unqL false acc (92 :: l) = unqL true acc l := rfl
theorem unq_true (acc l : List UInt8) (c : UInt8) : unqL true acc (c :: l) = unqL false (acc ++ [c]) l := rfl
theorem unq_other (acc l : List UInt8) (c : UInt8) (h1 : c ≠ 34) (h2 : c ≠ 92) : unqL false acc (c :: l) = unqL false (acc ++ [c]) l := by
  show (if c = 34 then _ else if c = 92 then _ else _) = _
  rw [if_neg h1, if_neg h2]
theorem unq_nil (e : Bool) (acc : List UInt8) : unqL e acc [] = none := by cases e <;> rfl

set_option maxHeartbeats 1000000 in
theorem refQuoted_any (s : ByteArray) (w : World) (hl : s.size ≤ 1000000000) (h1 : 1 ≤ s.size) :
    Calls Tryz.prog 38 #[.string s] w fun e w' => ∃ (T R : ByteArray) (b : Bool), e = .returned (.tuple #[.string T, .string R, .bool b]) ∧ unqL false [] (s.data.toList.drop 1) = (if b then some (T.data.toList, R.data.toList) else none) ∧ R.size ≤ s.size ∧ Below w.heap.size w w' := by
  go_enter Tryz.func38, Tryz.ntmps38
  go_wp2_with fail
  go_loopg [5, 6] s.size (fun g v5 v6 wr => ∃ (j : Nat) (T : ByteArray), g = s.size + 1 - j ∧ 1 ≤ j ∧ j ≤ s.size + 1 ∧ v6 = .int .i64 (j : Int) ∧ v5 = .string T ∧ T.size ≤ j ∧ Hid (unqL false [] (s.data.toList.drop 1) = unqL false T.data.toList (s.data.toList.drop j)) ∧ w = wr)
  case atStart => exact ⟨1, ⟨#[]⟩, by omega, by omega, by omega, rfl, rfl, by decide, rfl, rfl⟩
  case round =>
    obtain ⟨j, T, rfl, hj1, hj, rfl, rfl, hT, HS, rfl⟩ := hrel
    by_cases hlt : j < s.size
    · have HD := Lib.hid (drop_cons s j hlt)
      rw [HD.out] at HS
      by_cases h34 : s[j].toNat = 34
      · have b1 : (((s[j].toNat : Nat) : Int) == 34) = true := beq_yes (by omega)
        have HC1 : Hid (s[j] = 34) := toNat_eq (by rw [h34]; rfl)
        clear h34
        go_wp2_with fail
        go_quiet (fail)
        go_wp2_with fail
        refine bodyPost_ret (v := .tuple #[.string T, .string (s.extract (j + 1) s.size), .bool true]) (by simp [results, Tryz.results38, go_sem]) rfl ?_
        refine ⟨T, s.extract (j + 1) s.size, true, rfl, ?_, by rw [extract_size' s _ _ (Nat.le_refl _)]; omega, below_drewN' _⟩
        rw [HS.out, HC1.out, unq_end, behind_toList]
        rfl
      · have b1 : (((s[j].toNat : Nat) : Int) == 34) = false := beq_no (by omega)
        have HN1 : Hid (s[j] ≠ 34) := fun e => h34 (by rw [e]; rfl)
        clear h34
        by_cases h92 : s[j].toNat = 92
        · have b2 : (((s[j].toNat : Nat) : Int) == 92) = true := beq_yes (by omega)
          have HC1 : Hid (s[j] = 92) := toNat_eq (by rw [h92]; rfl)
          clear h92
          by_cases hlt2 : j + 1 < s.size
          · have HD2 := Lib.hid (drop_cons s (j + 1) hlt2)
            go_wp2_with fail
            go_roundg (s.size + 1 - (j + 2))
            case measure => omega
            case rel =>
              refine ⟨j + 2, T ++ s.extract (j + 1) (j + 1 + 1), rfl, by omega, by omega, by go_num, rfl, ?_, ?_, rfl⟩
              · rw [ByteArray.size_append, extract_size' s _ _ (by omega)]
                omega
              · unfold Hid
                rw [HS.out, HC1.out, unq_stroke, HD2.out, unq_true, cat_toList, bytes_one7 s (j + 1) hlt2]
          · have HE : Hid (s.data.toList.drop (j + 1) = []) := List.drop_eq_nil_of_le (by simp; omega)
            go_wp2_with fail
            go_roundg (s.size + 1 - (j + 2))
            case measure => omega
            case rel =>
              refine ⟨j + 2, T, rfl, by omega, by omega, by go_num, rfl, by omega, ?_, rfl⟩
              unfold Hid
              rw [HS.out, HC1.out, unq_stroke, HE.out, unq_nil, List.drop_eq_nil_of_le (by simp; omega), unq_nil]
        · have b2 : (((s[j].toNat : Nat) : Int) == 92) = false := beq_no (by omega)
          have HN2 : Hid (s[j] ≠ 92) := fun e => h92 (by rw [e]; rfl)
          clear h92
          go_wp2_with fail
          go_roundg (s.size + 1 - (j + 1))
          case measure => omega
          case rel =>
            refine ⟨j + 1, T ++ s.extract j (j + 1), rfl, by omega, by omega, by go_num, rfl, ?_, ?_, rfl⟩
            · rw [ByteArray.size_append, extract_size' s _ _ (by omega)]
              omega
            · unfold Hid
              rw [HS.out, unq_other _ _ _ HN1.out HN2.out, cat_toList, bytes_one7 s j hlt]
    · have HE : Hid (s.data.toList.drop j = []) := List.drop_eq_nil_of_le (by simp; omega)
      go_wp2_with fail
      refine bodyPost_ret (v := .tuple #[.string ⟨#[]⟩, .string ⟨#[]⟩, .bool false]) (by simp [results, Tryz.results38, go_sem]) rfl ?_
      exact ⟨⟨#[]⟩, ⟨#[]⟩, false, rfl, by rw [HS.out, HE.out, unq_nil]; rfl, Nat.zero_le _, Below.refl _ _⟩

set_option maxHeartbeats 1000000 in
theorem refBase_any (s : ByteArray) (w : World) (hl : s.size ≤ 1000000000) :
    Calls Tryz.prog 24 #[.string s] w fun e w' => ∃ T : ByteArray, e = .returned (.string T) ∧ T.data.toList = baseL s.data.toList ∧ w = w' := by
  go_enter Tryz.func24, Tryz.ntmps24
  go_wp2_with fail
  go_loopg [3] s.size (fun g v1 wr => ∃ j : Nat, g = s.size - j ∧ j ≤ s.size ∧ v1 = .int .i64 (j : Int) ∧ Hid (baseL s.data.toList = s.data.toList.take j ++ baseL (s.data.toList.drop j)) ∧ w = wr)
  case atStart => exact ⟨0, by omega, by omega, rfl, rfl, rfl⟩
  case round =>
    obtain ⟨j, rfl, hj, rfl, HS, rfl⟩ := hrel
    by_cases hlt : j < s.size
    · have HD := Lib.hid (drop_cons s j hlt)
      by_cases h42 : s[j].toNat = 42
      · have b1 : (((s[j].toNat : Nat) : Int) == 42) = true := beq_yes (by omega)
        have HC1 : Hid (s[j] = 42) := toNat_eq (by rw [h42]; rfl)
        clear h42
        go_wp2_with fail
        go_ret
        refine ⟨s.extract 0 j, rfl, ?_, rfl⟩
        rw [HS.out, HD.out, HC1.out, extract_toList]
        exact (List.append_nil _).symm
      · have b1 : (((s[j].toNat : Nat) : Int) == 42) = false := beq_no (by omega)
        have HN1 : Hid (s[j] ≠ 42) := fun e => h42 (by rw [e]; rfl)
        clear h42
        go_wp2_with fail
        go_roundg (s.size - (j + 1))
        case measure => omega
        case rel =>
          refine ⟨j + 1, rfl, by omega, by go_num, ?_, rfl⟩
          unfold Hid
          rw [HS.out, HD.out, take_snoc s j hlt, List.append_assoc]
          unfold baseL
          rw [List.takeWhile_cons, if_pos (by simpa using HN1.out)]
          rfl
    · have HE : Hid (s.data.toList.drop j = []) := List.drop_eq_nil_of_le (by simp; omega)
      have HE2 : Hid (s.data.toList.take j = s.data.toList) := List.take_of_length_le (by simp; omega)
      go_wp2_with fail
      go_ret
      refine ⟨s, rfl, ?_, rfl⟩
      rw [HS.out, HE.out, HE2.out]
      exact (List.append_nil _).symm
end Go.Proofs.YtcnihodikpcfkaaGreatDoor
