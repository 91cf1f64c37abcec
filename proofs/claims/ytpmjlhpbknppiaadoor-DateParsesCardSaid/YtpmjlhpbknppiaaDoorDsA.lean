/- Contract of the document's bare text. -/
import Derived.Test.YtpmjlhpbknppiaaDoorDrP
import Derived.Test.YtpmjlhpbknppiaaDoorChars4
import Derived.Test.YtpmjlhpbknppiaaDoorChars5
namespace Go.Proofs.YtpmjlhpbknppiaaDoor
open Go Go.RowKit

theorem bareR_skip (d : Nat) : ∀ l : List UInt8, bareR true d l = bareR false d (l.drop 1)
  | [] => by cases d <;> rfl
  | _ :: _ => rfl
theorem byte_yes {a : UInt8} (n : Nat) (h : a.toNat = n) : ((a.toNat : Int) == (n : Int)) = true := by simp [h]
theorem byte_no {a : UInt8} (n : Nat) (h : ¬ a.toNat = n) : ((a.toNat : Int) == (n : Int)) = false := by simp; omega
theorem u8_eq {a : UInt8} (n : Nat) (hn : n < 256) : a.toNat = n ↔ a = UInt8.ofNat n := by
  constructor
  · intro h
    apply UInt8.toNat_inj.1
    rw [h]
    simp [Nat.mod_eq_of_lt hn]
  · rintro rfl
    simp [Nat.mod_eq_of_lt hn]
set_option maxRecDepth 100000 in
set_option maxHeartbeats 4000000 in
theorem refBare_any (s : ByteArray) (hs : s.size ≤ 1000000000) (w : World) :
    Calls Tryd.prog 27 #[.string s] w fun e w' => ∃ t : ByteArray, e = .returned (.string t) ∧ t.data.toList = bareR false 0 s.data.toList ∧ t.size ≤ s.size + 1 ∧ w = w' := by
  go_enter Tryd.func27, Tryd.ntmps27
  go_wp2
  go_loopg [3, 4, 5] (s.size + 1) (fun g o dv v wr => ∃ (k d : Nat) (t : ByteArray), k ≤ s.size + 1 ∧ g = s.size + 1 - k ∧ v = .int .i64 k ∧ dv = .int .i64 d ∧ o = .string t ∧ d ≤ k ∧ t.size ≤ k ∧ w = wr ∧ Hid (t.data.toList ++ bareR false d (s.data.toList.drop k) = bareR false 0 s.data.toList))
  case atStart => exact ⟨0, 0, ⟨#[]⟩, by omega, by omega, rfl, rfl, rfl, by omega, Nat.zero_le _, rfl, rfl⟩
  case round =>
    obtain ⟨k, d, t, hk, rfl, rfl, rfl, rfl, hd, ht, rfl, HS⟩ := hrel
    by_cases hlt : k < s.size
    · have e0 := Lib.hid (drop_cons s k hlt)
      have HX := Lib.hid (extract_size' s k (k + 1) (by omega))
      have hx : (s.extract k (k + 1)).size ≤ 1 := by rw [HX.out]; omega
      by_cases h40 : s[k].toNat = 40
      · have t40 : ((s[k].toNat : Int) == 40) = true := byte_yes 40 h40
        have HC := Lib.hid h40
        clear h40
        go_wp2
        go_roundg (s.size + 1 - (k + 1))
        case measure => omega
        case rel =>
          refine ⟨k + 1, d + 1, t ++ ⟨#[32]⟩, by omega, rfl, by go_num, by go_num, rfl, by omega, by rw [ByteArray.size_append]; show t.size + 1 ≤ _; omega, rfl, ?_⟩
          have := HS.out
          rw [e0.out, bareR, if_pos (show s[k] = 40 from (u8_eq 40 (by omega)).1 HC.out)] at this
          unfold Hid
          rw [← this, ByteArray.data_append, Array.toList_append, List.append_assoc]
          rfl
      · have n40 : ¬ s[k] = 40 := fun h => h40 ((u8_eq 40 (by omega)).2 h)
        have N40 := Lib.hid n40
        have t40 : ((s[k].toNat : Int) == 40) = false := byte_no 40 h40
        clear h40 n40
        by_cases hd0 : d = 0
        · subst hd0
          go_wp2
          go_roundg (s.size + 1 - (k + 1))
          case measure => omega
          case rel =>
            refine ⟨k + 1, 0, t ++ s.extract k (k + 1), by omega, rfl, by go_num, rfl, rfl, by omega, by rw [ByteArray.size_append]; omega, rfl, ?_⟩
            have := HS.out
            rw [e0.out, bareR, if_neg N40.out, if_pos rfl] at this
            unfold Hid
            rw [← this, add_one_byte hlt rfl, List.append_assoc]
            rfl
        · have td : ((d : Int) == 0) = false := by simp; omega
          have HD := Lib.hid hd0
          clear hd0
          by_cases h92 : s[k].toNat = 92
          · have t92 : ((s[k].toNat : Int) == 92) = true := byte_yes 92 h92
            have HC := Lib.hid h92
            clear h92
            go_wp2
            go_roundg (s.size + 1 - (k + 2))
            case measure => omega
            case rel =>
              refine ⟨k + 2, d, t, by omega, rfl, by go_num, rfl, rfl, by omega, by omega, rfl, ?_⟩
              have := HS.out
              rw [e0.out, bareR, if_neg N40.out, if_neg HD.out, if_pos (show s[k] = 92 from (u8_eq 92 (by omega)).1 HC.out), bareR_skip, List.drop_drop] at this
              exact this
          · have n92 : ¬ s[k] = 92 := fun h => h92 ((u8_eq 92 (by omega)).2 h)
            have N92 := Lib.hid n92
            have t92 : ((s[k].toNat : Int) == 92) = false := byte_no 92 h92
            clear h92 n92
            by_cases h41 : s[k].toNat = 41
            · have t41 : ((s[k].toNat : Int) == 41) = true := byte_yes 41 h41
              have HC := Lib.hid h41
              clear h41
              go_wp2
              go_roundg (s.size + 1 - (k + 1))
              case measure => omega
              case rel =>
                refine ⟨k + 1, d - 1, t, by omega, rfl, by go_num, ?_, rfl, by omega, by omega, rfl, ?_⟩
                · have := HD.out
                  go_num
                · have := HS.out
                  rw [e0.out, bareR, if_neg N40.out, if_neg HD.out, if_neg N92.out, if_pos (show s[k] = 41 from (u8_eq 41 (by omega)).1 HC.out)] at this
                  exact this
            · have n41 : ¬ s[k] = 41 := fun h => h41 ((u8_eq 41 (by omega)).2 h)
              have N41 := Lib.hid n41
              have t41 : ((s[k].toNat : Int) == 41) = false := byte_no 41 h41
              clear h41 n41
              go_wp2
              go_roundg (s.size + 1 - (k + 1))
              case measure => omega
              case rel =>
                refine ⟨k + 1, d, t, by omega, rfl, by go_num, rfl, rfl, by omega, by omega, rfl, ?_⟩
                have := HS.out
                rw [e0.out, bareR, if_neg N40.out, if_neg HD.out, if_neg N92.out, if_neg N41.out] at this
                exact this
    · go_wp2
      go_ret
      refine ⟨t, rfl, ?_, by omega, rfl⟩
      have := HS.out
      rw [List.drop_eq_nil_of_le (by rw [len_toList]; omega)] at this
      rw [← this]
      have hn : bareR false d [] = [] := by cases d <;> rfl
      rw [hn, List.append_nil]
end Go.Proofs.YtpmjlhpbknppiaaDoor
