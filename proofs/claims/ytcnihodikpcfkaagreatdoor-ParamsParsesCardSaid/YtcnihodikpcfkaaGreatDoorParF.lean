/- Contracts of package params: what is skipped. -/
import Derived.Test.YtcnihodikpcfkaaGreatDoorParM
import Derived.Test.YtcnihodikpcfkaaGreatDoorKit2
import Derived.Test.YtcnihodikpcfkaaGreatDoorQB
import Derived.Deep.RegionLaw
import Derived.RegionCalls
namespace Go.Proofs.YtcnihodikpcfkaaGreatDoor
open Go Go.RowKit

theorem skL_esc (d : Nat) (l : List UInt8) : skL true d l = skL false d (l.drop 1) := by
  cases l with
  | nil => rw [skL_nil]; exact (skL_nil _ _).symm
  | cons c l => rfl
theorem skL_stroke (d : Nat) (l : List UInt8) : skL false (d + 1) (92 :: l) = skL false (d + 1) (l.drop 1) := by
  rw [← skL_esc]
  rfl
theorem skL_open (d : Nat) (l : List UInt8) : skL false d (40 :: l) = skL false (d + 1) l := by cases d <;> rfl
theorem skL_shut (d : Nat) (l : List UInt8) : skL false (d + 1) (41 :: l) = skL false d l := rfl
theorem skL_other (d : Nat) (c : UInt8) (l : List UInt8) (h1 : c ≠ 92) (h2 : c ≠ 40) (h3 : c ≠ 41) : skL false (d + 1) (c :: l) = skL false (d + 1) l := by
  show (if c = 92 then _ else if c = 40 then _ else if c = 41 then _ else _) = _
  rw [if_neg h1, if_neg h2, if_neg h3]

set_option maxHeartbeats 1000000 in
theorem behindComment_any (s : ByteArray) (k : Nat) (w : World) (hl : s.size ≤ 1000000000) (hk : k < s.size) (h40 : s[k].toNat = 40) :
    Calls Tryz.prog 64 #[.string s, .int .i64 (k : Int)] w fun e w' => ∃ r : Nat, e = .returned (.int .i64 (r : Int)) ∧ k < r ∧ r ≤ s.size ∧ sk (s.data.toList.drop k) = sk (s.data.toList.drop r) ∧ w = w' := by
  have H40 := Lib.hid h40
  clear h40
  go_enter Tryz.func64, Tryz.ntmps64
  go_wp2_with fail
  go_loopg [1, 5] (s.size + 1 - k) (fun g v1 v5 wr => ∃ j d : Nat, g = s.size + 1 - j ∧ k ≤ j ∧ j ≤ s.size + 1 ∧ v1 = .int .i64 (j : Int) ∧ v5 = .int .i64 (d : Int) ∧ d ≤ j ∧ ((j = k ∧ d = 0) ∨ (k < j ∧ 1 ≤ d)) ∧ Hid (sk (s.data.toList.drop k) = skL false d (s.data.toList.drop j)) ∧ w = wr)
  case atStart => exact ⟨k, 0, by omega, by omega, by omega, rfl, rfl, by omega, .inl ⟨rfl, rfl⟩, rfl, rfl⟩
  case round =>
    obtain ⟨j, d, rfl, hkj, hj, rfl, rfl, hdj, hjd, HS, rfl⟩ := hrel
    by_cases hlt : j < s.size
    · have HD := Lib.hid (drop_cons s j hlt)
      rw [HD.out] at HS
      have HC := Lib.hid (fun (a : Nat) (h : s[j].toNat = a) (h2 : a < 256) => toNat_eq (a := s[j]) (b := byteN a) (by rw [h, byteN_toNat a h2]))
      by_cases h92 : s[j].toNat = 92
      · have hd1 : 1 ≤ d ∧ k < j := by
          rcases hjd with ⟨e, _⟩ | ⟨h1, h2⟩
          · subst e; have := H40.out; omega
          · exact ⟨h2, h1⟩
        have b1 : (((s[j].toNat : Nat) : Int) == 92) = true := beq_yes (by omega)
        have b4 : ((d : Int) == 0) = false := beq_no (by omega)
        have HC1 := Lib.hid (HC.out 92 h92 (by omega))
        clear HC
        go_wp2_with fail
        go_roundg (s.size + 1 - (j + 2))
        case measure => omega
        case rel =>
          refine ⟨j + 2, d, rfl, by omega, by omega, by go_num, rfl, by omega, .inr ⟨by omega, hd1.1⟩, ?_, rfl⟩
          unfold Hid
          obtain ⟨d', rfl⟩ : ∃ d', d = d' + 1 := ⟨d - 1, by omega⟩
          rw [HS.out, HC1.out]
          refine (skL_stroke _ _).trans ?_
          rw [List.drop_drop]
      · have b1 : (((s[j].toNat : Nat) : Int) == 92) = false := beq_no (by omega)
        have HN1 : Hid (s[j] ≠ 92) := fun e => h92 (by rw [e]; rfl)
        by_cases h40 : s[j].toNat = 40
        · have b2 : (((s[j].toNat : Nat) : Int) == 40) = true := beq_yes (by omega)
          have b4 : (((d : Int) + 1) == 0) = false := beq_no (by omega)
          have HC1 := Lib.hid (HC.out 40 h40 (by omega))
          clear HC
          go_wp2_with fail
          go_roundg (s.size + 1 - (j + 1))
          case measure => omega
          case rel =>
            refine ⟨j + 1, d + 1, rfl, by omega, by omega, by go_num, by go_num, by omega, .inr ⟨by omega, by omega⟩, ?_, rfl⟩
            unfold Hid
            rw [HS.out, HC1.out]
            exact skL_open _ _
        · have b2 : (((s[j].toNat : Nat) : Int) == 40) = false := beq_no (by omega)
          have HN2 : Hid (s[j] ≠ 40) := fun e => h40 (by rw [e]; rfl)
          have hd1 : 1 ≤ d ∧ k < j := by
            rcases hjd with ⟨e, _⟩ | ⟨h1, h2⟩
            · subst e; exact absurd H40.out h40
            · exact ⟨h2, h1⟩
          by_cases h41 : s[j].toNat = 41
          · have b3 : (((s[j].toNat : Nat) : Int) == 41) = true := beq_yes (by omega)
            have HC1 := Lib.hid (HC.out 41 h41 (by omega))
            clear HC
            by_cases hd : d = 1
            · subst hd
              go_wp2_with fail
              go_ret
              refine ⟨j + 1, by go_num, by omega, by omega, ?_, rfl⟩
              rw [HS.out, HC1.out]
              exact skL_shut 0 _
            · have b4 : (((d : Int) - 1) == 0) = false := beq_no (by omega)
              go_wp2_with fail
              go_roundg (s.size + 1 - (j + 1))
              case measure => omega
              case rel =>
                refine ⟨j + 1, d - 1, rfl, by omega, by omega, by go_num, by go_num, by omega, .inr ⟨by omega, by omega⟩, ?_, rfl⟩
                unfold Hid
                obtain ⟨d', rfl⟩ : ∃ d', d = d' + 1 := ⟨d - 1, by omega⟩
                rw [HS.out, HC1.out]
                exact skL_shut _ _
          · have b3 : (((s[j].toNat : Nat) : Int) == 41) = false := beq_no (by omega)
            have HN3 : Hid (s[j] ≠ 41) := fun e => h41 (by rw [e]; rfl)
            have b4 : ((d : Int) == 0) = false := beq_no (by omega)
            clear HC
            go_wp2_with fail
            go_roundg (s.size + 1 - (j + 1))
            case measure => omega
            case rel =>
              refine ⟨j + 1, d, rfl, by omega, by omega, by go_num, rfl, by omega, .inr ⟨by omega, hd1.1⟩, ?_, rfl⟩
              unfold Hid
              obtain ⟨d', rfl⟩ : ∃ d', d = d' + 1 := ⟨d - 1, by omega⟩
              rw [HS.out]
              exact skL_other _ _ _ HN1.out HN2.out HN3.out
    · have HE : Hid (s.data.toList.drop j = []) := List.drop_eq_nil_of_le (by simp; omega)
      go_wp2_with fail
      go_ret
      refine ⟨s.size, rfl, hk, Nat.le_refl _, ?_, rfl⟩
      rw [HS.out, HE.out, skL_nil, List.drop_eq_nil_of_le (by simp)]
      exact (skL_nil _ _).symm

theorem token_byte (c : UInt8) (w : World) :
    Calls Tryz.prog 65 #[.int .u8 (c.toNat : Int)] w fun e w' => e = .returned (.bool (tokB c)) ∧ Below w.heap.size w w' :=
  token_any _ w (by omega) (by have := c.toNat_lt; omega)
theorem behindToken_any (s : ByteArray) (k : Nat) (w : World) (hl : s.size ≤ 1000000000) (hk : k ≤ s.size) :
    Calls Tryz.prog 47 #[.string s, .int .i64 (k : Int)] w fun e w' => e = .returned (.int .i64 ((k + (tokL (s.data.toList.drop k)).length : Nat) : Int)) ∧ Below w.heap.size w w' := by
  have HT := Lib.hid token_byte
  obtain ⟨N, hN⟩ : ∃ N, N = k + (tokL (s.data.toList.drop k)).length := ⟨_, rfl⟩
  rw [← hN]
  have HN : Hid (N = k + (tokL (s.data.toList.drop k)).length) := hN
  clear hN
  go_enter Tryz.func47, Tryz.ntmps47
  go_wp2_with fail
  go_loopg [1] (s.size - k) (fun g v1 wr => ∃ j : Nat, g = s.size - j ∧ k ≤ j ∧ j ≤ s.size ∧ v1 = .int .i64 (j : Int) ∧ Hid (N = j + (tokL (s.data.toList.drop j)).length) ∧ Hid (Below w.heap.size w wr))
  case atStart => exact ⟨k, by omega, by omega, by omega, rfl, HN.out, Below.refl _ _⟩
  case round =>
    obtain ⟨j, rfl, hkj, hj, rfl, HS, HB⟩ := hrel
    by_cases hlt : j < s.size
    · have HD := Lib.hid (drop_cons s j hlt)
      rw [HD.out] at HS
      have HTj := Lib.hid (HT.out s[j] wr)
      rcases Bool.eq_false_or_eq_true (tokB s[j]) with ht | ht
      · rw [ht] at HTj
        have HL : Hid (tokL (s[j] :: s.data.toList.drop (j + 1)) = s[j] :: tokL (s.data.toList.drop (j + 1))) := by unfold Hid tokL; rw [List.takeWhile_cons, if_pos ht]
        go_wp2_with (go_at_call 65; refine HTj.out.mono ?_; rintro e w1 ⟨rfl, hb1⟩)
        go_roundg (s.size - (j + 1))
        case measure => omega
        case rel =>
          refine ⟨j + 1, rfl, by omega, by omega, by go_num, ?_, HB.out.trans (hb1.mono HB.out.size)⟩
          unfold Hid
          rw [HS.out, HL.out, List.length_cons]
          omega
      · rw [ht] at HTj
        have HL : Hid (tokL (s[j] :: s.data.toList.drop (j + 1)) = []) := by unfold Hid tokL; rw [List.takeWhile_cons, if_neg (by rw [ht]; simp)]
        go_wp2_with (go_at_call 65; refine HTj.out.mono ?_; rintro e w1 ⟨rfl, hb1⟩)
        go_ret
        refine ⟨?_, HB.out.trans (hb1.mono HB.out.size)⟩
        rw [HS.out, HL.out]
        rfl
    · have HE : Hid (s.data.toList.drop j = []) := List.drop_eq_nil_of_le (by simp; omega)
      go_wp2_with fail
      go_ret
      refine ⟨?_, HB.out⟩
      rw [HS.out, HE.out]
      rfl
end Go.Proofs.YtcnihodikpcfkaaGreatDoor
