/- Contracts of package addr: what is skipped, and what a word is made of. -/
import Derived.Test.YtjlcphofkepajaaGreatParF
import Derived.Test.YtjlcphofkepajaaGreatAdM
import Derived.Test.YtjlcphofkepajaaGreatChars
import Derived.Test.YtjlcphofkepajaaGreatShelf
namespace Go.Proofs.YtjlcphofkepajaaGreat
open Go Go.RowKit

theorem idx_yes : ∀ (l : List UInt8) (c : UInt8), c ∈ l → ∃ n : Nat, Lib.indexByte l c = (n : Int)
  | b :: l, c, h => by
    by_cases hb : (b == c) = true
    · exact ⟨0, by unfold Lib.indexByte; rw [if_pos hb]; rfl⟩
    · have hc : c ∈ l := by
        rcases List.mem_cons.1 h with rfl | h
        · simp at hb
        · exact h
      obtain ⟨n, hn⟩ := idx_yes l c hc
      exact ⟨n + 1, by unfold Lib.indexByte; rw [if_neg hb, hn, if_neg (by simp)]; rfl⟩
theorem idx_no : ∀ (l : List UInt8) (c : UInt8), c ∉ l → Lib.indexByte l c = -1
  | [], c, h => rfl
  | b :: l, c, h => by
    have h1 : c ≠ b ∧ c ∉ l := by simpa using h
    unfold Lib.indexByte
    rw [if_neg (by simpa using fun e => h1.1 e.symm), idx_no l c h1.2]
    rfl
theorem u8_back (c : UInt8) : ((c.toNat : Int)).toNat.toUInt8 = c := by simp
theorem sign_mem {c : UInt8} : signB c = true ↔ c ∈ ([60, 62, 58, 59, 44, 64] : List UInt8) := by simp [signB, or_assoc]
theorem part_mem {c : UInt8} : partB c = true ↔ c ∈ ([40, 41, 34] : List UInt8) := by simp [partB, or_assoc]
theorem sign_yes {c : UInt8} (h : signB c = true) (w : World) :
    Calls Tryz.prog 29 #[.string ⟨#[60, 62, 58, 59, 44, 64]⟩, .int .u8 (c.toNat : Int)] w fun e w' => ∃ n : Nat, e = .returned (.int .i64 (n : Int)) ∧ w = w' := by
  refine (Tryz.strings_IndexByte _ _ w).mono fun e w' ⟨he, hw⟩ => ?_
  obtain ⟨n, hn⟩ := idx_yes _ _ (sign_mem.1 h)
  rw [u8_back] at he
  exact ⟨n, by rw [he]; exact congrArg (fun x => Ending.returned (.int .i64 x)) hn, hw.symm⟩
theorem sign_no {c : UInt8} (h : signB c = false) (w : World) :
    Calls Tryz.prog 29 #[.string ⟨#[60, 62, 58, 59, 44, 64]⟩, .int .u8 (c.toNat : Int)] w fun e w' => e = .returned (.int .i64 (-1)) ∧ w = w' := by
  refine (Tryz.strings_IndexByte _ _ w).mono fun e w' ⟨he, hw⟩ => ?_
  have hn := idx_no ([60, 62, 58, 59, 44, 64] : List UInt8) c (fun hm => by rw [sign_mem.2 hm] at h; cases h)
  rw [u8_back] at he
  exact ⟨by rw [he]; exact congrArg (fun x => Ending.returned (.int .i64 x)) hn, hw.symm⟩
theorem part_yes {c : UInt8} (h : partB c = true) (w : World) :
    Calls Tryz.prog 29 #[.string ⟨#[40, 41, 34]⟩, .int .u8 (c.toNat : Int)] w fun e w' => ∃ n : Nat, e = .returned (.int .i64 (n : Int)) ∧ w = w' := by
  refine (Tryz.strings_IndexByte _ _ w).mono fun e w' ⟨he, hw⟩ => ?_
  obtain ⟨n, hn⟩ := idx_yes _ _ (part_mem.1 h)
  rw [u8_back] at he
  exact ⟨n, by rw [he]; exact congrArg (fun x => Ending.returned (.int .i64 x)) hn, hw.symm⟩
theorem part_no {c : UInt8} (h : partB c = false) (w : World) :
    Calls Tryz.prog 29 #[.string ⟨#[40, 41, 34]⟩, .int .u8 (c.toNat : Int)] w fun e w' => e = .returned (.int .i64 (-1)) ∧ w = w' := by
  refine (Tryz.strings_IndexByte _ _ w).mono fun e w' ⟨he, hw⟩ => ?_
  have hn := idx_no ([40, 41, 34] : List UInt8) c (fun hm => by rw [part_mem.2 hm] at h; cases h)
  rw [u8_back] at he
  exact ⟨by rw [he]; exact congrArg (fun x => Ending.returned (.int .i64 x)) hn, hw.symm⟩

set_option maxRecDepth 100000 in
set_option maxHeartbeats 1000000 in
theorem inWord_any (c : UInt8) (w : World) :
    Calls Tryz.prog 50 #[.int .u8 (c.toNat : Int)] w fun e w' => e = .returned (.bool (wordB c)) ∧ w = w' := by
  have hc := byte_lt c
  by_cases h1 : 32 < c.toNat
  · have b1 : (32 : Int) < (c.toNat : Int) := by omega
    by_cases h2 : c.toNat = 127
    · have b2 : (((c.toNat : Nat) : Int) != 127) = false := by rw [bne, beq_yes (by omega)]; rfl
      have HW : Hid (wordB c = false) := by unfold Hid wordB; rw [decide_eq_false (p := c.toNat ≠ 127) (by omega)]; simp
      clear h2
      go_enter Tryz.func50, Tryz.ntmps50
      go_wp2_with fail
      go_ret
      exact ⟨ret_bool HW.out.symm, rfl⟩
    · have b2 : (((c.toNat : Nat) : Int) != 127) = true := by rw [bne, beq_no (by omega)]; rfl
      rcases Bool.eq_false_or_eq_true (signB c) with h3 | h3
      · have HS := Lib.hid (fun w => sign_yes h3 w)
        have HW : Hid (wordB c = false) := by unfold Hid wordB; rw [h3]; simp
        clear h2
        go_enter Tryz.func50, Tryz.ntmps50
        go_wp2_with (go_at_call 29; refine (HS.out _).mono ?_; rintro e w1 ⟨n, rfl, rfl⟩; have hnn : decide ((n : Int) < 0) = false := decide_eq_false (by omega))
        go_ret
        exact ⟨ret_bool HW.out.symm, rfl⟩
      · have HS := Lib.hid (fun w => sign_no h3 w)
        rcases Bool.eq_false_or_eq_true (partB c) with h4 | h4
        · have HP := Lib.hid (fun w => part_yes h4 w)
          have HW : Hid (wordB c = false) := by unfold Hid wordB; rw [h4]; simp
          clear h2
          go_enter Tryz.func50, Tryz.ntmps50
          go_wp2_with (first | (go_at_call 29; with_reducible refine (HS.out _).mono ?_; rintro e w1 ⟨rfl, rfl⟩) | (go_at_call 29; with_reducible refine (HP.out _).mono ?_; rintro e w1 ⟨n, rfl, rfl⟩; have hnn : decide ((n : Int) < 0) = false := decide_eq_false (by omega)))
          go_ret
          exact ⟨ret_bool HW.out.symm, rfl⟩
        · have HP := Lib.hid (fun w => part_no h4 w)
          have HW : Hid (wordB c = true) := by unfold Hid wordB; rw [h3, h4, decide_eq_true h1, decide_eq_true (p := c.toNat ≠ 127) h2]; rfl
          clear h2
          go_enter Tryz.func50, Tryz.ntmps50
          go_wp2_with (first | (go_at_call 29; with_reducible refine (HS.out _).mono ?_; rintro e w1 ⟨rfl, rfl⟩) | (go_at_call 29; with_reducible refine (HP.out _).mono ?_; rintro e w1 ⟨rfl, rfl⟩))
          go_ret
          exact ⟨ret_bool HW.out.symm, rfl⟩
  · have b1 : ¬ (32 : Int) < (c.toNat : Int) := by omega
    have HW : Hid (wordB c = false) := by unfold Hid wordB; rw [decide_eq_false h1]; rfl
    go_enter Tryz.func50, Tryz.ntmps50
    go_wp2_with fail
    go_ret
    exact ⟨ret_bool HW.out.symm, rfl⟩

set_option maxHeartbeats 1000000 in
theorem aBehindComment_any (s : ByteArray) (k : Nat) (w : World) (hl : s.size ≤ 1000000000) (hk : k < s.size) (h40 : s[k].toNat = 40) :
    Calls Tryz.prog 32 #[.string s, .int .i64 (k : Int)] w fun e w' => ∃ r : Nat, e = .returned (.int .i64 (r : Int)) ∧ k < r ∧ r ≤ s.size ∧ sk (s.data.toList.drop k) = sk (s.data.toList.drop r) ∧ w = w' := by
  have H40 := Lib.hid h40
  clear h40
  go_enter Tryz.func32, Tryz.ntmps32
  go_wp2_with fail
  go_loopg [1, 5] (s.size + 1 - k) (fun g v1 v5 wr => ∃ j d : Nat, g = s.size + 1 - j ∧ k ≤ j ∧ j ≤ s.size + 1 ∧ v1 = .int .i64 (j : Int) ∧ v5 = .int .i64 (d : Int) ∧ d ≤ j ∧ ((j = k ∧ d = 0) ∨ (k < j ∧ 1 ≤ d)) ∧ Hid (sk (s.data.toList.drop k) = skL false d (s.data.toList.drop j)) ∧ w = wr)
  case atStart => exact ⟨k, 0, by omega, by omega, by omega, rfl, rfl, by omega, .inl ⟨rfl, rfl⟩, rfl, rfl⟩
  case round =>
    obtain ⟨j, d, rfl, hkj, hj, rfl, rfl, hdj, hjd, HS, rfl⟩ := hrel
    by_cases hlt : j < s.size
    · have HD := Lib.hid (drop_cons s j hlt)
      rw [HD.out] at HS
      have HC := Lib.hid (fun (a : Nat) (h : s[j].toNat = a) (h2 : a < 256) => toNat_eq (a := s[j]) (b := byteN a) (by rw [h, byteN_toNat a h2]))
      by_cases h92 : s[j].toNat = 92
      · have hd1 : 1 ≤ d ∧ k < j := by
          rcases hjd with ⟨e, _⟩ | ⟨h1, h2⟩
          · subst e; have := H40.out; omega
          · exact ⟨h2, h1⟩
        have b1 : (((s[j].toNat : Nat) : Int) == 92) = true := beq_yes (by omega)
        have b4 : ((d : Int) == 0) = false := beq_no (by omega)
        have HC1 := Lib.hid (HC.out 92 h92 (by omega))
        clear HC
        go_wp2_with fail
        go_roundg (s.size + 1 - (j + 2))
        case measure => omega
        case rel =>
          refine ⟨j + 2, d, rfl, by omega, by omega, by go_num, rfl, by omega, .inr ⟨by omega, hd1.1⟩, ?_, rfl⟩
          unfold Hid
          obtain ⟨d', rfl⟩ : ∃ d', d = d' + 1 := ⟨d - 1, by omega⟩
          rw [HS.out, HC1.out]
          refine (skL_stroke _ _).trans ?_
          rw [List.drop_drop]
      · have b1 : (((s[j].toNat : Nat) : Int) == 92) = false := beq_no (by omega)
        have HN1 : Hid (s[j] ≠ 92) := fun e => h92 (by rw [e]; rfl)
        by_cases h40 : s[j].toNat = 40
        · have b2 : (((s[j].toNat : Nat) : Int) == 40) = true := beq_yes (by omega)
          have b4 : (((d : Int) + 1) == 0) = false := beq_no (by omega)
          have HC1 := Lib.hid (HC.out 40 h40 (by omega))
          clear HC
          go_wp2_with fail
          go_roundg (s.size + 1 - (j + 1))
          case measure => omega
          case rel =>
            refine ⟨j + 1, d + 1, rfl, by omega, by omega, by go_num, by go_num, by omega, .inr ⟨by omega, by omega⟩, ?_, rfl⟩
            unfold Hid
            rw [HS.out, HC1.out]
            exact skL_open _ _
        · have b2 : (((s[j].toNat : Nat) : Int) == 40) = false := beq_no (by omega)
          have HN2 : Hid (s[j] ≠ 40) := fun e => h40 (by rw [e]; rfl)
          have hd1 : 1 ≤ d ∧ k < j := by
            rcases hjd with ⟨e, _⟩ | ⟨h1, h2⟩
            · subst e; exact absurd H40.out h40
            · exact ⟨h2, h1⟩
          by_cases h41 : s[j].toNat = 41
          · have b3 : (((s[j].toNat : Nat) : Int) == 41) = true := beq_yes (by omega)
            have HC1 := Lib.hid (HC.out 41 h41 (by omega))
            clear HC
            by_cases hd : d = 1
            · subst hd
              go_wp2_with fail
              go_ret
              refine ⟨j + 1, by go_num, by omega, by omega, ?_, rfl⟩
              rw [HS.out, HC1.out]
              exact skL_shut 0 _
            · have b4 : (((d : Int) - 1) == 0) = false := beq_no (by omega)
              go_wp2_with fail
              go_roundg (s.size + 1 - (j + 1))
              case measure => omega
              case rel =>
                refine ⟨j + 1, d - 1, rfl, by omega, by omega, by go_num, by go_num, by omega, .inr ⟨by omega, by omega⟩, ?_, rfl⟩
                unfold Hid
                obtain ⟨d', rfl⟩ : ∃ d', d = d' + 1 := ⟨d - 1, by omega⟩
                rw [HS.out, HC1.out]
                exact skL_shut _ _
          · have b3 : (((s[j].toNat : Nat) : Int) == 41) = false := beq_no (by omega)
            have HN3 : Hid (s[j] ≠ 41) := fun e => h41 (by rw [e]; rfl)
            have b4 : ((d : Int) == 0) = false := beq_no (by omega)
            clear HC
            go_wp2_with fail
            go_roundg (s.size + 1 - (j + 1))
            case measure => omega
            case rel =>
              refine ⟨j + 1, d, rfl, by omega, by omega, by go_num, rfl, by omega, .inr ⟨by omega, hd1.1⟩, ?_, rfl⟩
              unfold Hid
              obtain ⟨d', rfl⟩ : ∃ d', d = d' + 1 := ⟨d - 1, by omega⟩
              rw [HS.out]
              exact skL_other _ _ _ HN1.out HN2.out HN3.out
    · have HE : Hid (s.data.toList.drop j = []) := List.drop_eq_nil_of_le (by simp; omega)
      go_wp2_with fail
      go_ret
      refine ⟨s.size, rfl, hk, Nat.le_refl _, ?_, rfl⟩
      rw [HS.out, HE.out, skL_nil, List.drop_eq_nil_of_le (by simp)]
      exact (skL_nil _ _).symm

theorem aSk_blank {c : UInt8} (l : List UInt8) (h : blk c = true) : sk (c :: l) = sk l := by
  show (if blk c = true then _ else _) = _
  rw [if_pos h]
  rfl
theorem aSk_stay {c : UInt8} (l : List UInt8) (h : blk c = false) (h2 : c ≠ 40) : sk (c :: l) = c :: l := by
  show (if blk c = true then _ else if c = 40 then _ else _) = _
  rw [if_neg (by rw [h]; simp), if_neg h2]
theorem aBlank_byte (c : UInt8) (w : World) :
    Calls Tryz.prog 31 #[.int .u8 (c.toNat : Int)] w fun e w' => e = .returned (.bool (blk c)) ∧ w = w' :=
  blank_any _ w
set_option maxRecDepth 100000 in
set_option maxHeartbeats 1000000 in
theorem behindBlanks_any (s : ByteArray) (k : Nat) (w : World) (hl : s.size ≤ 1000000000) (hk : k ≤ s.size) :
    Calls Tryz.prog 21 #[.string s, .int .i64 (k : Int)] w fun e w' => ∃ r : Nat, e = .returned (.int .i64 (r : Int)) ∧ r ≤ s.size ∧ s.data.toList.drop r = sk (s.data.toList.drop k) ∧ w = w' := by
  have HBl := Lib.hid aBlank_byte
  have HC := Lib.hid (fun j W h h40 => aBehindComment_any s j W hl h h40)
  go_enter Tryz.func21, Tryz.ntmps21
  go_wp2_with fail
  go_loopg [1] (s.size - k) (fun g v1 wr => ∃ j : Nat, g = s.size - j ∧ j ≤ s.size ∧ v1 = .int .i64 (j : Int) ∧ Hid (sk (s.data.toList.drop k) = sk (s.data.toList.drop j)) ∧ w = wr)
  case atStart => exact ⟨k, by omega, by omega, rfl, rfl, rfl⟩
  case round =>
    obtain ⟨j, rfl, hj, rfl, HS, rfl⟩ := hrel
    by_cases hlt : j < s.size
    · have HD := Lib.hid (drop_cons s j hlt)
      rw [HD.out] at HS
      have HCj := Lib.hid (fun W => HC.out j W hlt)
      have HBj := Lib.hid (HBl.out s[j])
      rcases Bool.eq_false_or_eq_true (blk s[j]) with hb | hb
      · have HSk := Lib.hid (aSk_blank (s.data.toList.drop (j + 1)) hb)
        rw [hb] at HBj
        go_wp2_with (go_at_call 31; refine (HBj.out _).mono ?_; rintro e w1 ⟨rfl, rfl⟩)
        go_roundg (s.size - (j + 1))
        case measure => omega
        case rel => exact ⟨j + 1, rfl, by omega, by go_num, by unfold Hid; rw [HS.out, HSk.out], rfl⟩
      · rw [hb] at HBj
        by_cases h40 : s[j].toNat = 40
        · have b2 : (((s[j].toNat : Nat) : Int) == 40) = true := beq_yes (by omega)
          have HC40 := Lib.hid (fun W => HC.out j W hlt h40)
          clear h40 HCj
          go_wp2_with (first | (go_at_call 31; refine (HBj.out _).mono ?_; rintro e w1 ⟨rfl, rfl⟩) | (go_at_call 32; refine (HC40.out _).mono ?_; rintro e w1 ⟨r, rfl, hr1, hr2, hr3, rfl⟩))
          go_roundg (s.size - r)
          case measure => omega
          case rel => exact ⟨r, rfl, hr2, rfl, by unfold Hid; rw [HS.out, ← HD.out, hr3], rfl⟩
        · have b2 : (((s[j].toNat : Nat) : Int) == 40) = false := beq_no (by omega)
          have HSk := Lib.hid (aSk_stay (s.data.toList.drop (j + 1)) hb (fun e => h40 (by rw [e]; rfl)))
          go_wp2_with (go_at_call 31; refine (HBj.out _).mono ?_; rintro e w1 ⟨rfl, rfl⟩)
          go_ret
          exact ⟨j, rfl, hj, by rw [HD.out, HS.out, HSk.out], rfl⟩
    · have HE : Hid (s.data.toList.drop j = []) := List.drop_eq_nil_of_le (by simp; omega)
      go_wp2_with fail
      go_ret
      exact ⟨j, rfl, hj, by rw [HS.out, HE.out]; rfl, rfl⟩
end Go.Proofs.YtjlcphofkepajaaGreat
