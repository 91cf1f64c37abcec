/- Contracts of package addr: what is skipped, and what a word is made of. -/
import Derived.Test.YtkmgflnmffdhjaaGreatDoorGbAdM
import Derived.Test.YtkmgflnmffdhjaaGreatDoorGbChars7
import Derived.Test.YtkmgflnmffdhjaaGreatDoorShelf
import Derived.Shelf.Strings.BuilderK
import Derived.Test.YtkmgflnmffdhjaaGreatDoorProg
namespace Go.Proofs.YtkmgflnmffdhjaaGreatDoor
open Go Go.RowKit

theorem idx_yes : ∀ (l : List UInt8) (c : UInt8), c ∈ l → ∃ n : Nat, Lib.indexByte l c = (n : Int)
  | b :: l, c, h => by
    by_cases hb : (b == c) = true
    · exact ⟨0, by unfold Lib.indexByte; rw [if_pos hb]; rfl⟩
    · have hc : c ∈ l := by
        rcases List.mem_cons.1 h with rfl | h
        · simp at hb
        · exact h
      obtain ⟨n, hn⟩ := idx_yes l c hc
      exact ⟨n + 1, by unfold Lib.indexByte; rw [if_neg hb, hn, if_neg (by simp)]; rfl⟩
theorem idx_no : ∀ (l : List UInt8) (c : UInt8), c ∉ l → Lib.indexByte l c = -1
  | [], c, h => rfl
  | b :: l, c, h => by
    have h1 : c ≠ b ∧ c ∉ l := by simpa using h
    unfold Lib.indexByte
    rw [if_neg (by simpa using fun e => h1.1 e.symm), idx_no l c h1.2]
    rfl
theorem u8_back (c : UInt8) : ((c.toNat : Int)).toNat.toUInt8 = c := by simp
theorem sign_mem {c : UInt8} : signB c = true ↔ c ∈ ([60, 62, 58, 59, 44, 64] : List UInt8) := by simp [signB, or_assoc]
theorem part_mem {c : UInt8} : partB c = true ↔ c ∈ ([40, 41, 34] : List UInt8) := by simp [partB, or_assoc]
theorem sign_yes {c : UInt8} (h : signB c = true) (w : World) :
    Calls Tryz.prog 112 #[.string ⟨#[60, 62, 58, 59, 44, 64]⟩, .int .u8 (c.toNat : Int)] w fun e w' => ∃ n : Nat, e = .returned (.int .i64 (n : Int)) ∧ w = w' := by
  refine (Tryz.strings_IndexByte _ _ w).mono fun e w' ⟨he, hw⟩ => ?_
  obtain ⟨n, hn⟩ := idx_yes _ _ (sign_mem.1 h)
  rw [u8_back] at he
  exact ⟨n, by rw [he]; exact congrArg (fun x => Ending.returned (.int .i64 x)) hn, hw.symm⟩
theorem sign_no {c : UInt8} (h : signB c = false) (w : World) :
    Calls Tryz.prog 112 #[.string ⟨#[60, 62, 58, 59, 44, 64]⟩, .int .u8 (c.toNat : Int)] w fun e w' => e = .returned (.int .i64 (-1)) ∧ w = w' := by
  refine (Tryz.strings_IndexByte _ _ w).mono fun e w' ⟨he, hw⟩ => ?_
  have hn := idx_no ([60, 62, 58, 59, 44, 64] : List UInt8) c (fun hm => by rw [sign_mem.2 hm] at h; cases h)
  rw [u8_back] at he
  exact ⟨by rw [he]; exact congrArg (fun x => Ending.returned (.int .i64 x)) hn, hw.symm⟩
theorem part_yes {c : UInt8} (h : partB c = true) (w : World) :
    Calls Tryz.prog 112 #[.string ⟨#[40, 41, 34]⟩, .int .u8 (c.toNat : Int)] w fun e w' => ∃ n : Nat, e = .returned (.int .i64 (n : Int)) ∧ w = w' := by
  refine (Tryz.strings_IndexByte _ _ w).mono fun e w' ⟨he, hw⟩ => ?_
  obtain ⟨n, hn⟩ := idx_yes _ _ (part_mem.1 h)
  rw [u8_back] at he
  exact ⟨n, by rw [he]; exact congrArg (fun x => Ending.returned (.int .i64 x)) hn, hw.symm⟩
theorem part_no {c : UInt8} (h : partB c = false) (w : World) :
    Calls Tryz.prog 112 #[.string ⟨#[40, 41, 34]⟩, .int .u8 (c.toNat : Int)] w fun e w' => e = .returned (.int .i64 (-1)) ∧ w = w' := by
  refine (Tryz.strings_IndexByte _ _ w).mono fun e w' ⟨he, hw⟩ => ?_
  have hn := idx_no ([40, 41, 34] : List UInt8) c (fun hm => by rw [part_mem.2 hm] at h; cases h)
  rw [u8_back] at he
  exact ⟨by rw [he]; exact congrArg (fun x => Ending.returned (.int .i64 x)) hn, hw.symm⟩

set_option maxRecDepth 100000 in
set_option maxHeartbeats 1000000 in
theorem inWord_any (c : UInt8) (w : World) :
    Calls Tryz.prog 235 #[.int .u8 (c.toNat : Int)] w fun e w' => e = .returned (.bool (wordBA c)) ∧ w = w' := by
  have hc := byte_lt c
  by_cases h1 : 32 < c.toNat
  · have b1 : (32 : Int) < (c.toNat : Int) := by omega
    by_cases h2 : c.toNat = 127
    · have b2 : (((c.toNat : Nat) : Int) != 127) = false := by rw [bne, beq_yes (by omega)]; rfl
      have HW : Hid (wordBA c = false) := by unfold Hid wordBA; rw [decide_eq_false (p := c.toNat ≠ 127) (by omega)]; simp
      clear h2
      go_enter Tryz.func235, Tryz.ntmps235
      go_wp2_with fail
      go_ret
      exact ⟨ret_bool HW.out.symm, rfl⟩
    · have b2 : (((c.toNat : Nat) : Int) != 127) = true := by rw [bne, beq_no (by omega)]; rfl
      rcases Bool.eq_false_or_eq_true (signB c) with h3 | h3
      · have HS := Lib.hid (fun w => sign_yes h3 w)
        have HW : Hid (wordBA c = false) := by unfold Hid wordBA; rw [h3]; simp
        clear h2
        go_enter Tryz.func235, Tryz.ntmps235
        go_wp2_with (go_at_call 112; refine (HS.out _).mono ?_; rintro e w1 ⟨n, rfl, rfl⟩; have hnn : decide ((n : Int) < 0) = false := decide_eq_false (by omega))
        go_ret
        exact ⟨ret_bool HW.out.symm, rfl⟩
      · have HS := Lib.hid (fun w => sign_no h3 w)
        rcases Bool.eq_false_or_eq_true (partB c) with h4 | h4
        · have HP := Lib.hid (fun w => part_yes h4 w)
          have HW : Hid (wordBA c = false) := by unfold Hid wordBA; rw [h4]; simp
          clear h2
          go_enter Tryz.func235, Tryz.ntmps235
          go_wp2_with (first | (go_at_call 112; with_reducible refine (HS.out _).mono ?_; rintro e w1 ⟨rfl, rfl⟩) | (go_at_call 112; with_reducible refine (HP.out _).mono ?_; rintro e w1 ⟨n, rfl, rfl⟩; have hnn : decide ((n : Int) < 0) = false := decide_eq_false (by omega)))
          go_ret
          exact ⟨ret_bool HW.out.symm, rfl⟩
        · have HP := Lib.hid (fun w => part_no h4 w)
          have HW : Hid (wordBA c = true) := by unfold Hid wordBA; rw [h3, h4, decide_eq_true h1, decide_eq_true (p := c.toNat ≠ 127) h2]; rfl
          clear h2
          go_enter Tryz.func235, Tryz.ntmps235
          go_wp2_with (first | (go_at_call 112; with_reducible refine (HS.out _).mono ?_; rintro e w1 ⟨rfl, rfl⟩) | (go_at_call 112; with_reducible refine (HP.out _).mono ?_; rintro e w1 ⟨rfl, rfl⟩))
          go_ret
          exact ⟨ret_bool HW.out.symm, rfl⟩
  · have b1 : ¬ (32 : Int) < (c.toNat : Int) := by omega
    have HW : Hid (wordBA c = false) := by unfold Hid wordBA; rw [decide_eq_false h1]; rfl
    go_enter Tryz.func235, Tryz.ntmps235
    go_wp2_with fail
    go_ret
    exact ⟨ret_bool HW.out.symm, rfl⟩

set_option maxHeartbeats 1000000 in
theorem aBehindComment_any (s : ByteArray) (k : Nat) (w : World) (hl : s.size ≤ 1000000000) (hk : k < s.size) (h40 : s[k].toNat = 40) :
    Calls Tryz.prog 198 #[.string s, .int .i64 (k : Int)] w fun e w' => ∃ r : Nat, e = .returned (.int .i64 (r : Int)) ∧ k < r ∧ r ≤ s.size ∧ sk (s.data.toList.drop k) = sk (s.data.toList.drop r) ∧ w = w' := by
  have H40 := Lib.hid h40
  clear h40
  go_enter Tryz.func198, Tryz.ntmps198
  go_wp2_with fail
  go_loopg [1, 5] (s.size + 1 - k) (fun g v1 v5 wr => ∃ j d : Nat, g = s.size + 1 - j ∧ k ≤ j ∧ j ≤ s.size + 1 ∧ v1 = .int .i64 (j : Int) ∧ v5 = .int .i64 (d : Int) ∧ d ≤ j ∧ ((j = k ∧ d = 0) ∨ (k < j ∧ 1 ≤ d)) ∧ Hid (sk (s.data.toList.drop k) = skL false d (s.data.toList.drop j)) ∧ w = wr)
  case atStart => exact ⟨k, 0, by omega, by omega, by omega, rfl, rfl, by omega, .inl ⟨rfl, rfl⟩, rfl, rfl⟩
  case round =>
    obtain ⟨j, d, rfl, hkj, hj, rfl, rfl, hdj, hjd, HS, rfl⟩ := hrel
    by_cases hlt : j < s.size
    · have HD := Lib.hid (drop_cons s j hlt)
      rw [HD.out] at HS
      have HC := Lib.hid (fun (a : Nat) (h : s[j].toNat = a) (h2 : a < 256) => toNat_eq (a := s[j]) (b := byteN a) (by rw [h, byteN_toNat a h2]))
      by_cases h92 : s[j].toNat = 92
      · have hd1 : 1 ≤ d ∧ k < j := by
          rcases hjd with ⟨e, _⟩ | ⟨h1, h2⟩
          · subst e; have := H40.out; omega
          · exact ⟨h2, h1⟩
        have b1 : (((s[j].toNat : Nat) : Int) == 92) = true := beq_yes (by omega)
        have b4 : ((d : Int) == 0) = false := beq_no (by omega)
        have HC1 := Lib.hid (HC.out 92 h92 (by omega))
        clear HC
        go_wp2_with fail
        go_roundg (s.size + 1 - (j + 2))
        case measure => omega
        case rel =>
          refine ⟨j + 2, d, rfl, by omega, by omega, by go_num, rfl, by omega, .inr ⟨by omega, hd1.1⟩, ?_, rfl⟩
          unfold Hid
          obtain ⟨d', rfl⟩ : ∃ d', d = d' + 1 := ⟨d - 1, by omega⟩
          rw [HS.out, HC1.out]
          refine (skL_stroke _ _).trans ?_
          rw [List.drop_drop]
      · have b1 : (((s[j].toNat : Nat) : Int) == 92) = false := beq_no (by omega)
        have HN1 : Hid (s[j] ≠ 92) := fun e => h92 (by rw [e]; rfl)
        by_cases h40 : s[j].toNat = 40
        · have b2 : (((s[j].toNat : Nat) : Int) == 40) = true := beq_yes (by omega)
          have b4 : (((d : Int) + 1) == 0) = false := beq_no (by omega)
          have HC1 := Lib.hid (HC.out 40 h40 (by omega))
          clear HC
          go_wp2_with fail
          go_roundg (s.size + 1 - (j + 1))
          case measure => omega
          case rel =>
            refine ⟨j + 1, d + 1, rfl, by omega, by omega, by go_num, by go_num, by omega, .inr ⟨by omega, by omega⟩, ?_, rfl⟩
            unfold Hid
            rw [HS.out, HC1.out]
            exact skL_open _ _
        · have b2 : (((s[j].toNat : Nat) : Int) == 40) = false := beq_no (by omega)
          have HN2 : Hid (s[j] ≠ 40) := fun e => h40 (by rw [e]; rfl)
          have hd1 : 1 ≤ d ∧ k < j := by
            rcases hjd with ⟨e, _⟩ | ⟨h1, h2⟩
            · subst e; exact absurd H40.out h40
            · exact ⟨h2, h1⟩
          by_cases h41 : s[j].toNat = 41
          · have b3 : (((s[j].toNat : Nat) : Int) == 41) = true := beq_yes (by omega)
            have HC1 := Lib.hid (HC.out 41 h41 (by omega))
            clear HC
            by_cases hd : d = 1
            · subst hd
              go_wp2_with fail
              go_ret
              refine ⟨j + 1, by go_num, by omega, by omega, ?_, rfl⟩
              rw [HS.out, HC1.out]
              exact skL_shut 0 _
            · have b4 : (((d : Int) - 1) == 0) = false := beq_no (by omega)
              go_wp2_with fail
              go_roundg (s.size + 1 - (j + 1))
              case measure => omega
              case rel =>
                refine ⟨j + 1, d - 1, rfl, by omega, by omega, by go_num, by go_num, by omega, .inr ⟨by omega, by omega⟩, ?_, rfl⟩
                unfold Hid
                obtain ⟨d', rfl⟩ : ∃ d', d = d' + 1 := ⟨d - 1, by omega⟩
                rw [HS.out, HC1.out]
                exact skL_shut _ _
          · have b3 : (((s[j].toNat : Nat) : Int) == 41) = false := beq_no (by omega)
            have HN3 : Hid (s[j] ≠ 41) := fun e => h41 (by rw [e]; rfl)
            have b4 : ((d : Int) == 0) = false := beq_no (by omega)
            clear HC
            go_wp2_with fail
            go_roundg (s.size + 1 - (j + 1))
            case measure => omega
            case rel =>
              refine ⟨j + 1, d, rfl, by omega, by omega, by go_num, rfl, by omega, .inr ⟨by omega, hd1.1⟩, ?_, rfl⟩
              unfold Hid
              obtain ⟨d', rfl⟩ : ∃ d', d = d' + 1 := ⟨d - 1, by omega⟩
              rw [HS.out]
              exact skL_other _ _ _ HN1.out HN2.out HN3.out
    · have HE : Hid (s.data.toList.drop j = []) := List.drop_eq_nil_of_le (by simp; omega)
      go_wp2_with fail
      go_ret
      refine ⟨s.size, rfl, hk, Nat.le_refl _, ?_, rfl⟩
      rw [HS.out, HE.out, skL_nil, List.drop_eq_nil_of_le (by simp)]
      exact (skL_nil _ _).symm

theorem aSk_blank {c : UInt8} (l : List UInt8) (h : blk c = true) : sk (c :: l) = sk l := by
  show (if blk c = true then _ else _) = _
  rw [if_pos h]
  rfl
theorem aSk_stay {c : UInt8} (l : List UInt8) (h : blk c = false) (h2 : c ≠ 40) : sk (c :: l) = c :: l := by
  show (if blk c = true then _ else if c = 40 then _ else _) = _
  rw [if_neg (by rw [h]; simp), if_neg h2]
theorem aBlank_byte (c : UInt8) (w : World) :
    Calls Tryz.prog 81 #[.int .u8 (c.toNat : Int)] w fun e w' => e = .returned (.bool (blk c)) ∧ w = w' :=
  blank_any _ w
set_option maxRecDepth 100000 in
set_option maxHeartbeats 1000000 in
theorem behindBlanks_any (s : ByteArray) (k : Nat) (w : World) (hl : s.size ≤ 1000000000) (hk : k ≤ s.size) :
    Calls Tryz.prog 171 #[.string s, .int .i64 (k : Int)] w fun e w' => ∃ r : Nat, e = .returned (.int .i64 (r : Int)) ∧ r ≤ s.size ∧ s.data.toList.drop r = sk (s.data.toList.drop k) ∧ w = w' := by
  have HBl := Lib.hid aBlank_byte
  have HC := Lib.hid (fun j W h h40 => aBehindComment_any s j W hl h h40)
  go_enter Tryz.func171, Tryz.ntmps171
  go_wp2_with fail
  go_loopg [1] (s.size - k) (fun g v1 wr => ∃ j : Nat, g = s.size - j ∧ j ≤ s.size ∧ v1 = .int .i64 (j : Int) ∧ Hid (sk (s.data.toList.drop k) = sk (s.data.toList.drop j)) ∧ w = wr)
  case atStart => exact ⟨k, by omega, by omega, rfl, rfl, rfl⟩
  case round =>
    obtain ⟨j, rfl, hj, rfl, HS, rfl⟩ := hrel
    by_cases hlt : j < s.size
    · have HD := Lib.hid (drop_cons s j hlt)
      rw [HD.out] at HS
      have HCj := Lib.hid (fun W => HC.out j W hlt)
      have HBj := Lib.hid (HBl.out s[j])
      rcases Bool.eq_false_or_eq_true (blk s[j]) with hb | hb
      · have HSk := Lib.hid (aSk_blank (s.data.toList.drop (j + 1)) hb)
        rw [hb] at HBj
        go_wp2_with (go_at_call 81; refine (HBj.out _).mono ?_; rintro e w1 ⟨rfl, rfl⟩)
        go_roundg (s.size - (j + 1))
        case measure => omega
        case rel => exact ⟨j + 1, rfl, by omega, by go_num, by unfold Hid; rw [HS.out, HSk.out], rfl⟩
      · rw [hb] at HBj
        by_cases h40 : s[j].toNat = 40
        · have b2 : (((s[j].toNat : Nat) : Int) == 40) = true := beq_yes (by omega)
          have HC40 := Lib.hid (fun W => HC.out j W hlt h40)
          clear h40 HCj
          go_wp2_with (first | (go_at_call 81; refine (HBj.out _).mono ?_; rintro e w1 ⟨rfl, rfl⟩) | (go_at_call 198; refine (HC40.out _).mono ?_; rintro e w1 ⟨r, rfl, hr1, hr2, hr3, rfl⟩))
          go_roundg (s.size - r)
          case measure => omega
          case rel => exact ⟨r, rfl, hr2, rfl, by unfold Hid; rw [HS.out, ← HD.out, hr3], rfl⟩
        · have b2 : (((s[j].toNat : Nat) : Int) == 40) = false := beq_no (by omega)
          have HSk := Lib.hid (aSk_stay (s.data.toList.drop (j + 1)) hb (fun e => h40 (by rw [e]; rfl)))
          go_wp2_with (go_at_call 81; refine (HBj.out _).mono ?_; rintro e w1 ⟨rfl, rfl⟩)
          go_ret
          exact ⟨j, rfl, hj, by rw [HD.out, HS.out, HSk.out], rfl⟩
    · have HE : Hid (s.data.toList.drop j = []) := List.drop_eq_nil_of_le (by simp; omega)
      go_wp2_with fail
      go_ret
      exact ⟨j, rfl, hj, by rw [HS.out, HE.out]; rfl, rfl⟩
end Go.Proofs.YtkmgflnmffdhjaaGreatDoor

/- Contracts of package addr: a word that isn't quoted. -/
namespace Go.Proofs.YtkmgflnmffdhjaaGreatDoor
open Go Go.RowKit

theorem idx_drop (s : ByteArray) (j : Nat) (w : World) :
    Calls Tryz.prog 112 #[.string (s.extract j s.size), .int .u8 93] w fun e w' => e = .returned (.int .i64 (Lib.indexByte (s.data.toList.drop j) 93)) ∧ w = w' := by
  refine (Tryz.strings_IndexByte _ _ w).mono fun e w' ⟨he, hw⟩ => ?_
  refine ⟨?_, hw.symm⟩
  rw [he]
  have e1 : (s.extract j s.size).data.toList = s.data.toList.drop j := by
    rw [extract_toList]
    exact List.take_of_length_le (by simp)
  rw [e1]
  rfl
theorem index_91 (r : List UInt8) : (Lib.indexByte (91 :: r) 93 = -1 ∧ bareA false (91 :: r) = none) ∨
    ∃ n : Nat, Lib.indexByte (91 :: r) 93 = (n : Int) ∧ n < (91 :: r).length ∧ bareA false (91 :: r) = (bareA false ((91 :: r).drop (n + 1))).map (fun p => ((91 :: r).take (n + 1) ++ p.1, p.2)) :=
  index_93 (91 :: r)
theorem take_more (l : List UInt8) {k j : Nat} (m : Nat) (h : k ≤ j) : (l.drop k).take (j - k) ++ (l.drop j).take m = (l.drop k).take (j + m - k) := by
  rw [show j + m - k = (j - k) + m by omega, List.take_add, List.drop_drop, show k + (j - k) = j by omega]
def bareIs (D : List UInt8) (s : ByteArray) (v : List UInt8) (j : Nat) (b : Bool) : Prop :=
  match bareA false D with
  | some (w, r) => b = !w.isEmpty ∧ v = w ∧ s.data.toList.drop j = r
  | none => b = false
theorem bareIs_none {D : List UInt8} {s : ByteArray} {v : List UInt8} {j : Nat} (h : bareA false D = none) : bareIs D s v j false := by unfold bareIs; rw [h]
theorem bareIs_some {D w r : List UInt8} {s : ByteArray} {v : List UInt8} {j : Nat} {b : Bool} (h : bareA false D = some (w, r)) (h1 : b = !w.isEmpty) (h2 : v = w) (h3 : s.data.toList.drop j = r) : bareIs D s v j b := by unfold bareIs; rw [h]; exact ⟨h1, h2, h3⟩
theorem bare_end {s : ByteArray} {k j : Nat} {X : List UInt8} (hk : k ≤ j) (hj : j ≤ s.size)
    (hS : bareA false (s.data.toList.drop k) = (bareA false (s.data.toList.drop j)).map (fun p => ((s.data.toList.drop k).take (j - k) ++ p.1, p.2))) (hE : bareA false (s.data.toList.drop j) = some ([], X)) (hX : X = s.data.toList.drop j) :
    bareIs (s.data.toList.drop k) s (s.extract k j).data.toList j (decide (k < j)) := by
  rw [hE] at hS
  refine bareIs_some hS ?_ ?_ hX.symm
  · show _ = !((s.data.toList.drop k).take (j - k) ++ []).isEmpty
    rw [List.append_nil]
    rcases Nat.lt_or_ge k j with h | h
    · have hne : ((s.data.toList.drop k).take (j - k)) ≠ [] := by
        intro e
        have := congrArg List.length e
        simp at this
        omega
      rw [decide_eq_true h]
      cases hq : (s.data.toList.drop k).take (j - k) with
      | nil => exact absurd hq hne
      | cons a b => rfl
    · rw [decide_eq_false (by omega), show j - k = 0 by omega]
      rfl
  · rw [extract_toList, List.append_nil]
theorem bare_word (c : UInt8) (l : List UInt8) (h1 : c ≠ 91) (h2 : wordBA c = true) : bareA false (c :: l) = preA c (bareA false l) := by
  show (if c = 91 then _ else if wordBA c = true then _ else _) = _
  rw [if_neg h1, if_pos h2]
theorem bare_stop (c : UInt8) (l : List UInt8) (h1 : c ≠ 91) (h2 : wordBA c = false) : bareA false (c :: l) = some ([], c :: l) := by
  show (if c = 91 then _ else if wordBA c = true then _ else _) = _
  rw [if_neg h1, if_neg (by rw [h2]; simp)]

set_option maxRecDepth 100000 in
set_option maxHeartbeats 2000000 in
theorem bare_any (s : ByteArray) (k : Nat) (w : World) (hl : s.size ≤ 1000000000) (hk : k ≤ s.size) :
    Calls Tryz.prog 222 #[.string s, .int .i64 (k : Int)] w fun e w' => ∃ (v : List UInt8) (j : Nat) (b : Bool), e = .returned (.tuple #[.string ⟨v.toArray⟩, .int .i64 (j : Int), .bool b]) ∧ j ≤ s.size ∧
      bareIs (s.data.toList.drop k) s v j b ∧ w = w' := by
  have HI := Lib.hid (fun j W => idx_drop s j W)
  have HW := Lib.hid inWord_any
  go_enter Tryz.func222, Tryz.ntmps222
  go_wp2_with fail
  go_step3
  go_wp2_with fail
  go_step3
  go_wp2_with fail
  go_loopg [7] (s.size - k) (fun g v7 wr => ∃ j : Nat, g = s.size - j ∧ k ≤ j ∧ j ≤ s.size ∧ v7 = .int .i64 (j : Int) ∧
    Hid (bareA false (s.data.toList.drop k) = (bareA false (s.data.toList.drop j)).map (fun p => ((s.data.toList.drop k).take (j - k) ++ p.1, p.2))) ∧ w = wr)
  case atStart => exact ⟨k, by omega, by omega, by omega, rfl, by unfold Hid; simp, rfl⟩
  case round =>
    obtain ⟨j, rfl, hkj, hj, rfl, HS, rfl⟩ := hrel
    have hkj' : (k : Int) ≤ (j : Int) := by omega
    have hj' : (j : Int) ≤ (s.size : Int) := by omega
    by_cases hlt : j < s.size
    · have HD := Lib.hid (drop_cons s j hlt)
      by_cases h91 : s[j].toNat = 91
      · have b1 : (((s[j].toNat : Nat) : Int) == 91) = true := beq_yes (by omega)
        have HC : Hid (s.data.toList.drop j = 91 :: s.data.toList.drop (j + 1)) := by unfold Hid; rw [HD.out, show s[j] = 91 from toNat_eq h91]
        have HIj := Lib.hid (fun W => HI.out j W)
        clear h91
        rcases index_91 (s.data.toList.drop (j + 1)) with ⟨hi, hb⟩ | ⟨n, hi, hn, hb⟩
        · rw [HC.out, hi] at HIj
          have HBn := Lib.hid hb
          clear hi hb
          go_wp2_with (go_at_call 112; refine (HIj.out _).mono ?_; rintro e w1 ⟨rfl, rfl⟩)
          simp only [Exit.noGoto_ret]
          refine bodyPost_ret (v := .tuple #[.string ⟨#[]⟩, .int .i64 (j : Int), .bool false]) (by simp [results, Tryz.results222, go_sem]) rfl ?_
          refine ⟨[], j, false, rfl, hj, bareIs_none ?_, rfl⟩
          rw [HS.out, HC.out, HBn.out]
          rfl
        · rw [HC.out, hi] at HIj
          have HBn := Lib.hid hb
          have hn2 : n < s.size - j := by
            rw [← HC.out] at hn
            simpa using hn
          clear hi hb hn
          go_wp2_with (go_at_call 112; refine (HIj.out _).mono ?_; rintro e w1 ⟨rfl, rfl⟩)
          go_roundg (s.size - (j + (n + 1)))
          case measure => omega
          case rel =>
            refine ⟨j + (n + 1), rfl, by omega, by omega, by go_num, ?_, rfl⟩
            unfold Hid
            rw [HS.out, HC.out, HBn.out, ← HC.out, Option.map_map, List.drop_drop, ← take_more s.data.toList (n + 1) hkj]
            congr 1
            funext p
            simp
      · have b1 : (((s[j].toNat : Nat) : Int) == 91) = false := beq_no (by omega)
        have HN : Hid (s[j] ≠ 91) := fun e => h91 (by rw [e]; rfl)
        have HWj := Lib.hid (fun W => HW.out s[j] W)
        clear h91
        rcases Bool.eq_false_or_eq_true (wordBA s[j]) with hw | hw
        · rw [hw] at HWj
          have HB := Lib.hid (bare_word s[j] (s.data.toList.drop (j + 1)) HN.out hw)
          go_wp2_with (go_at_call 235; refine (HWj.out _).mono ?_; rintro e w1 ⟨rfl, rfl⟩)
          go_roundg (s.size - (j + 1))
          case measure => omega
          case rel =>
            refine ⟨j + 1, rfl, by omega, by omega, by go_num, ?_, rfl⟩
            unfold Hid
            rw [HS.out, HD.out, HB.out, ← take_more s.data.toList 1 hkj]
            rw [HD.out]
            unfold preA
            rw [Option.map_map]
            congr 1
            funext p
            simp
        · rw [hw] at HWj
          have HB := Lib.hid (bare_stop s[j] (s.data.toList.drop (j + 1)) HN.out hw)
          go_wp2_with (go_at_call 235; refine (HWj.out _).mono ?_; rintro e w1 ⟨rfl, rfl⟩)
          simp only [Exit.noGoto_ret]
          refine bodyPost_ret (v := .tuple #[.string (s.extract k j), .int .i64 (j : Int), .bool (decide (k < j))]) (by simp [results, Tryz.results222, go_sem]) rfl ?_
          exact ⟨(s.extract k j).data.toList, j, decide (k < j), rfl, hj, bare_end hkj hj HS.out ((congrArg (bareA false) HD.out).trans HB.out) HD.out.symm, rfl⟩
    · have HE : Hid (s.data.toList.drop j = []) := List.drop_eq_nil_of_le (by simp; omega)
      go_wp2_with fail
      simp only [Exit.noGoto_ret]
      refine bodyPost_ret (v := .tuple #[.string (s.extract k j), .int .i64 (j : Int), .bool (decide (k < j))]) (by simp [results, Tryz.results222, go_sem]) rfl ?_
      exact ⟨(s.extract k j).data.toList, j, decide (k < j), rfl, hj, bare_end hkj hj HS.out ((congrArg (bareA false) HE.out).trans rfl) HE.out.symm, rfl⟩
end Go.Proofs.YtkmgflnmffdhjaaGreatDoor

/- The shelf's (*strings.Builder).WriteByte at this dump, laid by hand, as WriteString's. -/
namespace Go.Proofs
open Go.Shelf
def Tryz.lays167_ren : Go.Shelf.Ren := ⟨fun | 167 => 132 | 240 => 87 | 276 => 120 | n => n, fun | 0 => 0 | 3 => 3 | 4 => 4 | 5 => 5 | 9 => 9 | 20 => 20 | 37 => 22 | 70 => 51 | 72 => 53 | 75 => 119 | 80 => 57 | 164 => 182 | n => n, fun | n => n⟩
theorem Tryz.lays167 : Go.Proofs.Lays.n167 Tryz.prog Tryz.lays167_ren := {
  mixed := by kernel_rfl
  f167 := Tryz.func132.trans (congrArg some (by kernel_rfl))
  f240 := Tryz.func87.trans (congrArg some (by kernel_rfl))
  f276 := Tryz.func120.trans (congrArg some (by kernel_rfl))
  t0 := Tryz.underlying0
  a0 := Tryz.isAgg0
  z0 := Tryz.sizeOf0
  v0 := Tryz.zeroValue0
  t5 := Tryz.underlying5
  a5 := Tryz.isAgg5
  z5 := Tryz.sizeOf5
  v5 := Tryz.zeroValue5
  t4 := Tryz.underlying4
  a4 := Tryz.isAgg4
  z4 := Tryz.sizeOf4
  v4 := Tryz.zeroValue4
  t9 := Tryz.underlying9
  a9 := Tryz.isAgg9
  z9 := Tryz.sizeOf9
  v9 := Tryz.zeroValue9
  t20 := Tryz.underlying20
  a20 := Tryz.isAgg20
  z20 := Tryz.sizeOf20
  v20 := Tryz.zeroValue20
  t37 := Tryz.underlying22
  a37 := Tryz.isAgg22
  z37 := Tryz.sizeOf22
  v37 := Tryz.zeroValue22
  t70 := Tryz.underlying51
  a70 := Tryz.isAgg51
  z70 := Tryz.sizeOf51
  v70 := Tryz.zeroValue51
  t72 := Tryz.underlying53
  a72 := Tryz.isAgg53
  z72 := Tryz.sizeOf53
  v72 := Tryz.zeroValue53
  t75 := Tryz.underlying119
  a75 := Tryz.isAgg119
  z75 := Tryz.sizeOf119
  v75 := Tryz.zeroValue119
  t164 := Tryz.underlying182
  a164 := Tryz.isAgg182
  z164 := Tryz.sizeOf182
  v164 := Tryz.zeroValue182 }
theorem Tryz.Builder_Extra_167 : Builder.Extra Tryz.prog Tryz.lays167_ren := {
  sizeBuilder := by kernel_rfl
  liesBuilder := by kernel_rfl
  t5 := Tryz.underlying5
  a5 := Tryz.isAgg5
  z5 := Tryz.sizeOf5
  v5 := Tryz.zeroValue5
  infoByte := by kernel_rfl
  cellsByte := by kernel_rfl
  sizeByte := by kernel_rfl
  neB5 := by decide }
open Go.RowKit in
theorem Tryz.Builder_WriteByte_k (B b : Nat) (bs : List Value) (c : Int) (w : World) (h : Lib.IsBuilderF 53 5 B b bs w) (hlen : bs.length + 1 ≤ 140737488355328) (hBw : B ≤ w.heap.size) :
    Calls Tryz.prog 132 #[.pointer (some ⟨b, 0, none⟩), .int .u8 c] w fun e w' => e = .returned .nilIface ∧ (Lib.BuilderAtF 53 5 B b (.pointer (some ⟨b, 0, none⟩)) (bs ++ [.int .u8 c]) w' ∧ Below B w w' ∧ Lib.OthersKept 5 (some b) w w') := Any.Builder_WriteByte_k Tryz.lays167 Tryz.Builder_Extra_167 B b bs c w h hlen hBw
end Go.Proofs
