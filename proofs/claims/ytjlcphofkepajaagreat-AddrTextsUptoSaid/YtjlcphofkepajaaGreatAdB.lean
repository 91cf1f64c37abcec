/- Contracts of package addr: a word that isn't quoted. -/
import Derived.Test.YtjlcphofkepajaaGreatAdA
import Derived.Test.YtjlcphofkepajaaGreatChars3
namespace Go.Proofs.YtjlcphofkepajaaGreat
open Go Go.RowKit

theorem idx_drop (s : ByteArray) (j : Nat) (w : World) :
    Calls Tryz.prog 29 #[.string (s.extract j s.size), .int .u8 93] w fun e w' => e = .returned (.int .i64 (Lib.indexByte (s.data.toList.drop j) 93)) ∧ w = w' := by
  refine (Tryz.strings_IndexByte _ _ w).mono fun e w' ⟨he, hw⟩ => ?_
  refine ⟨?_, hw.symm⟩
  rw [he]
  have e1 : (s.extract j s.size).data.toList = s.data.toList.drop j := by
    rw [extract_toList]
    exact List.take_of_length_le (by simp)
  rw [e1]
  rfl
theorem index_91 (r : List UInt8) : (Lib.indexByte (91 :: r) 93 = -1 ∧ bareA false (91 :: r) = none) ∨
    ∃ n : Nat, Lib.indexByte (91 :: r) 93 = (n : Int) ∧ n < (91 :: r).length ∧ bareA false (91 :: r) = (bareA false ((91 :: r).drop (n + 1))).map (fun p => ((91 :: r).take (n + 1) ++ p.1, p.2)) :=
  index_93 (91 :: r)
theorem take_more (l : List UInt8) {k j : Nat} (m : Nat) (h : k ≤ j) : (l.drop k).take (j - k) ++ (l.drop j).take m = (l.drop k).take (j + m - k) := by
  rw [show j + m - k = (j - k) + m by omega, List.take_add, List.drop_drop, show k + (j - k) = j by omega]
def bareIs (D : List UInt8) (s : ByteArray) (v : List UInt8) (j : Nat) (b : Bool) : Prop :=
  match bareA false D with
  | some (w, r) => b = !w.isEmpty ∧ v = w ∧ s.data.toList.drop j = r
  | none => b = false
theorem bareIs_none {D : List UInt8} {s : ByteArray} {v : List UInt8} {j : Nat} (h : bareA false D = none) : bareIs D s v j false := by unfold bareIs; rw [h]
theorem bareIs_some {D w r : List UInt8} {s : ByteArray} {v : List UInt8} {j : Nat} {b : Bool} (h : bareA false D = some (w, r)) (h1 : b = !w.isEmpty) (h2 : v = w) (h3 : s.data.toList.drop j = r) : bareIs D s v j b := by unfold bareIs; rw [h]; exact ⟨h1, h2, h3⟩
theorem bare_end {s : ByteArray} {k j : Nat} {X : List UInt8} (hk : k ≤ j) (hj : j ≤ s.size)
    (hS : bareA false (s.data.toList.drop k) = (bareA false (s.data.toList.drop j)).map (fun p => ((s.data.toList.drop k).take (j - k) ++ p.1, p.2))) (hE : bareA false (s.data.toList.drop j) = some ([], X)) (hX : X = s.data.toList.drop j) :
    bareIs (s.data.toList.drop k) s (s.extract k j).data.toList j (decide (k < j)) := by
  rw [hE] at hS
  refine bareIs_some hS ?_ ?_ hX.symm
  · show _ = !((s.data.toList.drop k).take (j - k) ++ []).isEmpty
    rw [List.append_nil]
    rcases Nat.lt_or_ge k j with h | h
    · have hne : ((s.data.toList.drop k).take (j - k)) ≠ [] := by
        intro e
        have := congrArg List.length e
        simp at this
        omega
      rw [decide_eq_true h]
      cases hq : (s.data.toList.drop k).take (j - k) with
      | nil => exact absurd hq hne
      | cons a b => rfl
    · rw [decide_eq_false (by omega), show j - k = 0 by omega]
      rfl
  · rw [extract_toList, List.append_nil]
theorem bare_word (c : UInt8) (l : List UInt8) (h1 : c ≠ 91) (h2 : wordB c = true) : bareA false (c :: l) = preA c (bareA false l) := by
  show (if c = 91 then _ else if wordB c = true then _ else _) = _
  rw [if_neg h1, if_pos h2]
theorem bare_stop (c : UInt8) (l : List UInt8) (h1 : c ≠ 91) (h2 : wordB c = false) : bareA false (c :: l) = some ([], c :: l) := by
  show (if c = 91 then _ else if wordB c = true then _ else _) = _
  rw [if_neg h1, if_neg (by rw [h2]; simp)]

set_option maxRecDepth 100000 in
set_option maxHeartbeats 2000000 in
theorem bare_any (s : ByteArray) (k : Nat) (w : World) (hl : s.size ≤ 1000000000) (hk : k ≤ s.size) :
    Calls Tryz.prog 43 #[.string s, .int .i64 (k : Int)] w fun e w' => ∃ (v : List UInt8) (j : Nat) (b : Bool), e = .returned (.tuple #[.string ⟨v.toArray⟩, .int .i64 (j : Int), .bool b]) ∧ j ≤ s.size ∧
      bareIs (s.data.toList.drop k) s v j b ∧ w = w' := by
  have HI := Lib.hid (fun j W => idx_drop s j W)
  have HW := Lib.hid inWord_any
  go_enter Tryz.func43, Tryz.ntmps43
  go_wp2_with fail
  go_step3
  go_wp2_with fail
  go_step3
  go_wp2_with fail
  go_loopg [7] (s.size - k) (fun g v7 wr => ∃ j : Nat, g = s.size - j ∧ k ≤ j ∧ j ≤ s.size ∧ v7 = .int .i64 (j : Int) ∧
    Hid (bareA false (s.data.toList.drop k) = (bareA false (s.data.toList.drop j)).map (fun p => ((s.data.toList.drop k).take (j - k) ++ p.1, p.2))) ∧ w = wr)
  case atStart => exact ⟨k, by omega, by omega, by omega, rfl, by unfold Hid; simp, rfl⟩
  case round =>
    obtain ⟨j, rfl, hkj, hj, rfl, HS, rfl⟩ := hrel
    have hkj' : (k : Int) ≤ (j : Int) := by omega
    have hj' : (j : Int) ≤ (s.size : Int) := by omega
    by_cases hlt : j < s.size
    · have HD := Lib.hid (drop_cons s j hlt)
      by_cases h91 : s[j].toNat = 91
      · have b1 : (((s[j].toNat : Nat) : Int) == 91) = true := beq_yes (by omega)
        have HC : Hid (s.data.toList.drop j = 91 :: s.data.toList.drop (j + 1)) := by unfold Hid; rw [HD.out, show s[j] = 91 from toNat_eq h91]
        have HIj := Lib.hid (fun W => HI.out j W)
        clear h91
        rcases index_91 (s.data.toList.drop (j + 1)) with ⟨hi, hb⟩ | ⟨n, hi, hn, hb⟩
        · rw [HC.out, hi] at HIj
          have HBn := Lib.hid hb
          clear hi hb
          go_wp2_with (go_at_call 29; refine (HIj.out _).mono ?_; rintro e w1 ⟨rfl, rfl⟩)
          simp only [Exit.noGoto_ret]
          refine bodyPost_ret (v := .tuple #[.string ⟨#[]⟩, .int .i64 (j : Int), .bool false]) (by simp [results, Tryz.results43, go_sem]) rfl ?_
          refine ⟨[], j, false, rfl, hj, bareIs_none ?_, rfl⟩
          rw [HS.out, HC.out, HBn.out]
          rfl
        · rw [HC.out, hi] at HIj
          have HBn := Lib.hid hb
          have hn2 : n < s.size - j := by
            rw [← HC.out] at hn
            simpa using hn
          clear hi hb hn
          go_wp2_with (go_at_call 29; refine (HIj.out _).mono ?_; rintro e w1 ⟨rfl, rfl⟩)
          go_roundg (s.size - (j + (n + 1)))
          case measure => omega
          case rel =>
            refine ⟨j + (n + 1), rfl, by omega, by omega, by go_num, ?_, rfl⟩
            unfold Hid
            rw [HS.out, HC.out, HBn.out, ← HC.out, Option.map_map, List.drop_drop, ← take_more s.data.toList (n + 1) hkj]
            congr 1
            funext p
            simp
      · have b1 : (((s[j].toNat : Nat) : Int) == 91) = false := beq_no (by omega)
        have HN : Hid (s[j] ≠ 91) := fun e => h91 (by rw [e]; rfl)
        have HWj := Lib.hid (fun W => HW.out s[j] W)
        clear h91
        rcases Bool.eq_false_or_eq_true (wordB s[j]) with hw | hw
        · rw [hw] at HWj
          have HB := Lib.hid (bare_word s[j] (s.data.toList.drop (j + 1)) HN.out hw)
          go_wp2_with (go_at_call 50; refine (HWj.out _).mono ?_; rintro e w1 ⟨rfl, rfl⟩)
          go_roundg (s.size - (j + 1))
          case measure => omega
          case rel =>
            refine ⟨j + 1, rfl, by omega, by omega, by go_num, ?_, rfl⟩
            unfold Hid
            rw [HS.out, HD.out, HB.out, ← take_more s.data.toList 1 hkj]
            rw [HD.out]
            unfold preA
            rw [Option.map_map]
            congr 1
            funext p
            simp
        · rw [hw] at HWj
          have HB := Lib.hid (bare_stop s[j] (s.data.toList.drop (j + 1)) HN.out hw)
          go_wp2_with (go_at_call 50; refine (HWj.out _).mono ?_; rintro e w1 ⟨rfl, rfl⟩)
          simp only [Exit.noGoto_ret]
          refine bodyPost_ret (v := .tuple #[.string (s.extract k j), .int .i64 (j : Int), .bool (decide (k < j))]) (by simp [results, Tryz.results43, go_sem]) rfl ?_
          exact ⟨(s.extract k j).data.toList, j, decide (k < j), rfl, hj, bare_end hkj hj HS.out ((congrArg (bareA false) HD.out).trans HB.out) HD.out.symm, rfl⟩
    · have HE : Hid (s.data.toList.drop j = []) := List.drop_eq_nil_of_le (by simp; omega)
      go_wp2_with fail
      simp only [Exit.noGoto_ret]
      refine bodyPost_ret (v := .tuple #[.string (s.extract k j), .int .i64 (j : Int), .bool (decide (k < j))]) (by simp [results, Tryz.results43, go_sem]) rfl ?_
      exact ⟨(s.extract k j).data.toList, j, decide (k < j), rfl, hj, bare_end hkj hj HS.out ((congrArg (bareA false) HE.out).trans rfl) HE.out.symm, rfl⟩
end Go.Proofs.YtjlcphofkepajaaGreat
