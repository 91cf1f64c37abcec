/- Contracts of the document's answers for base64: lines, Bare. -/
import Derived.Test.YtgcdcodeaamlpaaDoorB64K
import Derived.Test.YtgcdcodeaamlpaaDoorB64D
import Derived.Outline
namespace Go.Proofs.YtgcdcodeaamlpaaDoor
open Go Go.RowKit

theorem refEncode_any (s : ByteArray) (wd : Int) (w : World) (hs : s.size ≤ 65536) (h1 : -9223372036854775808 ≤ wd) (hw : wd ≤ 9223372036854775807) :
    Calls Tryd.prog 10 #[.string s, .int .i64 wd] w fun e w' => ∃ T : ByteArray, e = .returned (.string T) ∧ T.data.toList = lineS wd (encS s.data.toList) ∧ w = w' := by
  by_cases h0 : wd < 1
  · go_enter Tryd.func10, Tryd.ntmps10
    go_wp2_with fail
    refine (plain_any s _ hs).mono ?_
    rintro e w1 ⟨T, rfl, hT, rfl⟩
    have HT := Lib.hid hT
    clear hT
    go_wp2
    go_ret
    exact ⟨T, rfl, by unfold lineS; rw [if_neg (by omega)]; exact HT.out, rfl⟩
  · obtain ⟨n, rfl⟩ : ∃ n : Nat, wd = (n : Int) := ⟨wd.toNat, by omega⟩
    have hn : 1 ≤ n := by omega
    go_enter Tryd.func10, Tryd.ntmps10
    go_wp2_with fail
    refine (plain_any s _ hs).mono ?_
    rintro e w1 ⟨T, rfl, hT, rfl⟩
    have hTl : T.size ≤ 131072 := by
      rw [bytes_len, hT, enc_len, ← bytes_len]
      omega
    have HT := Lib.hid hT
    clear hT
    go_wp2_with fail
    go_loopg [5, 6] T.size (fun g p o wr => ∃ P O : ByteArray, g = P.size ∧ p = .string P ∧ o = .string O ∧ P.size ≤ 131072 ∧ O.size + 3 * P.size ≤ 393216 ∧ w = wr ∧ Hid (O.data.toList ++ cutL n P.data.toList = cutL n T.data.toList))
    case atStart => exact ⟨T, ⟨#[]⟩, rfl, rfl, rfl, hTl, by show 0 + 3 * T.size ≤ 393216; omega, rfl, rfl⟩
    case round =>
      obtain ⟨P, O, rfl, rfl, rfl, hP, hO, rfl, HE⟩ := hrel
      by_cases h0' : 0 < P.size
      · by_cases hq : n ≤ P.size
        · have HZ1 := Lib.hid (extract_size' P 0 n (by omega))
          have hz1 : (P.extract 0 n).size ≤ n := by rw [HZ1.out]; omega
          have HZ2 := Lib.hid (extract_size' P n P.size (by omega))
          have hz2 : (P.extract n P.size).size ≤ P.size := by rw [HZ2.out]; omega
          go_wp2
          go_roundg (P.size - n)
          case measure => omega
          case rel =>
            refine ⟨P.extract n P.size, O ++ (P.extract 0 n ++ ⟨#[13, 10]⟩), HZ2.out.symm, rfl, rfl, by omega, ?_, rfl, ?_⟩
            · have e1 : (⟨#[13, 10]⟩ : ByteArray).size = 2 := rfl
              have := HZ1.out
              have := HZ2.out
              simp only [ByteArray.size_append]
              omega
            · unfold Hid
              rw [← HE.out, cut_take (m := n) (r := P.data.toList) hn (ne_nil_of_pos (by rw [← bytes_len]; exact h0')) (.inl rfl), cat_toList, cat_toList, extract_toList, extract_toList]
              rw [List.drop_zero, Nat.sub_zero, List.take_of_length_le (l := P.data.toList.drop n) (by simp)]
              simp only [List.append_assoc]
        · have hq' : P.size < n := by omega
          clear hq
          go_wp2
          go_roundg 0
          case measure => omega
          case rel =>
            refine ⟨ByteArray.empty, O ++ (P ++ ⟨#[13, 10]⟩), rfl, rfl, rfl, Nat.zero_le _, ?_, rfl, ?_⟩
            · have e1 : (⟨#[13, 10]⟩ : ByteArray).size = 2 := rfl
              have e2 : ByteArray.empty.size = 0 := rfl
              simp only [ByteArray.size_append]
              omega
            · unfold Hid
              rw [← HE.out, cut_take (m := P.size) (r := P.data.toList) hn (ne_nil_of_pos (by rw [← bytes_len]; exact h0')) (.inr ⟨bytes_len P, by rw [← bytes_len]; omega⟩), cat_toList, cat_toList, List.take_of_length_le (l := P.data.toList) (by rw [← bytes_len]; exact Nat.le_refl _), show P.data.toList.drop P.size = [] from List.drop_eq_nil_of_le (by rw [← bytes_len]; exact Nat.le_refl _)]
              simp only [List.append_assoc]
              rfl
      · go_wp2
        go_ret
        refine ⟨O, rfl, ?_, rfl⟩
        have hn0 : P.data.toList = [] := List.eq_nil_of_length_eq_zero (by rw [← bytes_len]; omega)
        have := HE.out
        rw [hn0, cutL_nil, List.append_nil] at this
        unfold lineS
        rw [if_pos (by omega), this, HT.out]
        rfl

theorem gap_neqs (c : UInt8) :
    (((c.toNat : Int) != 32) = false ∧ Hid (isGap c = true)) ∨
    (((c.toNat : Int) != 32) = true ∧ ((c.toNat : Int) != 9) = false ∧ Hid (isGap c = true)) ∨
    (((c.toNat : Int) != 32) = true ∧ ((c.toNat : Int) != 9) = true ∧ ((c.toNat : Int) != 13) = false ∧ Hid (isGap c = true)) ∨
    (((c.toNat : Int) != 32) = true ∧ ((c.toNat : Int) != 9) = true ∧ ((c.toNat : Int) != 13) = true ∧ ((c.toNat : Int) != 10) = false ∧ Hid (isGap c = true)) ∨
    (((c.toNat : Int) != 32) = true ∧ ((c.toNat : Int) != 9) = true ∧ ((c.toNat : Int) != 13) = true ∧ ((c.toNat : Int) != 10) = true ∧ Hid (isGap c = false)) := by
  have e : ∀ n : Int, ((c.toNat : Int) != n) = !((c.toNat : Int) == n) := fun _ => rfl
  rw [e, e, e, e]
  rcases gap_cases c with ⟨q1, HG⟩ | ⟨q1, q2, HG⟩ | ⟨q1, q2, q3, HG⟩ | ⟨q1, q2, q3, q4, HG⟩ | ⟨q1, q2, q3, q4, HG⟩
  · exact .inl ⟨by rw [q1]; rfl, HG⟩
  · exact .inr (.inl ⟨by rw [q1]; rfl, by rw [q2]; rfl, HG⟩)
  · exact .inr (.inr (.inl ⟨by rw [q1]; rfl, by rw [q2]; rfl, by rw [q3]; rfl, HG⟩))
  · exact .inr (.inr (.inr (.inl ⟨by rw [q1]; rfl, by rw [q2]; rfl, by rw [q3]; rfl, by rw [q4]; rfl, HG⟩)))
  · exact .inr (.inr (.inr (.inr ⟨by rw [q1]; rfl, by rw [q2]; rfl, by rw [q3]; rfl, by rw [q4]; rfl, HG⟩)))

theorem refBare_any (s : ByteArray) (w : World) (hs : s.size ≤ 1000000) :
    Calls Tryd.prog 14 #[.string s] w fun e w' => ∃ T : ByteArray, e = .returned (.string T) ∧ T.data.toList = bareS s.data.toList ∧ Below w.heap.size w w' := by
  obtain ⟨i0, hi, hz0, hz1, hz2⟩ := info_parts Tryd.infoU8
  go_enter Tryd.func14, Tryd.ntmps14
  go_wp2
  go_loopg [3, 4] s.size (fun g o v wr => ∃ (k : Nat) (r : List UInt8), k ≤ s.size ∧ g = s.size - k ∧ v = .int .i64 k ∧ r.length ≤ k ∧ wr.ownsRow w.heap.size 5 1 o r.length (r.map byteV) ∧ Hid (r = bareS (s.data.toList.take k)) ∧ Hid (Below w.heap.size w wr))
  case atStart => exact ⟨0, [], by omega, by omega, rfl, by simp, World.ownsRow_nil _ _ _ _, by unfold Hid; simp [bareS], Below.refl _ _⟩
  case round =>
    obtain ⟨k, r, hk, rfl, rfl, hr, hown, HR, HB⟩ := hrel
    have HO := Lib.hid hown
    clear hown
    by_cases hlt : k < s.size
    · have HT := Lib.hid (take_snoc s k hlt)
      rcases gap_neqs s[k] with ⟨q1, HG⟩ | ⟨q1, q2, HG⟩ | ⟨q1, q2, q3, HG⟩ | ⟨q1, q2, q3, q4, HG⟩ | ⟨q1, q2, q3, q4, HG⟩
      rotate_left 4
      · go_wp2_with (at_builtin; refine wpList_append_own _ rfl _ _ 22 rfl w.heap.size 5 i0 (.int .u8 0) 1 1 Tryd.underlying22 hi hz0 hz1 hz2 rfl (by decide) _ _ _ rfl (HO.out.alloc _) ⟨wr.heap.size, 0, none⟩ 1 1 [byteV s[k]] rfl rfl ?c1 ?c2 ?c3 ?c4 ?c5 ?_)
        case c1 => exact cell_one_new wr _ _
        case c2 => exact news_one [s[k]]
        case c3 => unfold maxLen; omega
        case c4 => omega
        case c5 => simp; have := HB.out.size; omega
        intro v' w1 hown1 hgrow1 _
        have HO1 := Lib.hid hown1
        have HB1 : Hid (Below w.heap.size w w1) := (HB.out.alloc (by have := HB.out.size; omega) _).grown hgrow1 (by have := HB.out.size; simp; omega) (fun q hq => (HO.out.lt q hq).1)
        clear hown1 hgrow1
        go_wp2
        go_roundg (s.size - (k + 1))
        case measure => omega
        case rel =>
          refine ⟨k + 1, r ++ [s[k]], by omega, rfl, by go_num, by simp; omega, ?_, ?_, HB1⟩
          · exact own_cast HO1.out (by simp) (by simp)
          · unfold Hid
            rw [HT.out, bareS_snoc HG.out, HR.out]
      all_goals
        go_wp2
        go_roundg (s.size - (k + 1))
        case measure => omega
        case rel =>
          refine ⟨k + 1, r, by omega, rfl, by go_num, by omega, HO.out, ?_, HB⟩
          unfold Hid
          rw [HT.out, bareS_snoc_gap HG.out, HR.out]
    · have hst := run_string_of_owned (P := Tryd.prog) Tryd.underlying22 Tryd.underlying5 Tryd.underlying9 HO.out
      go_wp2
      go_ret
      refine ⟨_, rfl, ?_, HB.out⟩
      rw [List.toList_toArray, HR.out, List.take_of_length_le (by simp; omega)]
end Go.Proofs.YtgcdcodeaamlpaaDoor
