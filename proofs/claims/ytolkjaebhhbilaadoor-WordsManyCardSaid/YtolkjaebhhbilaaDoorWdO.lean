/- A text in UTF-8 that is encoded is decoded as it was, plain. No program. -/
import Derived.Test.YtolkjaebhhbilaaDoorWdN
namespace Go.Proofs.YtolkjaebhhbilaaDoor
open Go Go.RowKit

theorem getD_take {l : List UInt8} {n j : Nat} (h : j < n) : (l.take n).getD j 0 = l.getD j 0 := by
  rw [List.getD_eq_getElem?_getD, List.getD_eq_getElem?_getD, List.getElem?_take, if_pos h]
/-- A character at the front, all of it there. -/
theorem dec_take {l : List UInt8} {n : Nat} (hv : ¬ ((Lib.decodeL l).1 = 65533 ∧ (Lib.decodeL l).2 = 1)) (hn : (Lib.decodeL l).2 ≤ n) : Lib.decodeL (l.take n) = Lib.decodeL l := by
  rw [Lib.decodeL_N] at hv hn
  rw [Lib.decodeL_N, Lib.decodeL_N]
  have hlen : (l.take n).length = min n l.length := List.length_take
  rcases Lib.decodeN_shape l.length (l.getD 0 0).toNat (l.getD 1 0).toNat (l.getD 2 0).toNat (l.getD 3 0).toNat with ⟨c, e⟩ | ⟨c1, c2, c3, cv, e⟩ | ⟨c1, c2, c3, c4, cv, cs, e⟩ | ⟨c1, c2, c3, c4, c5, cv, cw, e⟩ | e
  · rw [e] at hn ⊢
    simp only at hn
    rw [getD_take (show 0 < n by omega)]
    unfold Lib.decodeN
    rw [if_pos c]
  · rw [e] at hn ⊢
    simp only at hn
    rw [getD_take (show 0 < n by omega), getD_take (show 1 < n by omega)]
    unfold Lib.decodeN
    rw [if_neg (by omega), if_pos ⟨c1, by omega, c3⟩, if_pos cv]
  · rw [e] at hn ⊢
    simp only at hn
    rw [getD_take (show 0 < n by omega), getD_take (show 1 < n by omega), getD_take (show 2 < n by omega)]
    unfold Lib.decodeN
    rw [if_neg (by omega), if_neg (by omega), if_pos ⟨c1, ⟨by omega, c3⟩, ⟨by omega, c4⟩⟩, if_pos ⟨cv, by omega⟩]
  · rw [e] at hn ⊢
    simp only at hn
    rw [getD_take (show 0 < n by omega), getD_take (show 1 < n by omega), getD_take (show 2 < n by omega), getD_take (show 3 < n by omega)]
    unfold Lib.decodeN
    rw [if_neg (by omega), if_neg (by omega), if_neg (by omega), if_pos ⟨c1, ⟨by omega, c3⟩, ⟨by omega, c4⟩, ⟨by omega, c5⟩⟩, if_pos ⟨cv, by omega⟩]
  · rw [e] at hv
    exact absurd ⟨rfl, rfl⟩ hv
/-- The bytes that go on with a character are such. -/
theorem dec_cont {l : List UInt8} {j : Nat} (hv : ¬ ((Lib.decodeL l).1 = 65533 ∧ (Lib.decodeL l).2 = 1)) (h0 : 0 < j) (hj : j < (Lib.decodeL l).2) : contB (l.getD j 0) = true := by
  rw [Lib.decodeL_N] at hv hj
  unfold contB
  rcases Lib.decodeN_shape l.length (l.getD 0 0).toNat (l.getD 1 0).toNat (l.getD 2 0).toNat (l.getD 3 0).toNat with ⟨c, e⟩ | ⟨c1, c2, c3, cv, e⟩ | ⟨c1, c2, c3, c4, cv, cs, e⟩ | ⟨c1, c2, c3, c4, c5, cv, cw, e⟩ | e
  all_goals (rw [e] at hv hj; simp only at hj)
  · omega
  · obtain rfl : j = 1 := by omega
    exact decide_eq_true (by omega)
  · rcases (show j = 1 ∨ j = 2 by omega) with rfl | rfl
    · exact decide_eq_true (by omega)
    · exact decide_eq_true (by omega)
  · rcases (show j = 1 ∨ j = 2 ∨ j = 3 by omega) with rfl | rfl | rfl
    · exact decide_eq_true (by omega)
    · exact decide_eq_true (by omega)
    · exact decide_eq_true (by omega)
  · exact absurd ⟨rfl, rfl⟩ hv
theorem dec_first {l : List UInt8} (hv : ¬ ((Lib.decodeL l).1 = 65533 ∧ (Lib.decodeL l).2 = 1)) : contB (l.getD 0 0) = false := by
  rw [Lib.decodeL_N] at hv
  unfold contB
  rcases Lib.decodeN_shape l.length (l.getD 0 0).toNat (l.getD 1 0).toNat (l.getD 2 0).toNat (l.getD 3 0).toNat with ⟨c, e⟩ | ⟨c1, c2, c3, cv, e⟩ | ⟨c1, c2, c3, c4, cv, cs, e⟩ | ⟨c1, c2, c3, c4, c5, cv, cw, e⟩ | e
  · exact decide_eq_false (by omega)
  · exact decide_eq_false (by omega)
  · exact decide_eq_false (by omega)
  · exact decide_eq_false (by omega)
  · rw [e] at hv
    exact absurd ⟨rfl, rfl⟩ hv
theorem dec_four (l : List UInt8) : 1 ≤ (Lib.decodeL l).2 ∧ (Lib.decodeL l).2 ≤ 4 := by
  rw [Lib.decodeL_N]
  rcases Lib.decodeN_shape l.length (l.getD 0 0).toNat (l.getD 1 0).toNat (l.getD 2 0).toNat (l.getD 3 0).toNat with ⟨c, e⟩ | ⟨c1, c2, c3, cv, e⟩ | ⟨c1, c2, c3, c4, cv, cs, e⟩ | ⟨c1, c2, c3, c4, c5, cv, cw, e⟩ | e
  all_goals (rw [e]; dsimp only; omega)
theorem valid_first {l : List UInt8} (hn : l ≠ []) (h : Lib.validD l = true) : ¬ ((Lib.decodeL l).1 = 65533 ∧ (Lib.decodeL l).2 = 1) := by
  rw [Lib.validD_step l hn] at h
  split at h
  · cases h
  · next hv => exact hv
theorem valid_rest {l : List UInt8} (hn : l ≠ []) (h : Lib.validD l = true) : Lib.validD (l.drop (Lib.decodeL l).2) = true := by
  rw [Lib.validD_step l hn] at h
  split at h
  · cases h
  · exact h
/-- Parts between characters are whole texts. -/
theorem valid_cut : ∀ (f : Nat) (l : List UInt8) (n : Nat), l.length ≤ f → Lib.validD l = true → n ≤ l.length → (n < l.length → contB (l.getD n 0) = false) → Lib.validD (l.take n) = true ∧ Lib.validD (l.drop n) = true
  | 0, l, n, hf, h, hn, _ => by
    obtain rfl := List.eq_nil_of_length_eq_zero (Nat.le_zero.1 hf)
    simp [h]
  | f + 1, l, n, hf, h, hn, hc => by
    by_cases hl : l = []
    · subst hl; simp [h]
    · by_cases h0 : n = 0
      · subst h0; rw [List.take_zero, List.drop_zero]; exact ⟨rfl, h⟩
      · have hpos : 0 < l.length := List.length_pos_iff.2 hl
        have hv := valid_first hl h
        have hr := valid_rest hl h
        have hw := dec_four l
        have hle := Lib.decodeL_le l hl
        by_cases hd : (Lib.decodeL l).2 ≤ n
        · have ih := valid_cut f (l.drop (Lib.decodeL l).2) (n - (Lib.decodeL l).2) (by rw [List.length_drop]; omega) hr (by rw [List.length_drop]; omega) (fun hlt => by
            rw [List.length_drop] at hlt
            rw [List.getD_eq_getElem?_getD, List.getElem?_drop, ← List.getD_eq_getElem?_getD, Nat.add_sub_cancel' hd]
            exact hc (by omega))
          rw [List.drop_drop, Nat.add_sub_cancel' hd] at ih
          refine ⟨?_, ih.2⟩
          have hn2 : l.take n ≠ [] := by
            intro e
            have := congrArg List.length e
            rw [List.length_take, List.length_nil] at this
            omega
          rw [Lib.validD_step _ hn2, dec_take hv hd, if_neg hv, List.drop_take]
          exact ih.1
        · have := dec_cont (j := n) hv (by omega) (by omega)
          rw [hc (by omega)] at this
          cases this
/-- A piece ends where a character ends. -/
theorem taken_valid {l : List UInt8} (hl : l ≠ []) (h : Lib.validD l = true) : Lib.validD (l.take (takenN l)) = true ∧ Lib.validD (l.drop (takenN l)) = true := by
  have hpos : 0 < l.length := List.length_pos_iff.2 hl
  refine valid_cut l.length l _ (Nat.le_refl _) h (takenN_le l).1 fun hlt => ?_
  unfold takenN at hlt ⊢
  split
  · next h1 => rw [if_pos h1] at hlt; omega
  · next h1 =>
    have hv := valid_first hl h
    have hw := dec_four l
    have hle := Lib.decodeL_le l hl
    have hr := valid_rest hl h
    have hn : l.drop (Lib.decodeL l).2 ≠ [] := by
      intro e
      have := congrArg List.length e
      rw [List.length_drop] at this
      simp at this
      clear hlt
      omega
    have hc := dec_first (valid_first hn hr)
    rw [List.getD_eq_getElem?_getD, List.getElem?_drop, ← List.getD_eq_getElem?_getD, Nat.add_zero] at hc
    have hge := backL_ge l hc 45 (by clear hlt; omega)
    rw [if_neg (by clear hlt; omega)]
    exact backL_at l 45 (by clear hlt; omega)

/-! ### A piece is a word -/
theorem letB_clean2 : ∀ n, n < 64 → letB n ≠ 63 ∧ blk (letB n) = false := by decide
theorem enc_all (P : UInt8 → Prop) (h1 : ∀ n, n < 64 → P (letB n)) (h2 : P 61) : ∀ l : List UInt8, ∀ c ∈ encS l, P c
  | [], c, h => by cases h
  | [a], c, h => by
    have ha := a.toNat_lt
    simp only [encS, List.mem_cons, List.not_mem_nil, or_false] at h
    rcases h with rfl | rfl | rfl | rfl
    · exact h1 _ (by omega)
    · exact h1 _ (by omega)
    · exact h2
    · exact h2
  | [a, b], c, h => by
    have ha := a.toNat_lt
    have hb := b.toNat_lt
    simp only [encS, List.mem_cons, List.not_mem_nil, or_false] at h
    rcases h with rfl | rfl | rfl | rfl
    · exact h1 _ (by omega)
    · exact h1 _ (by omega)
    · exact h1 _ (by omega)
    · exact h2
  | a :: b :: d :: r, c, h => by
    have ha := a.toNat_lt
    have hb := b.toNat_lt
    have hd := d.toNat_lt
    simp only [encS, List.mem_cons] at h
    rcases h with rfl | rfl | rfl | rfl | h
    · exact h1 _ (by omega)
    · exact h1 _ (by omega)
    · exact h1 _ (by omega)
    · exact h1 _ (by omega)
    · exact enc_all P h1 h2 r c h
theorem enc_noq (l : List UInt8) : (63 : UInt8) ∉ encS l := fun h => enc_all (· ≠ 63) (fun n hn => (letB_clean2 n hn).1) (by decide) l 63 h rfl
theorem enc_nob (l : List UInt8) : (encS l).any blk = false := by
  rw [List.any_eq_false]
  intro c hc
  rw [enc_all (fun c => blk c = false) (fun n hn => (letB_clean2 n hn).2) (by decide) l c hc]
  decide
theorem kUtf8 : kindL (starL [117, 116, 102, 45, 56]) = 3 := by decide
theorem text_piece {b : List UInt8} (h : Lib.validD b = true) : textW [117, 116, 102, 45, 56] 66 (encS b) = some b := by
  unfold textW
  rw [kUtf8]
  unfold readL
  rw [if_pos (by decide), bareS_enc, decS_enc, Option.bind_some]
  unfold textK
  rw [if_neg (by decide), if_pos rfl, if_pos h]
theorem word_piece {b : List UInt8} (r : List UInt8) (h : Lib.validD b = true) : ewL (pieceL b ++ r) = some (b, (pieceL b).length) := by
  have e : pieceL b ++ r = 61 :: 63 :: ([117, 116, 102, 45, 56] ++ 63 :: 66 :: 63 :: (encS b ++ 63 :: 61 :: r)) := by
    unfold pieceL openW
    simp
  rw [e, ewL_make (by decide) (by decide) (enc_noq b) (enc_nob b) (text_piece h)]
  congr 2
  unfold pieceL openW
  simp
  omega
theorem dec_encA (R : List UInt8) : ∀ (f : Nat) (l : List UInt8), l.length ≤ f → Lib.validD l = true → decM (some []) (encA l ++ R) = l ++ decM (some []) R
  | 0, l, hf, _ => by
    obtain rfl := List.eq_nil_of_length_eq_zero (Nat.le_zero.1 hf)
    rfl
  | f + 1, l, hf, h => by
    by_cases hl : l = []
    · subst hl; rfl
    · have hpos : 0 < l.length := List.length_pos_iff.2 hl
      have hp := takenN_pos hl
      obtain ⟨v1, v2⟩ := taken_valid hl h
      have hw := word_piece (b := l.take (takenN l)) (encA (l.drop (takenN l)) ++ R) v1
      rw [encA_step hl, List.cons_append, decM_blank [] (ewL_one _ (by decide)) (by decide), List.append_assoc, decM_word _ hw, List.drop_left, dec_encA R f _ (by rw [List.length_drop]; omega) v2, ← List.append_assoc, List.take_append_drop]
theorem dec_enc (R l : List UInt8) (hl : l ≠ []) (h : Lib.validD l = true) : decM none (encodeL l ++ R) = l ++ decM (some []) R := by
  obtain ⟨v1, v2⟩ := taken_valid hl h
  have hw := word_piece (b := l.take (takenN l)) (encA (l.drop (takenN l)) ++ R) v1
  rw [encodeL_step hl, List.append_assoc, decM_word _ hw, List.drop_left, dec_encA R _ _ (Nat.le_refl _) v2, ← List.append_assoc, List.take_append_drop]
theorem back_utf (l : List UInt8) (h : Lib.validD l = true) : decM none (encodeL l) = l := by
  by_cases hl : l = []
  · subst hl; rfl
  · have := dec_enc [] l hl h
    rw [List.append_nil, decM_nil] at this
    simpa using this
end Go.Proofs.YtolkjaebhhbilaaDoor
