/- Base64 in plain words: letters, what they are of, lines, and blanks. No program. -/
import Derived.Test.YtolkjaebhhbilaaDoorKit2
namespace Go.Proofs.YtolkjaebhhbilaaDoor
open Go Go.RowKit

def tabL : List UInt8 := [65, 66, 67, 68, 69, 70, 71, 72, 73, 74, 75, 76, 77, 78, 79, 80, 81, 82, 83, 84, 85, 86, 87, 88, 89, 90, 97, 98, 99, 100, 101, 102, 103, 104, 105, 106, 107, 108, 109, 110, 111, 112, 113, 114, 115, 116, 117, 118, 119, 120, 121, 122, 48, 49, 50, 51, 52, 53, 54, 55, 56, 57, 43, 47]
def letB (n : Nat) : UInt8 := tabL.getD n 0
def valB (c : UInt8) : Nat := tabL.findIdx (· == c)

theorem valB_let : ∀ n, n < 64 → valB (letB n) = n := by decide
theorem valB_le (c : UInt8) : valB c ≤ 64 := List.findIdx_le_length
theorem letB_val {c : UInt8} (h : valB c < 64) : letB (valB c) = c := by
  have h1 : tabL.findIdx (· == c) < tabL.length := h
  have h2 := List.findIdx_getElem (w := h1)
  have h3 : tabL[tabL.findIdx (· == c)] = c := by simpa using h2
  unfold letB valB
  rw [List.getD_eq_getElem?_getD, List.getElem?_eq_getElem h1, Option.getD_some, h3]
theorem valB_pad : valB 61 = 64 := by decide
theorem letB_clean : ∀ n, n < 64 → letB n ≠ 61 ∧ letB n ≠ 32 ∧ letB n ≠ 9 ∧ letB n ≠ 13 ∧ letB n ≠ 10 := by decide

/-- The letters of bytes. -/
def encS : List UInt8 → List UInt8
  | a :: b :: c :: r => letB (a.toNat / 4) :: letB (a.toNat % 4 * 16 + b.toNat / 16) :: letB (b.toNat % 16 * 4 + c.toNat / 64) :: letB (c.toNat % 64) :: encS r
  | [a, b] => [letB (a.toNat / 4), letB (a.toNat % 4 * 16 + b.toNat / 16), letB (b.toNat % 16 * 4), 61]
  | [a] => [letB (a.toNat / 4), letB (a.toNat % 4 * 16), 61, 61]
  | [] => []

/-- What four letters are of. -/
def dec4 (a b c d : UInt8) : Option (List UInt8) :=
  if d = 61 then
    if c = 61 then
      if valB a < 64 ∧ valB b < 64 ∧ valB b % 16 = 0 then some [byteN (valB a * 4 + valB b / 16)] else none
    else
      if valB a < 64 ∧ valB b < 64 ∧ valB c < 64 ∧ valB c % 4 = 0 then some [byteN (valB a * 4 + valB b / 16), byteN (valB b % 16 * 16 + valB c / 4)] else none
  else
    if valB a < 64 ∧ valB b < 64 ∧ valB c < 64 ∧ valB d < 64 then some [byteN (valB a * 4 + valB b / 16), byteN (valB b % 16 * 16 + valB c / 4), byteN (valB c % 4 * 64 + valB d)] else none

def decS : List UInt8 → Option (List UInt8)
  | [] => some []
  | a :: b :: c :: d :: r => match dec4 a b c d with
    | none => none
    | some xs => if xs.length < 3 ∧ r ≠ [] then none else (decS r).map (xs ++ ·)
  | _ => none

theorem decS_enc : ∀ l : List UInt8, decS (encS l) = some l
  | [] => rfl
  | [a] => by
    have ha := a.toNat_lt
    simp only [encS, decS, dec4, if_true]
    rw [valB_let _ (by omega), valB_let _ (by omega), if_pos (by omega)]
    simp
    apply toNat_eq
    rw [byteN_toNat _ (by omega)]
    omega
  | [a, b] => by
    have ha := a.toNat_lt
    have hb := b.toNat_lt
    have h1 := (letB_clean (b.toNat % 16 * 4) (by omega)).1
    simp only [encS, decS, dec4, if_true, if_neg h1]
    rw [valB_let _ (by omega), valB_let _ (by omega), valB_let _ (by omega), if_pos (by omega)]
    simp
    constructor
    · apply toNat_eq
      rw [byteN_toNat _ (by omega)]
      omega
    · apply toNat_eq
      rw [byteN_toNat _ (by omega)]
      omega
  | a :: b :: c :: r => by
    have ha := a.toNat_lt
    have hb := b.toNat_lt
    have hc := c.toNat_lt
    have h1 := (letB_clean (c.toNat % 64) (by omega)).1
    simp only [encS, decS, dec4, if_neg h1]
    rw [valB_let _ (by omega), valB_let _ (by omega), valB_let _ (by omega), valB_let _ (by omega), if_pos (by omega), decS_enc r]
    simp
    refine ⟨?_, ?_, ?_⟩
    all_goals
      apply toNat_eq
      rw [byteN_toNat _ (by omega)]
      omega

theorem enc_dec : ∀ (t l : List UInt8), decS t = some l → encS l = t
  | [], l, h => by simp [decS] at h; subst h; rfl
  | [_], _, h => by simp [decS] at h
  | [_, _], _, h => by simp [decS] at h
  | [_, _, _], _, h => by simp [decS] at h
  | a :: b :: c :: d :: r, l, h => by
    unfold decS at h
    split at h
    · cases h
    rename_i xs hx
    unfold dec4 at hx
    split at hx
    · rename_i hd
      split at hx
      · rename_i hc
        split at hx
        · rename_i hv
          cases hx
          split at h
          · cases h
          · rename_i hr
            have hr' : r = [] := by
              rcases Decidable.em (r = []) with e | e
              · exact e
              · exact absurd ⟨by simp, e⟩ hr
            subst hr'
            simp only [decS, Option.map_some] at h
            cases h
            subst hd hc
            have e1 := letB_val hv.1
            have e2 := letB_val hv.2.1
            simp only [List.append_nil, encS]
            rw [byteN_toNat _ (by omega)]
            rw [show (valB a * 4 + valB b / 16) / 4 = valB a by omega, show (valB a * 4 + valB b / 16) % 4 * 16 = valB b by omega, e1, e2]
        · cases hx
      · split at hx
        · rename_i hc hv
          cases hx
          split at h
          · cases h
          · rename_i hr
            have hr' : r = [] := by
              rcases Decidable.em (r = []) with e | e
              · exact e
              · exact absurd ⟨by simp, e⟩ hr
            subst hr'
            simp only [decS, Option.map_some] at h
            cases h
            subst hd
            have e1 := letB_val hv.1
            have e2 := letB_val hv.2.1
            have e3 := letB_val hv.2.2.1
            simp only [List.append_nil, encS]
            rw [byteN_toNat _ (by omega), byteN_toNat _ (by omega)]
            rw [show (valB a * 4 + valB b / 16) / 4 = valB a by omega, show (valB a * 4 + valB b / 16) % 4 * 16 + (valB b % 16 * 16 + valB c / 4) / 16 = valB b by omega, show (valB b % 16 * 16 + valB c / 4) % 16 * 4 = valB c by omega, e1, e2, e3]
        · cases hx
    · split at hx
      · rename_i hd hv
        cases hx
        rw [if_neg (by simp)] at h
        obtain ⟨r', hr', rfl⟩ := Option.map_eq_some_iff.1 h
        have ih := enc_dec r r' hr'
        have e1 := letB_val hv.1
        have e2 := letB_val hv.2.1
        have e3 := letB_val hv.2.2.1
        have e4 := letB_val hv.2.2.2
        simp only [List.cons_append, List.nil_append, encS]
        rw [byteN_toNat _ (by omega), byteN_toNat _ (by omega), byteN_toNat _ (by omega), ih]
        rw [show (valB a * 4 + valB b / 16) / 4 = valB a by omega, show (valB a * 4 + valB b / 16) % 4 * 16 + (valB b % 16 * 16 + valB c / 4) / 16 = valB b by omega, show (valB b % 16 * 16 + valB c / 4) % 16 * 4 + (valB c % 4 * 64 + valB d) / 64 = valB c by omega, show (valB c % 4 * 64 + valB d) % 64 = valB d by omega, e1, e2, e3, e4]
      · cases hx

theorem dec_iff (t l : List UInt8) : decS t = some l ↔ encS l = t :=
  ⟨enc_dec t l, fun h => by rw [← h]; exact decS_enc l⟩

theorem enc_len : ∀ l : List UInt8, (encS l).length = (l.length + 2) / 3 * 4
  | [] => rfl
  | [a] => by simp [encS]
  | [a, b] => by simp [encS]
  | a :: b :: c :: r => by
    simp only [encS, List.length_cons, enc_len r]
    omega

/-- The document's bytes of letters, were they letters. -/
def refOut : List UInt8 → List UInt8
  | a :: b :: c :: d :: r =>
    byteN (valB a % 64 * 4 + valB b % 64 / 16) :: ((if c = 61 then [] else [byteN (valB b % 64 % 16 * 16 + valB c % 64 / 4)]) ++ ((if d = 61 then [] else [byteN (valB c % 64 % 4 * 64 + valB d % 64)]) ++ refOut r))
  | _ => []

theorem refOut_enc : ∀ l : List UInt8, refOut (encS l) = l
  | [] => rfl
  | [a] => by
    have ha := a.toNat_lt
    simp only [encS, refOut, if_true]
    rw [valB_let _ (by omega), valB_let _ (by omega)]
    simp
    apply toNat_eq
    rw [byteN_toNat _ (by omega)]
    omega
  | [a, b] => by
    have ha := a.toNat_lt
    have hb := b.toNat_lt
    have h1 := (letB_clean (b.toNat % 16 * 4) (by omega)).1
    simp only [encS, refOut, if_true, if_neg h1]
    rw [valB_let _ (by omega), valB_let _ (by omega), valB_let _ (by omega)]
    simp
    constructor
    all_goals
      apply toNat_eq
      rw [byteN_toNat _ (by omega)]
      omega
  | a :: b :: c :: r => by
    have ha := a.toNat_lt
    have hb := b.toNat_lt
    have hc := c.toNat_lt
    have h1 := (letB_clean (c.toNat % 64) (by omega)).1
    have h2 := (letB_clean (b.toNat % 16 * 4 + c.toNat / 64) (by omega)).1
    simp only [encS, refOut, if_neg h1, if_neg h2]
    rw [valB_let _ (by omega), valB_let _ (by omega), valB_let _ (by omega), valB_let _ (by omega), refOut_enc r]
    simp
    refine ⟨?_, ?_, ?_⟩
    all_goals
      apply toNat_eq
      rw [byteN_toNat _ (by omega)]
      omega

/-- What the document answers is what is decoded. -/
theorem decS_ref (t : List UInt8) : decS t = if encS (refOut t) = t then some (refOut t) else none := by
  split
  · rename_i h
    exact (dec_iff t _).2 h
  · rename_i h
    rcases ho : decS t with _ | l
    · rfl
    · have e := enc_dec t l ho
      exfalso
      apply h
      rw [← e, refOut_enc]

/-- Lines of so many. -/
def cutF (w : Nat) : Nat → List UInt8 → List UInt8
  | 0, _ => []
  | g + 1, t => if t = [] then [] else t.take w ++ ([13, 10] ++ cutF w g (t.drop w))
def cutL (w : Nat) (t : List UInt8) : List UInt8 := cutF w t.length t
theorem cutF_more (w : Nat) (hw : 0 < w) : ∀ (g h : Nat) (t : List UInt8), t.length ≤ g → t.length ≤ h → cutF w g t = cutF w h t
  | 0, 0, _, _, _ => rfl
  | 0, h + 1, t, h1, _ => by
    have : t = [] := List.eq_nil_of_length_eq_zero (by omega)
    simp [cutF, this]
  | g + 1, 0, t, _, h2 => by
    have : t = [] := List.eq_nil_of_length_eq_zero (by omega)
    simp [cutF, this]
  | g + 1, h + 1, t, h1, h2 => by
    unfold cutF
    rw [cutF_more w hw g h (t.drop w)]
    · rw [List.length_drop]; omega
    · rw [List.length_drop]; omega
theorem cutL_nil (w : Nat) : cutL w [] = [] := rfl
theorem cutL_step {w : Nat} {t : List UInt8} (hw : 0 < w) (h : t ≠ []) : cutL w t = t.take w ++ ([13, 10] ++ cutL w (t.drop w)) := by
  unfold cutL
  have hl : 0 < t.length := List.length_pos_iff.2 h
  obtain ⟨n, hn⟩ : ∃ n, t.length = n + 1 := ⟨t.length - 1, by omega⟩
  rw [hn, cutF, if_neg h, cutF_more w hw n (t.drop w).length]
  · rw [List.length_drop]; omega
  · exact Nat.le_refl _

def lineS (w : Int) (t : List UInt8) : List UInt8 := if 0 < w then cutL w.toNat t else t

def isGap (c : UInt8) : Bool := c == 32 || c == 9 || c == 13 || c == 10
def bareS (l : List UInt8) : List UInt8 := l.filter fun c => !isGap c

theorem letB_bare {n : Nat} (h : n < 64) : isGap (letB n) = false := by
  obtain ⟨_, h1, h2, h3, h4⟩ := letB_clean n h
  simp [isGap, h1, h2, h3, h4]
theorem enc_bare : ∀ l : List UInt8, ∀ c ∈ encS l, isGap c = false
  | [], c, h => by cases h
  | [a], c, h => by
    have ha := a.toNat_lt
    simp only [encS, List.mem_cons, List.not_mem_nil, or_false] at h
    rcases h with rfl | rfl | rfl | rfl
    · exact letB_bare (by omega)
    · exact letB_bare (by omega)
    · rfl
    · rfl
  | [a, b], c, h => by
    have ha := a.toNat_lt
    have hb := b.toNat_lt
    simp only [encS, List.mem_cons, List.not_mem_nil, or_false] at h
    rcases h with rfl | rfl | rfl | rfl
    · exact letB_bare (by omega)
    · exact letB_bare (by omega)
    · exact letB_bare (by omega)
    · rfl
  | a :: b :: d :: r, c, h => by
    have ha := a.toNat_lt
    have hb := b.toNat_lt
    have hd := d.toNat_lt
    simp only [encS, List.mem_cons] at h
    rcases h with rfl | rfl | rfl | rfl | h
    · exact letB_bare (by omega)
    · exact letB_bare (by omega)
    · exact letB_bare (by omega)
    · exact letB_bare (by omega)
    · exact enc_bare r c h
theorem bareS_id {l : List UInt8} (h : ∀ c ∈ l, isGap c = false) : bareS l = l := by
  unfold bareS
  rw [List.filter_eq_self]
  intro c hc
  simp [h c hc]
theorem bareS_enc (l : List UInt8) : bareS (encS l) = encS l := bareS_id (enc_bare l)
theorem bareS_append (a b : List UInt8) : bareS (a ++ b) = bareS a ++ bareS b := by simp [bareS]
theorem bareS_cutF (w : Nat) (hw : 0 < w) : ∀ (g : Nat) (t : List UInt8), t.length ≤ g → bareS (cutF w g t) = bareS t
  | 0, t, h => by
    have : t = [] := List.eq_nil_of_length_eq_zero (by omega)
    simp [cutF, this]
  | g + 1, t, h => by
    unfold cutF
    split
    · rename_i e
      rw [e]
    · rw [bareS_append, bareS_append, bareS_cutF w hw g (t.drop w) (by rw [List.length_drop]; omega)]
      have e : bareS [13, 10] = [] := by decide
      rw [e, List.nil_append, ← bareS_append, List.take_append_drop]
theorem bareS_cut (w : Nat) (hw : 0 < w) (t : List UInt8) : bareS (cutL w t) = bareS t := bareS_cutF w hw _ t (Nat.le_refl _)
theorem bareS_line (w : Int) (t : List UInt8) : bareS (lineS w t) = bareS t := by
  unfold lineS
  split
  · exact bareS_cut _ (by omega) t
  · rfl
theorem dec_line (w : Int) (l : List UInt8) : decS (bareS (lineS w (encS l))) = some l := by rw [bareS_line, bareS_enc, decS_enc]

theorem cutF_len (w : Nat) (hw : 0 < w) : ∀ (g : Nat) (t : List UInt8), t.length ≤ g → (cutF w g t).length = t.length + 2 * ((t.length + w - 1) / w)
  | 0, t, h => by
    have h0 : t.length = 0 := by omega
    have : (w - 1) / w = 0 := Nat.div_eq_of_lt (by omega)
    simp [cutF, h0, this]
  | g + 1, t, h => by
    unfold cutF
    split
    · rename_i e
      subst e
      have : (w - 1) / w = 0 := Nat.div_eq_of_lt (by omega)
      simp [this]
    · rename_i e
      have hl : 0 < t.length := List.length_pos_iff.2 e
      rw [List.length_append, List.length_append, cutF_len w hw g (t.drop w) (by rw [List.length_drop]; omega), List.length_take, List.length_drop]
      simp only [List.length_cons, List.length_nil]
      by_cases hc : w ≤ t.length
      · have e1 : (t.length + w - 1) / w = (t.length - w + w - 1) / w + 1 := by
          have : t.length + w - 1 = (t.length - w + w - 1) + w := by omega
          rw [this, Nat.add_div_right _ hw]
        omega
      · have e1 : (t.length + w - 1) / w = 1 := by
          have : t.length + w - 1 = (t.length - 1) + w := by omega
          rw [this, Nat.add_div_right _ hw, Nat.div_eq_of_lt (by omega)]
        have e2 : (t.length - w + w - 1) / w = 0 := Nat.div_eq_of_lt (by omega)
        rw [e1, e2]
        omega
theorem cut_len (w : Nat) (hw : 0 < w) (t : List UInt8) : (cutL w t).length = t.length + 2 * ((t.length + w - 1) / w) := cutF_len w hw _ t (Nat.le_refl _)

/-- Line i ends where it should: its last two bytes. -/
theorem cutF_at (w : Nat) (hw : 0 < w) : ∀ (i g : Nat) (t : List UInt8), t.length ≤ g → (i + 1) * w ≤ t.length →
    (cutF w g t)[i * (w + 2) + w]? = some 13 ∧ (cutF w g t)[i * (w + 2) + w + 1]? = some 10
  | i, 0, t, h, hi => by
    exfalso
    have : (i + 1) * w = i * w + w := Nat.succ_mul i w
    omega
  | 0, g + 1, t, h, hi => by
    unfold cutF
    rw [if_neg (by rintro rfl; simp at hi; omega)]
    have hl : (t.take w).length = w := by rw [List.length_take]; omega
    constructor
    · rw [Nat.zero_mul, Nat.zero_add, List.getElem?_append_right (by omega), hl, Nat.sub_self]
      rfl
    · rw [Nat.zero_mul, Nat.zero_add, List.getElem?_append_right (by omega), hl, Nat.add_sub_cancel_left]
      rfl
  | i + 1, g + 1, t, h, hi => by
    have e0 : (i + 1 + 1) * w = (i + 1) * w + w := Nat.succ_mul _ w
    have e1 : (i + 1) * w = i * w + w := Nat.succ_mul i w
    have e2 : (i + 1) * (w + 2) = i * (w + 2) + (w + 2) := Nat.succ_mul i _
    unfold cutF
    rw [if_neg (by rintro rfl; simp at hi; omega)]
    have hl : (t.take w).length = w := by rw [List.length_take]; omega
    obtain ⟨i1, i2⟩ := cutF_at w hw i g (t.drop w) (by rw [List.length_drop]; omega) (by rw [List.length_drop]; omega)
    constructor
    · rw [List.getElem?_append_right (by omega), hl, List.getElem?_append_right (by simp; omega)]
      rw [show (i + 1) * (w + 2) + w - w - ([13, 10] : List UInt8).length = i * (w + 2) + w by simp; omega]
      exact i1
    · rw [List.getElem?_append_right (by omega), hl, List.getElem?_append_right (by simp; omega)]
      rw [show (i + 1) * (w + 2) + w + 1 - w - ([13, 10] : List UInt8).length = i * (w + 2) + w + 1 by simp; omega]
      exact i2
theorem cut_at (w : Nat) (hw : 0 < w) (i : Nat) (t : List UInt8) (h : (i + 1) * w ≤ t.length) :
    (cutL w t)[i * (w + 2) + w]? = some 13 ∧ (cutL w t)[i * (w + 2) + w + 1]? = some 10 := cutF_at w hw i _ t (Nat.le_refl _) h
end Go.Proofs.YtolkjaebhhbilaaDoor
