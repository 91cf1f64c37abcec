/- Base64 in plain words: letters, what they are of, lines, and blanks. No program. -/
import Derived.Test.YteallnjbpikhhaaGreatDoorKit2
namespace Go.Proofs.YteallnjbpikhhaaGreatDoor
open Go Go.RowKit

def tabL : List UInt8 := [65, 66, 67, 68, 69, 70, 71, 72, 73, 74, 75, 76, 77, 78, 79, 80, 81, 82, 83, 84, 85, 86, 87, 88, 89, 90, 97, 98, 99, 100, 101, 102, 103, 104, 105, 106, 107, 108, 109, 110, 111, 112, 113, 114, 115, 116, 117, 118, 119, 120, 121, 122, 48, 49, 50, 51, 52, 53, 54, 55, 56, 57, 43, 47]
def letB (n : Nat) : UInt8 := tabL.getD n 0
def valB (c : UInt8) : Nat := tabL.findIdx (· == c)

theorem valB_let : ∀ n, n < 64 → valB (letB n) = n := by decide
theorem valB_le (c : UInt8) : valB c ≤ 64 := List.findIdx_le_length
theorem letB_val {c : UInt8} (h : valB c < 64) : letB (valB c) = c := by
  have h1 : tabL.findIdx (· == c) < tabL.length := h
  have h2 := List.findIdx_getElem (w := h1)
  have h3 : tabL[tabL.findIdx (· == c)] = c := by simpa using h2
  unfold letB valB
  rw [List.getD_eq_getElem?_getD, List.getElem?_eq_getElem h1, Option.getD_some, h3]
theorem valB_pad : valB 61 = 64 := by decide
theorem letB_clean : ∀ n, n < 64 → letB n ≠ 61 ∧ letB n ≠ 32 ∧ letB n ≠ 9 ∧ letB n ≠ 13 ∧ letB n ≠ 10 := by decide

/-- The letters of bytes. -/
def encS : List UInt8 → List UInt8
  | a :: b :: c :: r => letB (a.toNat / 4) :: letB (a.toNat % 4 * 16 + b.toNat / 16) :: letB (b.toNat % 16 * 4 + c.toNat / 64) :: letB (c.toNat % 64) :: encS r
  | [a, b] => [letB (a.toNat / 4), letB (a.toNat % 4 * 16 + b.toNat / 16), letB (b.toNat % 16 * 4), 61]
  | [a] => [letB (a.toNat / 4), letB (a.toNat % 4 * 16), 61, 61]
  | [] => []

/-- What four letters are of. -/
def dec4 (a b c d : UInt8) : Option (List UInt8) :=
  if d = 61 then
    if c = 61 then
      if valB a < 64 ∧ valB b < 64 ∧ valB b % 16 = 0 then some [byteN (valB a * 4 + valB b / 16)] else none
    else
      if valB a < 64 ∧ valB b < 64 ∧ valB c < 64 ∧ valB c % 4 = 0 then some [byteN (valB a * 4 + valB b / 16), byteN (valB b % 16 * 16 + valB c / 4)] else none
  else
    if valB a < 64 ∧ valB b < 64 ∧ valB c < 64 ∧ valB d < 64 then some [byteN (valB a * 4 + valB b / 16), byteN (valB b % 16 * 16 + valB c / 4), byteN (valB c % 4 * 64 + valB d)] else none

def decS : List UInt8 → Option (List UInt8)
  | [] => some []
  | a :: b :: c :: d :: r => match dec4 a b c d with
    | none => none
    | some xs => if xs.length < 3 ∧ r ≠ [] then none else (decS r).map (xs ++ ·)
  | _ => none

theorem decS_enc : ∀ l : List UInt8, decS (encS l) = some l
  | [] => rfl
  | [a] => by
    have ha := a.toNat_lt
    simp only [encS, decS, dec4, if_true]
    rw [valB_let _ (by omega), valB_let _ (by omega), if_pos (by omega)]
    simp
    apply toNat_eq
    rw [byteN_toNat _ (by omega)]
    omega
  | [a, b] => by
    have ha := a.toNat_lt
    have hb := b.toNat_lt
    have h1 := (letB_clean (b.toNat % 16 * 4) (by omega)).1
    simp only [encS, decS, dec4, if_true, if_neg h1]
    rw [valB_let _ (by omega), valB_let _ (by omega), valB_let _ (by omega), if_pos (by omega)]
    simp
    constructor
    · apply toNat_eq
      rw [byteN_toNat _ (by omega)]
      omega
    · apply toNat_eq
      rw [byteN_toNat _ (by omega)]
      omega
  | a :: b :: c :: r => by
    have ha := a.toNat_lt
    have hb := b.toNat_lt
    have hc := c.toNat_lt
    have h1 := (letB_clean (c.toNat % 64) (by omega)).1
    simp only [encS, decS, dec4, if_neg h1]
    rw [valB_let _ (by omega), valB_let _ (by omega), valB_let _ (by omega), valB_let _ (by omega), if_pos (by omega), decS_enc r]
    simp
    refine ⟨?_, ?_, ?_⟩
    all_goals
      apply toNat_eq
      rw [byteN_toNat _ (by omega)]
      omega

theorem enc_dec : ∀ (t l : List UInt8), decS t = some l → encS l = t
  | [], l, h => by simp [decS] at h; subst h; rfl
  | [_], _, h => by simp [decS] at h
  | [_, _], _, h => by simp [decS] at h
  | [_, _, _], _, h => by simp [decS] at h
  | a :: b :: c :: d :: r, l, h => by
    unfold decS at h
    split at h
    · cases h
    rename_i xs hx
    unfold dec4 at hx
    split at hx
    · rename_i hd
      split at hx
      · rename_i hc
        split at hx
        · rename_i hv
          cases hx
          split at h
          · cases h
          · rename_i hr
            have hr' : r = [] := by
              rcases Decidable.em (r = []) with e | e
              · exact e
              · exact absurd ⟨by simp, e⟩ hr
            subst hr'
            simp only [decS, Option.map_some] at h
            cases h
            subst hd hc
            have e1 := letB_val hv.1
            have e2 := letB_val hv.2.1
            simp only [List.append_nil, encS]
            rw [byteN_toNat _ (by omega)]
            rw [show (valB a * 4 + valB b / 16) / 4 = valB a by omega, show (valB a * 4 + valB b / 16) % 4 * 16 = valB b by omega, e1, e2]
        · cases hx
      · split at hx
        · rename_i hc hv
          cases hx
          split at h
          · cases h
          · rename_i hr
            have hr' : r = [] := by
              rcases Decidable.em (r = []) with e | e
              · exact e
              · exact absurd ⟨by simp, e⟩ hr
            subst hr'
            simp only [decS, Option.map_some] at h
            cases h
            subst hd
            have e1 := letB_val hv.1
            have e2 := letB_val hv.2.1
            have e3 := letB_val hv.2.2.1
            simp only [List.append_nil, encS]
            rw [byteN_toNat _ (by omega), byteN_toNat _ (by omega)]
            rw [show (valB a * 4 + valB b / 16) / 4 = valB a by omega, show (valB a * 4 + valB b / 16) % 4 * 16 + (valB b % 16 * 16 + valB c / 4) / 16 = valB b by omega, show (valB b % 16 * 16 + valB c / 4) % 16 * 4 = valB c by omega, e1, e2, e3]
        · cases hx
    · split at hx
      · rename_i hd hv
        cases hx
        rw [if_neg (by simp)] at h
        obtain ⟨r', hr', rfl⟩ := Option.map_eq_some_iff.1 h
        have ih := enc_dec r r' hr'
        have e1 := letB_val hv.1
        have e2 := letB_val hv.2.1
        have e3 := letB_val hv.2.2.1
        have e4 := letB_val hv.2.2.2
        simp only [List.cons_append, List.nil_append, encS]
        rw [byteN_toNat _ (by omega), byteN_toNat _ (by omega), byteN_toNat _ (by omega), ih]
        rw [show (valB a * 4 + valB b / 16) / 4 = valB a by omega, show (valB a * 4 + valB b / 16) % 4 * 16 + (valB b % 16 * 16 + valB c / 4) / 16 = valB b by omega, show (valB b % 16 * 16 + valB c / 4) % 16 * 4 + (valB c % 4 * 64 + valB d) / 64 = valB c by omega, show (valB c % 4 * 64 + valB d) % 64 = valB d by omega, e1, e2, e3, e4]
      · cases hx

theorem dec_iff (t l : List UInt8) : decS t = some l ↔ encS l = t :=
  ⟨enc_dec t l, fun h => by rw [← h]; exact decS_enc l⟩

theorem enc_len : ∀ l : List UInt8, (encS l).length = (l.length + 2) / 3 * 4
  | [] => rfl
  | [a] => by simp [encS]
  | [a, b] => by simp [encS]
  | a :: b :: c :: r => by
    simp only [encS, List.length_cons, enc_len r]
    omega

/-- The document's bytes of letters, were they letters. -/
def refOut : List UInt8 → List UInt8
  | a :: b :: c :: d :: r =>
    byteN (valB a % 64 * 4 + valB b % 64 / 16) :: ((if c = 61 then [] else [byteN (valB b % 64 % 16 * 16 + valB c % 64 / 4)]) ++ ((if d = 61 then [] else [byteN (valB c % 64 % 4 * 64 + valB d % 64)]) ++ refOut r))
  | _ => []

theorem refOut_enc : ∀ l : List UInt8, refOut (encS l) = l
  | [] => rfl
  | [a] => by
    have ha := a.toNat_lt
    simp only [encS, refOut, if_true]
    rw [valB_let _ (by omega), valB_let _ (by omega)]
    simp
    apply toNat_eq
    rw [byteN_toNat _ (by omega)]
    omega
  | [a, b] => by
    have ha := a.toNat_lt
    have hb := b.toNat_lt
    have h1 := (letB_clean (b.toNat % 16 * 4) (by omega)).1
    simp only [encS, refOut, if_true, if_neg h1]
    rw [valB_let _ (by omega), valB_let _ (by omega), valB_let _ (by omega)]
    simp
    constructor
    all_goals
      apply toNat_eq
      rw [byteN_toNat _ (by omega)]
      omega
  | a :: b :: c :: r => by
    have ha := a.toNat_lt
    have hb := b.toNat_lt
    have hc := c.toNat_lt
    have h1 := (letB_clean (c.toNat % 64) (by omega)).1
    have h2 := (letB_clean (b.toNat % 16 * 4 + c.toNat / 64) (by omega)).1
    simp only [encS, refOut, if_neg h1, if_neg h2]
    rw [valB_let _ (by omega), valB_let _ (by omega), valB_let _ (by omega), valB_let _ (by omega), refOut_enc r]
    simp
    refine ⟨?_, ?_, ?_⟩
    all_goals
      apply toNat_eq
      rw [byteN_toNat _ (by omega)]
      omega

/-- What the document answers is what is decoded. -/
theorem decS_ref (t : List UInt8) : decS t = if encS (refOut t) = t then some (refOut t) else none := by
  split
  · rename_i h
    exact (dec_iff t _).2 h
  · rename_i h
    rcases ho : decS t with _ | l
    · rfl
    · have e := enc_dec t l ho
      exfalso
      apply h
      rw [← e, refOut_enc]

/-- Lines of so many. -/
def cutF (w : Nat) : Nat → List UInt8 → List UInt8
  | 0, _ => []
  | g + 1, t => if t = [] then [] else t.take w ++ ([13, 10] ++ cutF w g (t.drop w))
def cutL (w : Nat) (t : List UInt8) : List UInt8 := cutF w t.length t
theorem cutF_more (w : Nat) (hw : 0 < w) : ∀ (g h : Nat) (t : List UInt8), t.length ≤ g → t.length ≤ h → cutF w g t = cutF w h t
  | 0, 0, _, _, _ => rfl
  | 0, h + 1, t, h1, _ => by
    have : t = [] := List.eq_nil_of_length_eq_zero (by omega)
    simp [cutF, this]
  | g + 1, 0, t, _, h2 => by
    have : t = [] := List.eq_nil_of_length_eq_zero (by omega)
    simp [cutF, this]
  | g + 1, h + 1, t, h1, h2 => by
    unfold cutF
    rw [cutF_more w hw g h (t.drop w)]
    · rw [List.length_drop]; omega
    · rw [List.length_drop]; omega
theorem cutL_nil (w : Nat) : cutL w [] = [] := rfl
theorem cutL_step {w : Nat} {t : List UInt8} (hw : 0 < w) (h : t ≠ []) : cutL w t = t.take w ++ ([13, 10] ++ cutL w (t.drop w)) := by
  unfold cutL
  have hl : 0 < t.length := List.length_pos_iff.2 h
  obtain ⟨n, hn⟩ : ∃ n, t.length = n + 1 := ⟨t.length - 1, by omega⟩
  rw [hn, cutF, if_neg h, cutF_more w hw n (t.drop w).length]
  · rw [List.length_drop]; omega
  · exact Nat.le_refl _

def lineS (w : Int) (t : List UInt8) : List UInt8 := if 0 < w then cutL w.toNat t else t

def isGap (c : UInt8) : Bool := c == 32 || c == 9 || c == 13 || c == 10
def bareSG (l : List UInt8) : List UInt8 := l.filter fun c => !isGap c

theorem letB_bare {n : Nat} (h : n < 64) : isGap (letB n) = false := by
  obtain ⟨_, h1, h2, h3, h4⟩ := letB_clean n h
  simp [isGap, h1, h2, h3, h4]
theorem enc_bare : ∀ l : List UInt8, ∀ c ∈ encS l, isGap c = false
  | [], c, h => by cases h
  | [a], c, h => by
    have ha := a.toNat_lt
    simp only [encS, List.mem_cons, List.not_mem_nil, or_false] at h
    rcases h with rfl | rfl | rfl | rfl
    · exact letB_bare (by omega)
    · exact letB_bare (by omega)
    · rfl
    · rfl
  | [a, b], c, h => by
    have ha := a.toNat_lt
    have hb := b.toNat_lt
    simp only [encS, List.mem_cons, List.not_mem_nil, or_false] at h
    rcases h with rfl | rfl | rfl | rfl
    · exact letB_bare (by omega)
    · exact letB_bare (by omega)
    · exact letB_bare (by omega)
    · rfl
  | a :: b :: d :: r, c, h => by
    have ha := a.toNat_lt
    have hb := b.toNat_lt
    have hd := d.toNat_lt
    simp only [encS, List.mem_cons] at h
    rcases h with rfl | rfl | rfl | rfl | h
    · exact letB_bare (by omega)
    · exact letB_bare (by omega)
    · exact letB_bare (by omega)
    · exact letB_bare (by omega)
    · exact enc_bare r c h
theorem bareS_id {l : List UInt8} (h : ∀ c ∈ l, isGap c = false) : bareSG l = l := by
  unfold bareSG
  rw [List.filter_eq_self]
  intro c hc
  simp [h c hc]
theorem bareS_enc (l : List UInt8) : bareSG (encS l) = encS l := bareS_id (enc_bare l)
theorem bareS_append (a b : List UInt8) : bareSG (a ++ b) = bareSG a ++ bareSG b := by simp [bareSG]
theorem bareS_cutF (w : Nat) (hw : 0 < w) : ∀ (g : Nat) (t : List UInt8), t.length ≤ g → bareSG (cutF w g t) = bareSG t
  | 0, t, h => by
    have : t = [] := List.eq_nil_of_length_eq_zero (by omega)
    simp [cutF, this]
  | g + 1, t, h => by
    unfold cutF
    split
    · rename_i e
      rw [e]
    · rw [bareS_append, bareS_append, bareS_cutF w hw g (t.drop w) (by rw [List.length_drop]; omega)]
      have e : bareSG [13, 10] = [] := by decide
      rw [e, List.nil_append, ← bareS_append, List.take_append_drop]
theorem bareS_cut (w : Nat) (hw : 0 < w) (t : List UInt8) : bareSG (cutL w t) = bareSG t := bareS_cutF w hw _ t (Nat.le_refl _)
theorem bareS_line (w : Int) (t : List UInt8) : bareSG (lineS w t) = bareSG t := by
  unfold lineS
  split
  · exact bareS_cut _ (by omega) t
  · rfl
theorem dec_line (w : Int) (l : List UInt8) : decS (bareSG (lineS w (encS l))) = some l := by rw [bareS_line, bareS_enc, decS_enc]

theorem cutF_len (w : Nat) (hw : 0 < w) : ∀ (g : Nat) (t : List UInt8), t.length ≤ g → (cutF w g t).length = t.length + 2 * ((t.length + w - 1) / w)
  | 0, t, h => by
    have h0 : t.length = 0 := by omega
    have : (w - 1) / w = 0 := Nat.div_eq_of_lt (by omega)
    simp [cutF, h0, this]
  | g + 1, t, h => by
    unfold cutF
    split
    · rename_i e
      subst e
      have : (w - 1) / w = 0 := Nat.div_eq_of_lt (by omega)
      simp [this]
    · rename_i e
      have hl : 0 < t.length := List.length_pos_iff.2 e
      rw [List.length_append, List.length_append, cutF_len w hw g (t.drop w) (by rw [List.length_drop]; omega), List.length_take, List.length_drop]
      simp only [List.length_cons, List.length_nil]
      by_cases hc : w ≤ t.length
      · have e1 : (t.length + w - 1) / w = (t.length - w + w - 1) / w + 1 := by
          have : t.length + w - 1 = (t.length - w + w - 1) + w := by omega
          rw [this, Nat.add_div_right _ hw]
        omega
      · have e1 : (t.length + w - 1) / w = 1 := by
          have : t.length + w - 1 = (t.length - 1) + w := by omega
          rw [this, Nat.add_div_right _ hw, Nat.div_eq_of_lt (by omega)]
        have e2 : (t.length - w + w - 1) / w = 0 := Nat.div_eq_of_lt (by omega)
        rw [e1, e2]
        omega
theorem cut_len (w : Nat) (hw : 0 < w) (t : List UInt8) : (cutL w t).length = t.length + 2 * ((t.length + w - 1) / w) := cutF_len w hw _ t (Nat.le_refl _)

/-- Line i ends where it should: its last two bytes. -/
theorem cutF_at (w : Nat) (hw : 0 < w) : ∀ (i g : Nat) (t : List UInt8), t.length ≤ g → (i + 1) * w ≤ t.length →
    (cutF w g t)[i * (w + 2) + w]? = some 13 ∧ (cutF w g t)[i * (w + 2) + w + 1]? = some 10
  | i, 0, t, h, hi => by
    exfalso
    have : (i + 1) * w = i * w + w := Nat.succ_mul i w
    omega
  | 0, g + 1, t, h, hi => by
    unfold cutF
    rw [if_neg (by rintro rfl; simp at hi; omega)]
    have hl : (t.take w).length = w := by rw [List.length_take]; omega
    constructor
    · rw [Nat.zero_mul, Nat.zero_add, List.getElem?_append_right (by omega), hl, Nat.sub_self]
      rfl
    · rw [Nat.zero_mul, Nat.zero_add, List.getElem?_append_right (by omega), hl, Nat.add_sub_cancel_left]
      rfl
  | i + 1, g + 1, t, h, hi => by
    have e0 : (i + 1 + 1) * w = (i + 1) * w + w := Nat.succ_mul _ w
    have e1 : (i + 1) * w = i * w + w := Nat.succ_mul i w
    have e2 : (i + 1) * (w + 2) = i * (w + 2) + (w + 2) := Nat.succ_mul i _
    unfold cutF
    rw [if_neg (by rintro rfl; simp at hi; omega)]
    have hl : (t.take w).length = w := by rw [List.length_take]; omega
    obtain ⟨i1, i2⟩ := cutF_at w hw i g (t.drop w) (by rw [List.length_drop]; omega) (by rw [List.length_drop]; omega)
    constructor
    · rw [List.getElem?_append_right (by omega), hl, List.getElem?_append_right (by simp; omega)]
      rw [show (i + 1) * (w + 2) + w - w - ([13, 10] : List UInt8).length = i * (w + 2) + w by simp; omega]
      exact i1
    · rw [List.getElem?_append_right (by omega), hl, List.getElem?_append_right (by simp; omega)]
      rw [show (i + 1) * (w + 2) + w + 1 - w - ([13, 10] : List UInt8).length = i * (w + 2) + w + 1 by simp; omega]
      exact i2
theorem cut_at (w : Nat) (hw : 0 < w) (i : Nat) (t : List UInt8) (h : (i + 1) * w ≤ t.length) :
    (cutL w t)[i * (w + 2) + w]? = some 13 ∧ (cutL w t)[i * (w + 2) + w + 1]? = some 10 := cutF_at w hw i _ t (Nat.le_refl _) h
end Go.Proofs.YteallnjbpikhhaaGreatDoor

/- Quoted-printable in plain words: lines, texts, what bytes are encoded as. No program. -/
namespace Go.Proofs.YteallnjbpikhhaaGreatDoor
open Go Go.RowKit

def isBl (c : UInt8) : Bool := c == 32 || c == 9
def trimB (l : List UInt8) : List UInt8 := (l.reverse.dropWhile isBl).reverse
def hexVQ (c : UInt8) : Nat :=
  if 48 ≤ c.toNat ∧ c.toNat ≤ 57 then c.toNat - 48 else if 65 ≤ c.toNat ∧ c.toNat ≤ 70 then c.toNat - 55 else if 97 ≤ c.toNat ∧ c.toNat ≤ 102 then c.toNat - 87 else 16
def seenB (c : UInt8) : Bool := decide (33 ≤ c.toNat ∧ c.toNat ≤ 126)
def okB (c : UInt8) : Bool := seenB c || isBl c
/-- What a line's text tells. -/
def textSQ : List UInt8 → Option (List UInt8)
  | [] => some []
  | c :: r => if c = 61 then (match r with
      | a :: b :: r' => if hexVQ a < 16 ∧ hexVQ b < 16 then (textSQ r').map (byteN (hexVQ a * 16 + hexVQ b) :: ·) else none
      | _ => none)
    else if okB c = true then (textSQ r).map (c :: ·) else none

def feedIQ (l : List UInt8) : Nat := l.findIdx (· == 10)
def fromI (l : List UInt8) : Nat := if 0 < feedIQ l ∧ l.getD (feedIQ l - 1) 0 = 13 then feedIQ l - 1 else feedIQ l
def lineL (l : List UInt8) : List UInt8 := if feedIQ l < l.length then l.take (fromI l) else l
def endL (l : List UInt8) : List UInt8 := if feedIQ l < l.length then (l.drop (fromI l)).take (feedIQ l + 1 - fromI l) else []
def restL (l : List UInt8) : List UInt8 := l.drop (feedIQ l + 1)
def softL (l : List UInt8) : Bool := (trimB l).getLast? == some 61
def txtL (l : List UInt8) : List UInt8 := if softL l = true then (trimB l).dropLast else trimB l
def tailL (l : List UInt8) : List UInt8 := if softL (lineL l) = true then [] else endL l

def decF : Nat → List UInt8 → Option (List UInt8)
  | 0, _ => some []
  | n + 1, l => if l = [] then some [] else match textSQ (txtL (lineL l)) with
    | none => none
    | some p => (decF n (restL l)).map (p ++ tailL l ++ ·)
def decQ (l : List UInt8) : Option (List UInt8) := decF l.length l

def digB (n : Nat) : UInt8 := byteN (if n < 10 then n + 48 else n + 55)
def encB (c : UInt8) : List UInt8 := if seenB c = true ∧ c ≠ 61 then [c] else [61, digB (c.toNat / 16), digB (c.toNat % 16)]
def encQ (l : List UInt8) : List UInt8 := l.flatMap encB

theorem feedI_leQ (l : List UInt8) : feedIQ l ≤ l.length := List.findIdx_le_length
theorem fromI_le (l : List UInt8) : fromI l ≤ feedIQ l := by unfold fromI; split <;> omega
theorem restL_len (l : List UInt8) (h : l ≠ []) : (restL l).length < l.length := by
  have := List.length_pos_iff.2 h
  unfold restL
  rw [List.length_drop]
  omega
theorem decF_nil (n : Nat) : decF n [] = some [] := by cases n <;> rfl
theorem decF_fuel : ∀ (n m : Nat) (l : List UInt8), l.length ≤ n → l.length ≤ m → decF n l = decF m l
  | 0, m, l, h, _ => by
    obtain rfl : l = [] := List.eq_nil_of_length_eq_zero (by omega)
    rw [decF_nil, decF_nil]
  | n + 1, 0, l, _, h => by
    obtain rfl : l = [] := List.eq_nil_of_length_eq_zero (by omega)
    rw [decF_nil, decF_nil]
  | n + 1, m + 1, l, h1, h2 => by
    simp only [decF]
    by_cases h0 : l = []
    · rw [if_pos h0, if_pos h0]
    · have := restL_len l h0
      rw [if_neg h0, if_neg h0, decF_fuel n m (restL l) (by omega) (by omega)]
theorem decQ_nil : decQ [] = some [] := rfl
theorem decQ_step (l : List UInt8) (h : l ≠ []) : decQ l = match textSQ (txtL (lineL l)) with
    | none => none
    | some p => (decQ (restL l)).map (p ++ tailL l ++ ·) := by
  have hr := restL_len l h
  unfold decQ
  obtain ⟨n, hn⟩ : ∃ n, l.length = n + 1 := ⟨l.length - 1, by omega⟩
  rw [hn, decF, if_neg h, decF_fuel n (restL l).length (restL l) (by omega) (by omega)]
theorem decQ_none {l : List UInt8} (h : l ≠ []) (ht : textSQ (txtL (lineL l)) = none) : decQ l = none := by rw [decQ_step l h, ht]
theorem decQ_some {l p : List UInt8} (h : l ≠ []) (ht : textSQ (txtL (lineL l)) = some p) : decQ l = (decQ (restL l)).map (p ++ tailL l ++ ·) := by rw [decQ_step l h, ht]

theorem hexV_dig : ∀ n, n < 16 → hexVQ (digB n) = n := by decide
theorem digB_seen : ∀ n, n < 16 → seenB (digB n) = true ∧ digB n ≠ 61 := by decide
theorem seenB_iff (c : UInt8) : seenB c = true ↔ 33 ≤ c.toNat ∧ c.toNat ≤ 126 := by unfold seenB; simp
theorem encB_seen (c : UInt8) : ∀ x ∈ encB c, seenB x = true := by
  intro x hx
  unfold encB at hx
  have hc := c.toNat_lt
  split at hx
  · rename_i h
    simp at hx
    subst hx
    exact h.1
  · simp at hx
    rcases hx with rfl | rfl | rfl
    · decide
    · exact (digB_seen _ (by omega)).1
    · exact (digB_seen _ (by omega)).1
theorem encQ_seen (l : List UInt8) : ∀ x ∈ encQ l, seenB x = true := by
  intro x hx
  unfold encQ at hx
  obtain ⟨c, _, hx⟩ := List.mem_flatMap.1 hx
  exact encB_seen c x hx
theorem encQ_append (a b : List UInt8) : encQ (a ++ b) = encQ a ++ encQ b := by simp [encQ]
theorem encQ_cons (a : UInt8) (b : List UInt8) : encQ (a :: b) = encB a ++ encQ b := by simp [encQ]
theorem encB_len (c : UInt8) : 1 ≤ (encB c).length ∧ (encB c).length ≤ 3 := by unfold encB; split <;> simp
theorem encQ_len : ∀ l : List UInt8, (encQ l).length ≤ 3 * l.length
  | [] => by simp [encQ]
  | a :: r => by
    have := encQ_len r
    have := encB_len a
    rw [encQ_cons, List.length_append, List.length_cons]
    omega
theorem encB_last (c : UInt8) : ∃ t x, encB c = t ++ [x] ∧ x ≠ 61 := by
  have hc := c.toNat_lt
  unfold encB
  split
  · rename_i h
    exact ⟨[], c, rfl, h.2⟩
  · exact ⟨[61, digB (c.toNat / 16)], digB (c.toNat % 16), rfl, (digB_seen _ (by omega)).2⟩
theorem encQ_last (l : List UInt8) : (encQ l).getLast? ≠ some 61 := by
  rcases List.eq_nil_or_concat l with rfl | ⟨t, x, rfl⟩
  · simp [encQ]
  · obtain ⟨u, y, h1, h2⟩ := encB_last x
    rw [List.concat_eq_append, encQ_append]
    simp only [encQ, List.flatMap_cons, List.flatMap_nil, List.append_nil]
    rw [h1, ← List.append_assoc, List.getLast?_append]
    simp
    exact h2
theorem textS_other (c : UInt8) (r : List UInt8) (h1 : c ≠ 61) : textSQ (c :: r) = if okB c = true then (textSQ r).map (c :: ·) else none := by
  rw [textSQ.eq_def]
  simp only
  rw [if_neg h1]
theorem textS_seen (c : UInt8) (r : List UInt8) (h : okB c = true) (h1 : c ≠ 61) : textSQ (c :: r) = (textSQ r).map (c :: ·) := by
  rw [textS_other c r h1, if_pos h]
theorem textS_bad (c : UInt8) (r : List UInt8) (h : okB c = false) (h1 : c ≠ 61) : textSQ (c :: r) = none := by
  rw [textS_other c r h1, h]
  rfl
theorem textS_hex (a b : UInt8) (r : List UInt8) (h : hexVQ a < 16 ∧ hexVQ b < 16) : textSQ (61 :: a :: b :: r) = (textSQ r).map (byteN (hexVQ a * 16 + hexVQ b) :: ·) := by
  simp only [textSQ]
  rw [if_pos trivial, if_pos h]
theorem textS_nohex (a b : UInt8) (r : List UInt8) (h : ¬ (hexVQ a < 16 ∧ hexVQ b < 16)) : textSQ (61 :: a :: b :: r) = none := by
  simp only [textSQ]
  rw [if_pos trivial, if_neg h]
theorem textS_short (r : List UInt8) (h : r.length < 2) : textSQ (61 :: r) = none := by
  match r, h with
  | [], _ => rfl
  | [a], _ => rfl
  | a :: b :: r, h => simp only [List.length_cons] at h; omega
theorem textS_encB (c : UInt8) (r : List UInt8) : textSQ (encB c ++ r) = (textSQ r).map (c :: ·) := by
  have hc := c.toNat_lt
  unfold encB
  split
  · rename_i h
    exact textS_seen c r (by unfold okB; rw [h.1]; rfl) h.2
  · have h1 := hexV_dig (c.toNat / 16) (by omega)
    have h2 := hexV_dig (c.toNat % 16) (by omega)
    have := textS_hex (digB (c.toNat / 16)) (digB (c.toNat % 16)) r (by omega)
    rw [h1, h2] at this
    have e : byteN (c.toNat / 16 * 16 + c.toNat % 16) = c := by
      apply toNat_eq
      rw [byteN_toNat _ (by omega)]
      omega
    rw [e] at this
    exact this
theorem textS_encQ : ∀ (l r : List UInt8), textSQ (encQ l ++ r) = (textSQ r).map (l ++ ·)
  | [], r => by simp [encQ]
  | c :: l, r => by
    rw [encQ_cons, List.append_assoc, textS_encB, textS_encQ l r]
    simp [Function.comp_def]

theorem seen_noblank {c : UInt8} (h : seenB c = true) : isBl c = false := by
  rw [seenB_iff] at h
  unfold isBl
  have e1 : (c == 32) = false := by rw [beq_eq_false_iff_ne]; rintro rfl; simp at h
  have e2 : (c == 9) = false := by rw [beq_eq_false_iff_ne]; rintro rfl; simp at h
  rw [e1, e2]; rfl
theorem trimB_keep {l : List UInt8} (h : ∀ x, l.getLast? = some x → isBl x = false) : trimB l = l := by
  unfold trimB
  rcases List.eq_nil_or_concat l with rfl | ⟨t, x, rfl⟩
  · rfl
  · have := h x (by simp)
    simp [this]
theorem trimB_snoc {l : List UInt8} {c : UInt8} (h : isBl c = true) : trimB (l ++ [c]) = trimB l := by
  unfold trimB
  simp [h]
theorem trimB_blanks (l : List UInt8) : ∀ (n : Nat) (bl : List UInt8), bl.length = n → (∀ x ∈ bl, isBl x = true) → trimB (l ++ bl) = trimB l
  | 0, bl, h, _ => by
    obtain rfl : bl = [] := List.eq_nil_of_length_eq_zero h
    simp
  | n + 1, bl, h, hb => by
    rcases List.eq_nil_or_concat bl with rfl | ⟨t, x, rfl⟩
    · simp at h
    · rw [List.concat_eq_append] at h hb ⊢
      rw [← List.append_assoc, trimB_snoc (hb x (by simp)), trimB_blanks l n t (by simp at h; omega) (fun y hy => hb y (by simp [hy]))]
theorem feedI_no {l : List UInt8} (h : ∀ x ∈ l, x ≠ 10) : feedIQ l = l.length := by
  unfold feedIQ
  rw [List.findIdx_eq_length]
  intro x hx
  have := h x hx
  simpa using this
theorem feedI_atQ {l r : List UInt8} (h : ∀ x ∈ l, x ≠ 10) : feedIQ (l ++ 10 :: r) = l.length := by
  unfold feedIQ
  rw [List.findIdx_append]
  have h1 := feedI_no h
  unfold feedIQ at h1
  rw [h1, if_neg (by omega)]
  simp [List.findIdx_cons]
theorem restL_at {l r : List UInt8} (h : ∀ x ∈ l, x ≠ 10) : restL (l ++ 10 :: r) = r := by
  unfold restL
  rw [feedI_atQ h]
  simp
theorem line_no {l : List UInt8} (h : ∀ x ∈ l, x ≠ 10) : lineL l = l ∧ endL l = [] ∧ restL l = [] := by
  have h1 := feedI_no h
  unfold lineL endL restL
  rw [h1, if_neg (by omega), if_neg (by omega)]
  simp
theorem line_lf {l r : List UInt8} (h : ∀ x ∈ l, x ≠ 10) (h13 : l.getLast? ≠ some 13) : lineL (l ++ 10 :: r) = l ∧ endL (l ++ 10 :: r) = [10] := by
  have h1 := feedI_atQ (r := r) h
  have h2 : fromI (l ++ 10 :: r) = l.length := by
    unfold fromI
    rw [h1]
    rw [if_neg]
    rintro ⟨a, b⟩
    apply h13
    rw [List.getLast?_eq_getElem?]
    rw [List.getD_eq_getElem?_getD, List.getElem?_append_left (by omega), List.getElem?_eq_getElem (by omega)] at b
    rw [List.getElem?_eq_getElem (by omega)]
    simpa using b
  unfold lineL endL
  rw [h2, h1, if_pos (by simp), if_pos (by simp)]
  simp
theorem line_crlf {l r : List UInt8} (h : ∀ x ∈ l, x ≠ 10) : lineL (l ++ 13 :: 10 :: r) = l ∧ endL (l ++ 13 :: 10 :: r) = [13, 10] ∧ restL (l ++ 13 :: 10 :: r) = r := by
  have e : l ++ 13 :: 10 :: r = (l ++ [13]) ++ 10 :: r := by simp
  have hn : ∀ x ∈ l ++ [13], x ≠ (10 : UInt8) := by
    intro x hx
    rcases List.mem_append.1 hx with hx | hx
    · exact h x hx
    · simp at hx; subst hx; decide
  have h1 := feedI_atQ (r := r) hn
  have h2 : fromI ((l ++ [13]) ++ 10 :: r) = l.length := by
    unfold fromI
    rw [h1, if_pos]
    · simp
    · refine ⟨by simp, ?_⟩
      simp
  refine ⟨?_, ?_, ?_⟩
  · unfold lineL
    rw [e, h2, h1, if_pos (by simp)]
    simp
  · unfold endL
    rw [e, h2, h1, if_pos (by simp)]
    simp
    rw [show l.length + 1 + 1 - l.length = 2 by omega]
    rfl
  · rw [e]
    exact restL_at hn

/-- What stands ahead is told, whatever stands behind. -/
def Ahead (pre v : List UInt8) : Prop := ∀ r, decQ (pre ++ r) = (decQ r).map (v ++ ·)
theorem Ahead.nil : Ahead [] [] := fun r => by simp
theorem Ahead.append {p1 p2 v1 v2 : List UInt8} (h1 : Ahead p1 v1) (h2 : Ahead p2 v2) : Ahead (p1 ++ p2) (v1 ++ v2) := fun r => by
  rw [List.append_assoc, h1, h2]
  simp [Function.comp_def]
/-- A line that ends in a line feed: its blanks and its end. -/
theorem ahead_line {p bl : List UInt8} (cr : Bool) (h10 : ∀ x ∈ p, seenB x = true) (hb : ∀ x ∈ bl, isBl x = true) (hn : p.getLast? ≠ some 61) {v : List UInt8} (ht : textSQ p = some v) :
    Ahead (p ++ bl ++ ((if cr then [13] else []) ++ [10])) (v ++ ((if cr then [13] else []) ++ [10])) := by
  have hno : ∀ x ∈ p ++ bl, x ≠ (10 : UInt8) ∧ x ≠ 13 := by
    intro x hx
    rcases List.mem_append.1 hx with hx | hx
    · have := (seenB_iff x).1 (h10 x hx)
      constructor <;> rintro rfl <;> simp at this
    · have := hb x hx
      constructor <;> rintro rfl <;> simp [isBl] at this
  have htr : trimB (p ++ bl) = p := by
    rw [trimB_blanks p _ bl rfl hb]
    apply trimB_keep
    intro x hx
    exact seen_noblank (h10 x (List.mem_of_getLast? hx))
  have hs : softL (p ++ bl) = false := by
    unfold softL
    rw [htr]
    simpa using hn
  have hx : txtL (p ++ bl) = p := by unfold txtL; rw [hs, htr]; rfl
  intro r
  cases cr
  · have hl := line_lf (l := p ++ bl) (r := r) (fun x hx => (hno x hx).1) (fun h => (hno 13 (List.mem_of_getLast? h)).2 rfl)
    have e : p ++ bl ++ ((if false = true then [13] else []) ++ [10]) ++ r = (p ++ bl) ++ 10 :: r := by simp
    rw [e, decQ_some (p := v) (by simp) (by rw [hl.1, hx]; exact ht), restL_at (fun x hx => (hno x hx).1)]
    unfold tailL
    rw [hl.1, hs, hl.2]
    simp
  · have hl := line_crlf (l := p ++ bl) (r := r) (fun x hx => (hno x hx).1)
    have e : p ++ bl ++ ((if true = true then [13] else []) ++ [10]) ++ r = (p ++ bl) ++ 13 :: 10 :: r := by simp
    rw [e, decQ_some (p := v) (by simp) (by rw [hl.1, hx]; exact ht), hl.2.2]
    unfold tailL
    rw [hl.1, hs, hl.2.1]
    simp
/-- A soft line. -/
theorem ahead_soft {p bl : List UInt8} (cr : Bool) (h10 : ∀ x ∈ p, seenB x = true) (hb : ∀ x ∈ bl, isBl x = true) {v : List UInt8} (ht : textSQ p = some v) :
    Ahead (p ++ [61] ++ bl ++ ((if cr then [13] else []) ++ [10])) v := by
  have hno : ∀ x ∈ p ++ [61] ++ bl, x ≠ (10 : UInt8) ∧ x ≠ 13 := by
    intro x hx
    rcases List.mem_append.1 hx with hx | hx
    · rcases List.mem_append.1 hx with hx | hx
      · have := (seenB_iff x).1 (h10 x hx)
        constructor <;> rintro rfl <;> simp at this
      · simp at hx; subst hx; decide
    · have := hb x hx
      constructor <;> rintro rfl <;> simp [isBl] at this
  have htr : trimB (p ++ [61] ++ bl) = p ++ [61] := by
    rw [trimB_blanks (p ++ [61]) _ bl rfl hb]
    apply trimB_keep
    intro x hx
    simp at hx
    subst hx
    rfl
  have hs : softL (p ++ [61] ++ bl) = true := by
    unfold softL
    rw [htr]
    simp
  have hx : txtL (p ++ [61] ++ bl) = p := by unfold txtL; rw [hs, htr]; simp
  intro r
  cases cr
  · have hl := line_lf (l := p ++ [61] ++ bl) (r := r) (fun x hx => (hno x hx).1) (fun h => (hno 13 (List.mem_of_getLast? h)).2 rfl)
    have e : p ++ [61] ++ bl ++ ((if false = true then [13] else []) ++ [10]) ++ r = (p ++ [61] ++ bl) ++ 10 :: r := by simp
    rw [e, decQ_some (p := v) (by simp) (by rw [hl.1, hx]; exact ht), restL_at (fun x hx => (hno x hx).1)]
    unfold tailL
    rw [hl.1, hs]
    simp
  · have hl := line_crlf (l := p ++ [61] ++ bl) (r := r) (fun x hx => (hno x hx).1)
    have e : p ++ [61] ++ bl ++ ((if true = true then [13] else []) ++ [10]) ++ r = (p ++ [61] ++ bl) ++ 13 :: 10 :: r := by simp
    rw [e, decQ_some (p := v) (by simp) (by rw [hl.1, hx]; exact ht), hl.2.2]
    unfold tailL
    rw [hl.1, hs]
    simp
/-- A last line without an end. -/
theorem decQ_last {p : List UInt8} (h0 : p ≠ []) (h10 : ∀ x ∈ p, x ≠ 10) (hl : ∀ x, p.getLast? = some x → isBl x = false ∧ x ≠ 61) : decQ p = textSQ p := by
  have h1 := line_no h10
  have htr : trimB p = p := trimB_keep fun x hx => (hl x hx).1
  have hs : softL p = false := by
    unfold softL
    rw [htr]
    simp only [beq_eq_false_iff_ne]
    intro h
    exact (hl 61 h).2 rfl
  have hx : txtL p = p := by unfold txtL; rw [hs, htr]; rfl
  rw [decQ_step p h0, h1.1, hx, h1.2.2]
  have e : tailL p = [] := by unfold tailL; rw [h1.2.1]; simp
  rw [e, decQ_nil]
  cases textSQ p <;> simp
theorem seen_no10 {x : UInt8} (h : seenB x = true) : x ≠ 10 := by
  have := (seenB_iff x).1 h
  rintro rfl
  simp at this
theorem decQ_encQ (l : List UInt8) : decQ (encQ l) = some l := by
  by_cases h0 : encQ l = []
  · rw [h0]
    rcases l with _ | ⟨c, r⟩
    · rfl
    · have := encB_len c
      rw [encQ_cons] at h0
      have := congrArg List.length h0
      simp at this
      simp [this.1] at *
  · have := textS_encQ l []
    rw [decQ_last h0 (fun x hx => seen_no10 (encQ_seen l x hx)) (fun x hx => ⟨seen_noblank (encQ_seen l x (List.mem_of_getLast? hx)), fun h => encQ_last l (h ▸ hx)⟩)]
    simpa [textSQ] using this
end Go.Proofs.YteallnjbpikhhaaGreatDoor
