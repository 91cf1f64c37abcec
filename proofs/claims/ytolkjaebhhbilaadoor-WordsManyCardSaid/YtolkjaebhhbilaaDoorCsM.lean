/- Texts of charsets, plain. -/
import Derived.Test.YtolkjaebhhbilaaDoorKit2
import Derived.Test.YtolkjaebhhbilaaDoorCharsM
import Derived.Lib.MapLaws
import Derived.Lib.ValidAsc
import Derived.Lib.RuneBytes
namespace Go.Proofs.YtolkjaebhhbilaaDoor
open Go Go.RowKit

/-! ### Which charset a name is -/
def nmA1 : List UInt8 := [117, 115, 45, 97, 115, 99, 105, 105]
def nmA2 : List UInt8 := [97, 115, 99, 105, 105]
def nmL1 : List UInt8 := [105, 115, 111, 45, 56, 56, 53, 57, 45, 49]
def nmL2 : List UInt8 := [108, 97, 116, 105, 110, 49]
def nmU1 : List UInt8 := [117, 116, 102, 45, 56]
def nmU2 : List UInt8 := [117, 116, 102, 56]
def kindF (f : List UInt8) : Nat := if f = nmA1 ∨ f = nmA2 then 1 else if f = nmL1 ∨ f = nmL2 then 2 else if f = nmU1 ∨ f = nmU2 then 3 else 0
def kindL (l : List UInt8) : Nat := kindF (foldS l)
theorem kindF_lt (f : List UInt8) : kindF f < 4 := by
  unfold kindF
  repeat' split
  all_goals decide

/-! ### Texts and bytes -/
def enc8 (c : UInt8) : List UInt8 := if c.toNat < 128 then [c] else [byteN (192 + c.toNat / 64), byteN (128 + c.toNat % 64)]
def mostN (k : Nat) : Nat := if k = 1 then 127 else 255
theorem mostN_le (k : Nat) : mostN k ≤ 255 := by unfold mostN; split <;> decide
def textM (m : Nat) (l : List UInt8) : Option (List UInt8) := if l.all (fun c => decide (c.toNat ≤ m)) then some (l.flatMap enc8) else none
def textK (k : Nat) (l : List UInt8) : Option (List UInt8) := if k = 0 then none else if k = 3 then (if Lib.validD l then some l else none) else textM (mostN k) l
def singF (m : Nat) : Nat → List UInt8 → Option (List UInt8)
  | 0, l => if l = [] then some [] else none
  | f + 1, l => if l = [] then some [] else if m < (Lib.decodeL l).1 then none else (singF m f (l.drop (Lib.decodeL l).2)).map (fun r => byteN (Lib.decodeL l).1 :: r)
def singM (m : Nat) (l : List UInt8) : Option (List UInt8) := singF m l.length l
def bytesK (k : Nat) (l : List UInt8) : Option (List UInt8) := if k = 0 then none else if k = 3 then (if Lib.validD l then some l else none) else singM (mostN k) l

theorem singF_nil (m f : Nat) : singF m f [] = some [] := by cases f <;> rfl
theorem singF_same (m : Nat) : ∀ (f g : Nat) (l : List UInt8), l.length ≤ f → l.length ≤ g → singF m f l = singF m g l := by
  intro f
  induction f with
  | zero =>
    intro g l h _
    rw [List.eq_nil_of_length_eq_zero (Nat.le_zero.1 h), singF_nil, singF_nil]
  | succ f ih =>
    intro g l h h'
    cases g with
    | zero => rw [List.eq_nil_of_length_eq_zero (Nat.le_zero.1 h'), singF_nil, singF_nil]
    | succ g =>
      by_cases hn : l = []
      · subst hn; rw [singF_nil, singF_nil]
      · have hw := Lib.decodeL_width l
        have hl : 0 < l.length := List.length_pos_iff.2 hn
        show (if l = [] then some [] else if m < (Lib.decodeL l).1 then none else (singF m f (l.drop (Lib.decodeL l).2)).map (fun r => byteN (Lib.decodeL l).1 :: r)) = (if l = [] then some [] else if m < (Lib.decodeL l).1 then none else (singF m g (l.drop (Lib.decodeL l).2)).map (fun r => byteN (Lib.decodeL l).1 :: r))
        rw [ih g (l.drop (Lib.decodeL l).2) (by rw [List.length_drop]; omega) (by rw [List.length_drop]; omega)]
theorem singM_nil (m : Nat) : singM m [] = some [] := rfl
theorem singM_step (m : Nat) {l : List UInt8} (hn : l ≠ []) : singM m l = if m < (Lib.decodeL l).1 then none else (singM m (l.drop (Lib.decodeL l).2)).map (fun r => byteN (Lib.decodeL l).1 :: r) := by
  have hw := Lib.decodeL_width l
  have hl : 0 < l.length := List.length_pos_iff.2 hn
  obtain ⟨n, hn'⟩ : ∃ n, l.length = n + 1 := ⟨l.length - 1, by omega⟩
  unfold singM
  rw [hn']
  show (if l = [] then some [] else if m < (Lib.decodeL l).1 then none else (singF m n (l.drop (Lib.decodeL l).2)).map (fun r => byteN (Lib.decodeL l).1 :: r)) = _
  rw [if_neg hn, singF_same m n (l.drop (Lib.decodeL l).2).length _ (by rw [List.length_drop]; omega) (Nat.le_refl _)]

/-! ### A byte's two -/
theorem dec_enc8 (c : UInt8) (t : List UInt8) : Lib.decodeL (enc8 c ++ t) = (c.toNat, (enc8 c).length) := by
  have hc := c.toNat_lt
  unfold enc8
  split
  · next h =>
    rw [List.singleton_append, Lib.decodeL_ascii c t h]
    rfl
  · next h =>
    have e1 := byteN_toNat (192 + c.toNat / 64) (by omega)
    have e2 := byteN_toNat (128 + c.toNat % 64) (by omega)
    rw [Lib.decodeL_N]
    simp only [List.cons_append, List.nil_append, List.length_cons, List.length_nil, List.getD_cons_zero, List.getD_cons_succ, e1, e2]
    unfold Lib.decodeN
    rw [if_neg (by omega), if_pos ⟨by omega, by omega, by omega⟩, if_pos (by omega)]
    congr 1
    omega
theorem enc8_len (c : UInt8) : 1 ≤ (enc8 c).length ∧ (enc8 c).length ≤ 2 := by unfold enc8; split <;> simp
theorem enc8_ne (c : UInt8) (t : List UInt8) : enc8 c ++ t ≠ [] := by
  have h1 : enc8 c ≠ [] := List.length_pos_iff.1 (enc8_len c).1
  intro e
  exact h1 (List.append_eq_nil_iff.1 e).1
theorem byteN_self (c : UInt8) : byteN c.toNat = c := UInt8.ofNat_toNat
theorem toU8 {z : Int} {n : Nat} (h : z = (n : Int)) : z.toNat.toUInt8 = byteN n := by subst h; rfl
theorem enc8_rune (n : Nat) (h : n < 256) : enc8 (byteN n) = Lib.encodeRune (n : Int) := by
  unfold enc8 Lib.encodeRune
  rw [byteN_toNat n h]
  split
  · next h1 =>
    rw [Lib.encodeRuneZ_one (by omega) (by omega)]
    simp only [List.map_cons, List.map_nil]
    rw [toU8 rfl]
  · next h1 =>
    rw [Lib.encodeRuneZ_two (by omega) (by omega)]
    simp only [List.map_cons, List.map_nil]
    rw [toU8 (n := 192 + n / 64) (by omega), toU8 (n := 128 + n % 64) (by omega)]

/-! ### There and back -/
theorem sing_text (m : Nat) : ∀ (l t : List UInt8), textM m l = some t → singM m t = some l := by
  intro l
  induction l with
  | nil =>
    intro t h
    unfold textM at h
    simp at h
    subst h
    rfl
  | cons c l ih =>
    intro t h
    unfold textM at h
    split at h
    · next ha =>
      rw [List.all_cons, Bool.and_eq_true] at ha
      have hc : c.toNat ≤ m := of_decide_eq_true ha.1
      have h2 : textM m l = some (l.flatMap enc8) := by unfold textM; rw [if_pos ha.2]
      have h3 := ih _ h2
      have ht : t = enc8 c ++ l.flatMap enc8 := by have := Option.some.inj h; rw [← this]; rfl
      rw [ht, singM_step m (enc8_ne c _), dec_enc8]
      simp only
      rw [if_neg (by omega), List.drop_left, h3, byteN_self]
      rfl
    · cases h
theorem dec_short {l : List UInt8} (hn : l ≠ []) (h : (Lib.decodeL l).1 ≤ 255) : enc8 (byteN (Lib.decodeL l).1) = l.take (Lib.decodeL l).2 := by
  rw [enc8_rune _ (by omega)]
  exact Lib.encode_decode l hn (fun e => by omega)
theorem text_sing (m : Nat) (hm : m ≤ 255) : ∀ (n : Nat) (l t : List UInt8), l.length ≤ n → singM m l = some t → textM m t = some l := by
  intro n
  induction n with
  | zero =>
    intro l t hl h
    obtain rfl := List.eq_nil_of_length_eq_zero (Nat.le_zero.1 hl)
    rw [singM_nil] at h
    cases h
    rfl
  | succ n ih =>
    intro l t hl h
    by_cases hn : l = []
    · subst hn
      rw [singM_nil] at h
      cases h
      rfl
    · rw [singM_step m hn] at h
      split at h
      · cases h
      · next hd =>
        have hw := Lib.decodeL_width l
        have hpos : 0 < l.length := List.length_pos_iff.2 hn
        cases hs : singM m (l.drop (Lib.decodeL l).2) with
        | none => rw [hs] at h; cases h
        | some r =>
          rw [hs] at h
          have ht : t = byteN (Lib.decodeL l).1 :: r := (Option.some.inj h).symm
          have h2 := ih _ r (by rw [List.length_drop]; omega) hs
          unfold textM at h2 ⊢
          split at h2
          · next ha =>
            have hb := byteN_toNat (Lib.decodeL l).1 (by omega)
            rw [ht, List.all_cons, if_pos (by rw [Bool.and_eq_true]; exact ⟨decide_eq_true (by rw [hb]; omega), ha⟩), List.flatMap_cons, Option.some.inj h2, dec_short hn (by omega), List.take_append_drop]
          · cases h2
theorem sing_valid (m : Nat) (hm : m ≤ 255) : ∀ (n : Nat) (l t : List UInt8), l.length ≤ n → singM m l = some t → Lib.validD l = true := by
  intro n
  induction n with
  | zero =>
    intro l t hl h
    obtain rfl := List.eq_nil_of_length_eq_zero (Nat.le_zero.1 hl)
    rfl
  | succ n ih =>
    intro l t hl h
    by_cases hn : l = []
    · subst hn; rfl
    · rw [singM_step m hn] at h
      split at h
      · cases h
      · next hd =>
        have hw := Lib.decodeL_width l
        have hpos : 0 < l.length := List.length_pos_iff.2 hn
        cases hs : singM m (l.drop (Lib.decodeL l).2) with
        | none => rw [hs] at h; cases h
        | some r =>
          rw [Lib.validD_step l hn, if_neg (fun e => by omega)]
          exact ih _ r (by rw [List.length_drop]; omega) hs
theorem back1 {k : Nat} {l t : List UInt8} (h : textK k l = some t) : bytesK k t = some l := by
  unfold textK at h
  unfold bytesK
  split at h
  · cases h
  · next h0 =>
    rw [if_neg h0]
    split at h
    · next h3 =>
      rw [if_pos h3]
      split at h
      · next hv => cases h; rw [if_pos hv]
      · cases h
    · next h3 =>
      rw [if_neg h3]
      exact sing_text _ _ _ h
theorem back2 {k : Nat} {l t : List UInt8} (h : bytesK k l = some t) : textK k t = some l := by
  unfold bytesK at h
  unfold textK
  split at h
  · cases h
  · next h0 =>
    rw [if_neg h0]
    split at h
    · next h3 =>
      rw [if_pos h3]
      split at h
      · next hv => cases h; rw [if_pos hv]
      · cases h
    · next h3 =>
      rw [if_neg h3]
      exact text_sing _ (mostN_le k) _ _ _ (Nat.le_refl _) h

/-! ### Two rows -/
theorem getD_app {a b : List UInt8} {i : Nat} (h : i < a.length) : (a ++ b).getD i 0 = a.getD i 0 := by
  rw [List.getD_eq_getElem?_getD, List.getD_eq_getElem?_getD, List.getElem?_append_left h]
theorem dec_app {a b : List UInt8} (hn : a ≠ []) (hv : ¬ ((Lib.decodeL a).1 = 65533 ∧ (Lib.decodeL a).2 = 1)) : Lib.decodeL (a ++ b) = Lib.decodeL a := by
  have hl : 0 < a.length := List.length_pos_iff.2 hn
  rw [Lib.decodeL_N] at hv
  rw [Lib.decodeL_N, Lib.decodeL_N]
  have hla : a.length ≤ (a ++ b).length := by rw [List.length_append]; omega
  have g0 : (a ++ b).getD 0 0 = a.getD 0 0 := getD_app hl
  rw [g0]
  rcases Lib.decodeN_shape a.length (a.getD 0 0).toNat (a.getD 1 0).toNat (a.getD 2 0).toNat (a.getD 3 0).toNat with ⟨c, e⟩ | ⟨c1, c2, c3, cv, e⟩ | ⟨c1, c2, c3, c4, cv, cs, e⟩ | ⟨c1, c2, c3, c4, c5, cv, cw, e⟩ | e
  · rw [e]
    unfold Lib.decodeN
    rw [if_pos c]
  · have g1 : (a ++ b).getD 1 0 = a.getD 1 0 := getD_app c2
    rw [e, g1]
    unfold Lib.decodeN
    rw [if_neg (by omega), if_pos ⟨c1, by omega, c3⟩, if_pos cv]
  · have g1 : (a ++ b).getD 1 0 = a.getD 1 0 := getD_app (by omega)
    have g2 : (a ++ b).getD 2 0 = a.getD 2 0 := getD_app c2
    rw [e, g1, g2]
    unfold Lib.decodeN
    rw [if_neg (by omega), if_neg (by omega), if_pos ⟨c1, ⟨by omega, c3⟩, ⟨by omega, c4⟩⟩, if_pos ⟨cv, by omega⟩]
  · have g1 : (a ++ b).getD 1 0 = a.getD 1 0 := getD_app (by omega)
    have g2 : (a ++ b).getD 2 0 = a.getD 2 0 := getD_app (by omega)
    have g3 : (a ++ b).getD 3 0 = a.getD 3 0 := getD_app c2
    rw [e, g1, g2, g3]
    unfold Lib.decodeN
    rw [if_neg (by omega), if_neg (by omega), if_neg (by omega), if_pos ⟨c1, ⟨by omega, c3⟩, ⟨by omega, c4⟩, ⟨by omega, c5⟩⟩, if_pos ⟨cv, by omega⟩]
  · rw [e] at hv
    exact absurd ⟨rfl, rfl⟩ hv
theorem valid_app : ∀ (n : Nat) (a b : List UInt8), a.length ≤ n → Lib.validD a = true → Lib.validD b = true → Lib.validD (a ++ b) = true := by
  intro n
  induction n with
  | zero =>
    intro a b hl _ hb
    obtain rfl := List.eq_nil_of_length_eq_zero (Nat.le_zero.1 hl)
    exact hb
  | succ n ih =>
    intro a b hl ha hb
    by_cases hn : a = []
    · subst hn; exact hb
    · have hpos : 0 < a.length := List.length_pos_iff.2 hn
      have hw := Lib.decodeL_width a
      have hle := Lib.decodeL_le a hn
      rw [Lib.validD_step a hn] at ha
      split at ha
      · cases ha
      · next hv =>
        have hn2 : a ++ b ≠ [] := by simp [hn]
        rw [Lib.validD_step _ hn2, dec_app hn hv, if_neg hv, List.drop_append_of_le_length hle]
        exact ih _ _ (by rw [List.length_drop]; omega) ha hb
theorem text_app {k : Nat} {a b x y : List UInt8} (h1 : textK k a = some x) (h2 : textK k b = some y) : textK k (a ++ b) = some (x ++ y) := by
  unfold textK at h1 h2 ⊢
  by_cases h0 : k = 0
  · rw [if_pos h0] at h1; cases h1
  · rw [if_neg h0] at h1 h2 ⊢
    by_cases h3 : k = 3
    · rw [if_pos h3] at h1 h2 ⊢
      split at h1
      · next va =>
        split at h2
        · next vb =>
          cases h1; cases h2
          rw [if_pos (valid_app _ _ _ (Nat.le_refl _) va vb)]
        · cases h2
      · cases h1
    · rw [if_neg h3] at h1 h2 ⊢
      unfold textM at h1 h2 ⊢
      split at h1
      · next va =>
        split at h2
        · next vb =>
          cases h1; cases h2
          rw [if_pos (by rw [List.all_append, va, vb]; rfl), List.flatMap_append]
        · cases h2
      · cases h1

/-! ### A character -/
def isChr (r : Nat) : Prop := r < 55296 ∨ (57343 < r ∧ r ≤ 1114111)
theorem dec_rune (r : Nat) (h : isChr r) : Lib.decodeL (Lib.encodeRune (r : Int)) = (r, (Lib.encodeRune (r : Int)).length) := by
  unfold isChr at h
  unfold Lib.encodeRune
  rw [Lib.decodeL_N]
  by_cases h1 : r < 128
  · rw [Lib.encodeRuneZ_one (by omega) (by omega)]
    simp only [List.map_cons, List.map_nil]
    rw [toU8 (n := r) rfl]
    have e0 := byteN_toNat r (by omega)
    simp only [List.length_cons, List.length_nil, List.getD_cons_zero, e0]
    unfold Lib.decodeN
    rw [if_pos h1]
  · by_cases h2 : r < 2048
    · rw [Lib.encodeRuneZ_two (by omega) (by omega)]
      simp only [List.map_cons, List.map_nil]
      rw [toU8 (n := 192 + r / 64) (by omega), toU8 (n := 128 + r % 64) (by omega)]
      have e0 := byteN_toNat (192 + r / 64) (by omega)
      have e1 := byteN_toNat (128 + r % 64) (by omega)
      simp only [List.length_cons, List.length_nil, List.getD_cons_zero, List.getD_cons_succ, e0, e1]
      unfold Lib.decodeN
      rw [if_neg (by omega), if_pos ⟨by omega, by omega, by omega⟩, if_pos (by omega)]
      congr 1
      omega
    · by_cases h3 : r < 65536
      · rw [Lib.encodeRuneZ_three (by omega)]
        simp only [List.map_cons, List.map_nil]
        rw [toU8 (n := 224 + r / 4096) (by omega), toU8 (n := 128 + r / 64 % 64) (by omega), toU8 (n := 128 + r % 64) (by omega)]
        have e0 := byteN_toNat (224 + r / 4096) (by omega)
        have e1 := byteN_toNat (128 + r / 64 % 64) (by omega)
        have e2 := byteN_toNat (128 + r % 64) (by omega)
        simp only [List.length_cons, List.length_nil, List.getD_cons_zero, List.getD_cons_succ, e0, e1, e2]
        unfold Lib.decodeN
        rw [if_neg (by omega), if_neg (by omega), if_pos ⟨by omega, ⟨by omega, by omega⟩, ⟨by omega, by omega⟩⟩, if_pos ⟨by omega, by omega⟩]
        congr 1
        omega
      · rw [Lib.encodeRuneZ_four (by omega) (by omega)]
        simp only [List.map_cons, List.map_nil]
        rw [toU8 (n := 240 + r / 262144) (by omega), toU8 (n := 128 + r / 4096 % 64) (by omega), toU8 (n := 128 + r / 64 % 64) (by omega), toU8 (n := 128 + r % 64) (by omega)]
        have e0 := byteN_toNat (240 + r / 262144) (by omega)
        have e1 := byteN_toNat (128 + r / 4096 % 64) (by omega)
        have e2 := byteN_toNat (128 + r / 64 % 64) (by omega)
        have e3 := byteN_toNat (128 + r % 64) (by omega)
        simp only [List.length_cons, List.length_nil, List.getD_cons_zero, List.getD_cons_succ, e0, e1, e2, e3]
        unfold Lib.decodeN
        rw [if_neg (by omega), if_neg (by omega), if_neg (by omega), if_pos ⟨by omega, ⟨by omega, by omega⟩, ⟨by omega, by omega⟩, ⟨by omega, by omega⟩⟩, if_pos ⟨by omega, by omega⟩]
        congr 1
        omega
theorem rune_ne (r : Int) : Lib.encodeRune r ≠ [] := by
  have := (Lib.encodeRuneZ_length r).1
  intro e
  have e := congrArg List.length e
  unfold Lib.encodeRune at e
  simp at e
  rw [e] at this
  simp at this
theorem rune_valid (r : Nat) (h : isChr r) : Lib.validD (Lib.encodeRune (r : Int)) = true := by
  have h1 := dec_rune r h
  have hl : 1 ≤ (Lib.encodeRune (r : Int)).length := List.length_pos_iff.2 (rune_ne _)
  rw [Lib.validD_step _ (rune_ne _), h1]
  simp only
  rw [if_neg (fun e => by
    have e1 : r = 65533 := e.1
    subst e1
    exact absurd e.2 (by decide)), List.drop_length]
  rfl
theorem rune_sing (r : Nat) (h : isChr r) : singM 255 (Lib.encodeRune (r : Int)) = if r < 256 then some [byteN r] else none := by
  rw [singM_step _ (rune_ne _), dec_rune r h]
  simp only
  by_cases h1 : r < 256
  · rw [if_neg (by omega), if_pos h1, List.drop_length, singM_nil]
    rfl
  · rw [if_pos (by omega), if_neg h1]
end Go.Proofs.YtolkjaebhhbilaaDoor
