/- Layer 18 in plain words: strings as they are put, and tokens as they are read. No program. -/
import Derived.Test.YtkkdplccneeaiaaGreatDoorGbChars9
import Derived.Test.YtkkdplccneeaiaaGreatDoorGbParE
namespace Go.Proofs.YtkkdplccneeaiaaGreatDoor
open Go Go.RowKit

def prB (c : UInt8) : Bool := decide (32 ≤ c.toNat ∧ c.toNat ≤ 126)
def atomW (c : UInt8) : Bool := atomI (c.toNat : Int)
def litT (s : List UInt8) : List UInt8 := (if (0 : UInt8) ∈ s then [126] else []) ++ (123 :: (Lib.itoa (s.length : Int) ++ (125 :: 13 :: 10 :: s)))
/-- A text as a string. -/
def strW (s : List UInt8) : List UInt8 := if s.all prB = true ∧ s.length ≤ 1000 then 34 :: (escL s ++ [34]) else litT s
def isAst (s : List UInt8) : Bool := !s.isEmpty && s.all (fun c => atomW c && c != 91)
def astW (s : List UInt8) : List UInt8 := if isAst s = true then s else strW s
/-- A quoted text behind its first quote: what it says, and what is left. -/
def quoW : List UInt8 → Option (List UInt8 × List UInt8)
  | [] => none
  | [c] => if c = 34 then some ([], []) else none
  | c :: d :: r => if c = 34 then some ([], d :: r) else
    if c = 92 then (if d = 34 ∨ d = 92 then (quoW r).map fun p => (d :: p.1, p.2) else none) else (quoW (d :: r)).map fun p => (c :: p.1, p.2)
/-- A literal's head: its number, whether it waits, and what is left. -/
def headB (s : List UInt8) : Option (Nat × Bool × List UInt8) :=
  match numSpec (s.takeWhile isDig) with
  | none => none
  | some n => match s.dropWhile isDig with
    | 43 :: 125 :: q => some (n, false, q)
    | 125 :: q => some (n, true, q)
    | _ => none
def headW : List UInt8 → Option (Nat × Bool × List UInt8)
  | 126 :: 123 :: r => headB r
  | 123 :: r => headB r
  | _ => none
/-- A literal: its bytes, and what is left. -/
def litW (s : List UInt8) : Option (List UInt8 × List UInt8) :=
  match headW s with
  | some (n, _, 13 :: 10 :: q) => if q.length < n then none else some (q.take n, q.drop n)
  | _ => none
/-- Behind a bracket: what is left behind its end. -/
def brkW : Nat → List UInt8 → Option (List UInt8)
  | 0, _ => none
  | _ + 1, [] => none
  | g + 1, c :: r => if c = 93 then some r else
    if c = 34 then (match quoW r with | none => none | some p => brkW g p.2) else
    if prB c = true then brkW g r else none
def endW (s : List UInt8) : Bool := match s with
  | [] => true
  | c :: _ => decide (c.toNat < 33 ∨ 126 < c.toNat) || c == 40 || c == 41 || c == 34 || (litW s).isSome
/-- A word, behind what was read of it: all of it, and what is left. -/
def wrdW : Nat → List UInt8 → List UInt8 → Option (List UInt8 × List UInt8)
  | 0, _, _ => none
  | g + 1, acc, s => if endW s = true then some (acc, s) else match s with
    | [] => some (acc, s)
    | c :: r => if c = 91 then (match brkW (r.length + 1) r with | none => none | some q => wrdW g (acc ++ c :: r.take (r.length - q.length)) q) else wrdW g (acc ++ [c]) r
/-- The first token: its kind, its text, and what is left. -/
def tokW (s : List UInt8) : Option (Nat × List UInt8 × List UInt8) :=
  match litW s with
  | some p => some (2, p.1, p.2)
  | none => match s with
    | [] => none
    | c :: r => if c = 40 then some (3, [], r) else if c = 41 then some (4, [], r) else if c = 32 then some (5, [], r) else
      if c = 34 then (quoW r).map fun p => (2, p.1, p.2) else
      match wrdW (s.length + 1) [] s with
      | none => none
      | some p => if p.1 = [] then none else some (1, p.1, p.2)
def toksW : Nat → List UInt8 → Option (List (Nat × List UInt8))
  | 0, _ => none
  | _ + 1, [] => some []
  | g + 1, c :: r => match tokW (c :: r) with
    | none => none
    | some (k, t, q) => (toksW g q).map fun ts => (k, t) :: ts
theorem quoW_esc (t : List UInt8) : ∀ s : List UInt8, quoW (escL s ++ 34 :: t) = some (s, t)
  | [] => by
    show quoW (34 :: t) = _
    cases t with
    | nil => rfl
    | cons d r => unfold quoW; rw [if_pos rfl]
  | c :: s => by
    have ih := quoW_esc t s
    have he : escL (c :: s) = escB c ++ escL s := by unfold escL; rfl
    rw [he]
    unfold escB hitB
    by_cases h : c = 34 ∨ c = 92
    · rw [if_pos (by rcases h with rfl | rfl <;> decide)]
      show quoW (92 :: c :: (escL s ++ 34 :: t)) = _
      unfold quoW
      rw [if_neg (by decide), if_pos rfl, if_pos h, ih]
      rfl
    · rw [if_neg (by
        rw [Bool.or_eq_true, beq_iff_eq, beq_iff_eq]
        exact h)]
      show quoW (c :: (escL s ++ 34 :: t)) = _
      obtain ⟨d, r, hd⟩ : ∃ d r, escL s ++ 34 :: t = d :: r := by
        cases hs : escL s with
        | nil => exact ⟨34, t, rfl⟩
        | cons d r => exact ⟨d, r ++ 34 :: t, rfl⟩
      rw [hd] at ih ⊢
      unfold quoW
      rw [if_neg (fun e => h (.inl e)), if_neg (fun e => h (.inr e)), ih]
      rfl
theorem itoa_digits (n : Nat) (h : n ≤ 4294967295) (q : List UInt8) : (Lib.itoa (n : Int) ++ 125 :: q).takeWhile isDig = Lib.itoa (n : Int) ∧ (Lib.itoa (n : Int) ++ 125 :: q).dropWhile isDig = 125 :: q := by
  have hd : (Lib.itoa (n : Int)).all isDig = true := by
    have := decDigits_all n
    unfold Lib.itoa
    rw [if_neg (by omega)]
    simpa using this
  have h0 : isDig 125 = false := by decide
  constructor
  · rw [List.takeWhile_append_of_pos (fun x hx => List.all_eq_true.1 hd x hx), List.takeWhile_cons_of_neg (by rw [h0]; decide), List.append_nil]
  · rw [List.dropWhile_append_of_pos (fun x hx => List.all_eq_true.1 hd x hx), List.dropWhile_cons_of_neg (by rw [h0]; decide)]
theorem headB_itoa (n : Nat) (h : n ≤ 4294967295) (q : List UInt8) : headB (Lib.itoa (n : Int) ++ 125 :: q) = some (n, true, q) := by
  unfold headB
  rw [(itoa_digits n h q).1, (itoa_digits n h q).2, numSpec_itoa_good (n : Int) (by omega) (by omega)]
  simp
theorem litW_lit (s q : List UInt8) (h : s.length ≤ 4294967295) : litW (litT s ++ q) = some (s, q) := by
  have hh : headW (litT s ++ q) = some (s.length, true, 13 :: 10 :: (s ++ q)) := by
    have e := headB_itoa s.length h (13 :: 10 :: (s ++ q))
    unfold litT
    by_cases h0 : (0 : UInt8) ∈ s
    · rw [if_pos h0]
      show headW (126 :: 123 :: ((Lib.itoa (s.length : Int) ++ (125 :: 13 :: 10 :: s)) ++ q)) = _
      rw [List.append_assoc]
      exact e
    · rw [if_neg h0]
      show headW (123 :: ((Lib.itoa (s.length : Int) ++ (125 :: 13 :: 10 :: s)) ++ q)) = _
      rw [List.append_assoc]
      exact e
  unfold litW
  rw [hh]
  show (if (s ++ q).length < s.length then none else some ((s ++ q).take s.length, (s ++ q).drop s.length)) = _
  rw [if_neg (by rw [List.length_append]; omega), List.take_left, List.drop_left]
theorem litW_not {c : UInt8} {r : List UInt8} (h1 : c ≠ 126) (h2 : c ≠ 123) : litW (c :: r) = none := by
  have hh : headW (c :: r) = none := by
    unfold headW
    split
    · next e => cases e; exact absurd rfl h1
    · next e => cases e; exact absurd rfl h2
    · rfl
  unfold litW
  rw [hh]
theorem litW_tilde {d : UInt8} {r : List UInt8} (h : d ≠ 123) : litW (126 :: d :: r) = none := by
  have hh : headW (126 :: d :: r) = none := by
    unfold headW
    split
    · next e => cases e; exact absurd rfl h
    · next e => cases e
    · rfl
  unfold litW
  rw [hh]
theorem litW_tilde1 : litW [126] = none := rfl
theorem litW_nil : litW [] = none := rfl
/-- A string is a token that says its text. -/
theorem tok_str (s q : List UInt8) (h : s.length ≤ 4294967295) : tokW (strW s ++ q) = some (2, s, q) := by
  unfold strW
  split
  · show tokW (34 :: ((escL s ++ [34]) ++ q)) = _
    rw [List.append_assoc]
    unfold tokW
    rw [litW_not (by decide) (by decide)]
    simp only
    rw [if_neg (by decide), if_neg (by decide), if_neg (by decide), if_pos (by decide)]
    show (quoW (escL s ++ 34 :: q)).map _ = _
    rw [quoW_esc]
    rfl
  · unfold tokW
    rw [litW_lit s q h]
theorem atom_bytes {c : UInt8} (h : atomW c = true) : 33 ≤ c.toNat ∧ c.toNat ≤ 126 ∧ c ≠ 40 ∧ c ≠ 41 ∧ c ≠ 34 ∧ c ≠ 123 ∧ c ≠ 32 := by
  unfold atomW atomI at h
  rw [Bool.and_eq_true, decide_eq_true_iff] at h
  have h1 : 33 ≤ c.toNat := by omega
  have h2 : c.toNat ≤ 126 := by omega
  refine ⟨h1, h2, ?_, ?_, ?_, ?_, ?_⟩
  · rintro rfl; exact absurd h.2 (by decide)
  · rintro rfl; exact absurd h.2 (by decide)
  · rintro rfl; exact absurd h.2 (by decide)
  · rintro rfl; exact absurd h.2 (by decide)
  · rintro rfl; exact absurd h1 (by decide)
/-- What may stand behind a word. -/
def endsB (q : List UInt8) : Bool := match q with
  | [] => true
  | c :: _ => c == 32 || c == 41
theorem endsB_ends {q : List UInt8} (h : endsB q = true) : endW q = true := by
  cases q with
  | nil => rfl
  | cons c r =>
    unfold endsB at h
    unfold endW
    simp only [Bool.or_eq_true, beq_iff_eq] at h
    rcases h with rfl | rfl
    · rfl
    · rfl
theorem ends_head {q : List UInt8} (h : endsB q = true) : ∀ c r, q = c :: r → c ≠ 123 := by
  rintro c r rfl
  unfold endsB at h
  simp only [Bool.or_eq_true, beq_iff_eq] at h
  rcases h with rfl | rfl <;> decide
theorem litW_word {c : UInt8} {r : List UInt8} (h : c ≠ 123) (hr : ∀ d t, r = d :: t → d ≠ 123) : litW (c :: r) = none := by
  by_cases h1 : c = 126
  · subst h1
    cases r with
    | nil => rfl
    | cons d t => exact litW_tilde (hr d t rfl)
  · exact litW_not h1 h
theorem wrd_atom (q : List UInt8) (hq : endsB q = true) : ∀ (s acc : List UInt8) (g : Nat), s.length < g → s.all (fun c => atomW c && c != 91) = true → wrdW g acc (s ++ q) = some (acc ++ s, q)
  | [], acc, 0, h, _ => by omega
  | [], acc, g + 1, _, _ => by
    unfold wrdW
    rw [List.nil_append, if_pos (endsB_ends hq), List.append_nil]
  | c :: s, acc, 0, h, _ => by omega
  | c :: s, acc, g + 1, h, ha => by
    rw [List.all_cons, Bool.and_eq_true, Bool.and_eq_true] at ha
    obtain ⟨⟨h1, h2⟩, h3⟩ := ha
    obtain ⟨b1, b2, b3, b4, b5, b6, _⟩ := atom_bytes h1
    have h91 : ¬ c = 91 := by simpa using h2
    have hn : ∀ d t, s ++ q = d :: t → d ≠ 123 := by
      intro d t e
      cases s with
      | nil => exact ends_head hq d t e
      | cons x y =>
        cases e
        rw [List.all_cons, Bool.and_eq_true, Bool.and_eq_true] at h3
        exact (atom_bytes h3.1.1).2.2.2.2.2.1
    have he : endW (c :: (s ++ q)) = false := by
      unfold endW
      simp only [Bool.or_eq_false_iff, decide_eq_false_iff_not, beq_eq_false_iff_ne]
      refine ⟨⟨⟨⟨by omega, b3⟩, b4⟩, b5⟩, ?_⟩
      rw [litW_word b6 hn]
      rfl
    show wrdW (g + 1) acc (c :: (s ++ q)) = _
    unfold wrdW
    rw [if_neg (by rw [he]; decide)]
    simp only
    rw [if_neg h91, wrd_atom q hq s (acc ++ [c]) g (by simpa using h) h3, List.append_assoc]
    rfl
/-- A word is a token that says its text. -/
theorem tok_atom {s q : List UInt8} (h : isAst s = true) (hq : endsB q = true) : tokW (s ++ q) = some (1, s, q) := by
  unfold isAst at h
  rw [Bool.and_eq_true] at h
  cases s with
  | nil => exact absurd h.1 (by decide)
  | cons c r =>
    have h2 := h.2
    have h3 := h2
    rw [List.all_cons, Bool.and_eq_true, Bool.and_eq_true] at h3
    obtain ⟨b1, b2, b3, b4, b5, b6, b7⟩ := atom_bytes h3.1.1
    have hn : ∀ d t, r ++ q = d :: t → d ≠ 123 := by
      intro d t e
      cases r with
      | nil => exact ends_head hq d t e
      | cons x y =>
        cases e
        have h4 := h3.2
        rw [List.all_cons, Bool.and_eq_true, Bool.and_eq_true] at h4
        exact (atom_bytes h4.1.1).2.2.2.2.2.1
    unfold tokW
    rw [show c :: r ++ q = c :: (r ++ q) from rfl, litW_word b6 hn]
    simp only
    rw [if_neg b3, if_neg b4, if_neg b7, if_neg b5]
    have := wrd_atom q hq (c :: r) [] ((c :: (r ++ q)).length + 1) (by simp; omega) h2
    rw [show c :: r ++ q = c :: (r ++ q) from rfl] at this
    rw [this]
    simp
/-- A text as a word or a string is a token that says it. -/
theorem tok_ast (s : List UInt8) {q : List UInt8} (h : s.length ≤ 4294967295) (hq : endsB q = true) : tokW (astW s ++ q) = some (if isAst s = true then 1 else 2, s, q) := by
  unfold astW
  by_cases ha : isAst s = true
  · rw [if_pos ha, if_pos ha]
    exact tok_atom ha hq
  · rw [if_neg ha, if_neg ha]
    exact tok_str s q h
theorem tok_open (q : List UInt8) : tokW (40 :: q) = some (3, [], q) := by
  unfold tokW
  rw [litW_not (by decide) (by decide)]
  simp only
  rw [if_pos (by decide)]
theorem tok_close (q : List UInt8) : tokW (41 :: q) = some (4, [], q) := by
  unfold tokW
  rw [litW_not (by decide) (by decide)]
  simp only
  rw [if_neg (by decide), if_pos (by decide)]
theorem tok_space (q : List UInt8) : tokW (32 :: q) = some (5, [], q) := by
  unfold tokW
  rw [litW_not (by decide) (by decide)]
  simp only
  rw [if_neg (by decide), if_neg (by decide), if_pos (by decide)]
theorem strW_ne (s : List UInt8) : strW s ≠ [] := by
  unfold strW litT
  split
  · simp
  · split <;> simp
theorem astW_ne (s : List UInt8) : astW s ≠ [] := by
  unfold astW
  split
  · next h =>
    intro e
    rw [e] at h
    exact absurd h (by decide)
  · exact strW_ne s
theorem toks_step {s q t : List UInt8} {k g : Nat} (h : tokW s = some (k, t, q)) : toksW (g + 1) s = (toksW g q).map fun ts => (k, t) :: ts := by
  cases s with
  | nil => exact absurd h (by unfold tokW; rw [litW_nil]; simp)
  | cons c r =>
    conv => lhs; unfold toksW
    rw [h]
theorem toks_nil (g : Nat) : toksW (g + 1) [] = some [] := rfl
/-- One text as a string. -/
theorem toks_str (s : List UInt8) (h : s.length ≤ 4294967295) (g : Nat) : toksW (g + 2) (strW s) = some [(2, s)] := by
  have := tok_str s [] h
  rw [List.append_nil] at this
  rw [toks_step this, toks_nil]
  rfl
/-- One text, and a word behind it. -/
theorem toks_ast (s : List UInt8) (h : s.length ≤ 4294967295) (g : Nat) : toksW (g + 4) (astW s ++ [32, 120]) = some [(if isAst s = true then 1 else 2, s), (5, []), (1, [120])] := by
  have h1 := tok_ast s (q := [32, 120]) h rfl
  have h3 : tokW [120] = some (1, [120], []) := tok_atom (s := [120]) (q := []) (by decide) rfl
  rw [toks_step h1, toks_step (tok_space [120]), toks_step h3, toks_nil]
  rfl
end Go.Proofs.YtkkdplccneeaiaaGreatDoor
