/- Layer 18 in plain words: strings as they are put, and tokens as they are read. No program. -/
import Derived.Test.YtkmgflnmffdhjaaGreatDoorGbChars9
import Derived.Test.YtkmgflnmffdhjaaGreatDoorGbParE
import Derived.Lib.Join
namespace Go.Proofs.YtkmgflnmffdhjaaGreatDoor
open Go Go.RowKit

def prB (c : UInt8) : Bool := decide (32 ≤ c.toNat ∧ c.toNat ≤ 126)
def atomW (c : UInt8) : Bool := atomI (c.toNat : Int)
def litT (s : List UInt8) : List UInt8 := (if (0 : UInt8) ∈ s then [126] else []) ++ (123 :: (Lib.itoa (s.length : Int) ++ (125 :: 13 :: 10 :: s)))
/-- A text as a string. -/
def strW (s : List UInt8) : List UInt8 := if s.all prB = true ∧ s.length ≤ 1000 then 34 :: (escL s ++ [34]) else litT s
def isAst (s : List UInt8) : Bool := !s.isEmpty && s.all (fun c => atomW c && c != 91)
/-- A quoted text behind its first quote: what it says, and what is left. -/
def quoW : List UInt8 → Option (List UInt8 × List UInt8)
  | [] => none
  | [c] => if c = 34 then some ([], []) else none
  | c :: d :: r => if c = 34 then some ([], d :: r) else
    if c = 92 then (if d = 34 ∨ d = 92 then (quoW r).map fun p => (d :: p.1, p.2) else none) else (quoW (d :: r)).map fun p => (c :: p.1, p.2)
/-- A literal's head: its number, whether it waits, and what is left. -/
def headB (s : List UInt8) : Option (Nat × Bool × List UInt8) :=
  match numSpec (s.takeWhile isDig) with
  | none => none
  | some n => match s.dropWhile isDig with
    | 43 :: 125 :: q => some (n, false, q)
    | 125 :: q => some (n, true, q)
    | _ => none
def headW : List UInt8 → Option (Nat × Bool × List UInt8)
  | 126 :: 123 :: r => headB r
  | 123 :: r => headB r
  | _ => none
/-- A literal: its bytes, and what is left. -/
def litW (s : List UInt8) : Option (List UInt8 × List UInt8) :=
  match headW s with
  | some (n, _, 13 :: 10 :: q) => if q.length < n then none else some (q.take n, q.drop n)
  | _ => none
/-- Behind a bracket: what is left behind its end. -/
def brkW : Nat → List UInt8 → Option (List UInt8)
  | 0, _ => none
  | _ + 1, [] => none
  | g + 1, c :: r => if c = 93 then some r else
    if c = 34 then (match quoW r with | none => none | some p => brkW g p.2) else
    if prB c = true then brkW g r else none
def endW (s : List UInt8) : Bool := match s with
  | [] => true
  | c :: _ => decide (c.toNat < 33 ∨ 126 < c.toNat) || c == 40 || c == 41 || c == 34 || (litW s).isSome
/-- A word, behind what was read of it: all of it, and what is left. -/
def wrdW : Nat → List UInt8 → List UInt8 → Option (List UInt8 × List UInt8)
  | 0, _, _ => none
  | g + 1, acc, s => if endW s = true then some (acc, s) else match s with
    | [] => some (acc, s)
    | c :: r => if c = 91 then (match brkW (r.length + 1) r with | none => none | some q => wrdW g (acc ++ c :: r.take (r.length - q.length)) q) else wrdW g (acc ++ [c]) r
/-- The first token: its kind, its text, and what is left. -/
def tokW (s : List UInt8) : Option (Nat × List UInt8 × List UInt8) :=
  match litW s with
  | some p => some (2, p.1, p.2)
  | none => match s with
    | [] => none
    | c :: r => if c = 40 then some (3, [], r) else if c = 41 then some (4, [], r) else if c = 32 then some (5, [], r) else
      if c = 34 then (quoW r).map fun p => (2, p.1, p.2) else
      match wrdW (s.length + 1) [] s with
      | none => none
      | some p => if p.1 = [] then none else some (1, p.1, p.2)
def toksW : Nat → List UInt8 → Option (List (Nat × List UInt8))
  | 0, _ => none
  | _ + 1, [] => some []
  | g + 1, c :: r => match tokW (c :: r) with
    | none => none
    | some (k, t, q) => (toksW g q).map fun ts => (k, t) :: ts
theorem quoW_esc (t : List UInt8) : ∀ s : List UInt8, quoW (escL s ++ 34 :: t) = some (s, t)
  | [] => by
    show quoW (34 :: t) = _
    cases t with
    | nil => rfl
    | cons d r => unfold quoW; rw [if_pos rfl]
  | c :: s => by
    have ih := quoW_esc t s
    have he : escL (c :: s) = escB c ++ escL s := by unfold escL; rfl
    rw [he]
    unfold escB hitB
    by_cases h : c = 34 ∨ c = 92
    · rw [if_pos (by rcases h with rfl | rfl <;> decide)]
      show quoW (92 :: c :: (escL s ++ 34 :: t)) = _
      unfold quoW
      rw [if_neg (by decide), if_pos rfl, if_pos h, ih]
      rfl
    · rw [if_neg (by
        rw [Bool.or_eq_true, beq_iff_eq, beq_iff_eq]
        exact h)]
      show quoW (c :: (escL s ++ 34 :: t)) = _
      obtain ⟨d, r, hd⟩ : ∃ d r, escL s ++ 34 :: t = d :: r := by
        cases hs : escL s with
        | nil => exact ⟨34, t, rfl⟩
        | cons d r => exact ⟨d, r ++ 34 :: t, rfl⟩
      rw [hd] at ih ⊢
      unfold quoW
      rw [if_neg (fun e => h (.inl e)), if_neg (fun e => h (.inr e)), ih]
      rfl
theorem itoa_digits (n : Nat) (h : n ≤ 4294967295) (q : List UInt8) : (Lib.itoa (n : Int) ++ 125 :: q).takeWhile isDig = Lib.itoa (n : Int) ∧ (Lib.itoa (n : Int) ++ 125 :: q).dropWhile isDig = 125 :: q := by
  have hd : (Lib.itoa (n : Int)).all isDig = true := by
    have := decDigits_all n
    unfold Lib.itoa
    rw [if_neg (by omega)]
    simpa using this
  have h0 : isDig 125 = false := by decide
  constructor
  · rw [List.takeWhile_append_of_pos (fun x hx => List.all_eq_true.1 hd x hx), List.takeWhile_cons_of_neg (by rw [h0]; decide), List.append_nil]
  · rw [List.dropWhile_append_of_pos (fun x hx => List.all_eq_true.1 hd x hx), List.dropWhile_cons_of_neg (by rw [h0]; decide)]
theorem headB_itoa (n : Nat) (h : n ≤ 4294967295) (q : List UInt8) : headB (Lib.itoa (n : Int) ++ 125 :: q) = some (n, true, q) := by
  unfold headB
  rw [(itoa_digits n h q).1, (itoa_digits n h q).2, numSpec_itoa_good (n : Int) (by omega) (by omega)]
  simp
theorem litW_lit (s q : List UInt8) (h : s.length ≤ 4294967295) : litW (litT s ++ q) = some (s, q) := by
  have hh : headW (litT s ++ q) = some (s.length, true, 13 :: 10 :: (s ++ q)) := by
    have e := headB_itoa s.length h (13 :: 10 :: (s ++ q))
    unfold litT
    by_cases h0 : (0 : UInt8) ∈ s
    · rw [if_pos h0]
      show headW (126 :: 123 :: ((Lib.itoa (s.length : Int) ++ (125 :: 13 :: 10 :: s)) ++ q)) = _
      rw [List.append_assoc]
      exact e
    · rw [if_neg h0]
      show headW (123 :: ((Lib.itoa (s.length : Int) ++ (125 :: 13 :: 10 :: s)) ++ q)) = _
      rw [List.append_assoc]
      exact e
  unfold litW
  rw [hh]
  show (if (s ++ q).length < s.length then none else some ((s ++ q).take s.length, (s ++ q).drop s.length)) = _
  rw [if_neg (by rw [List.length_append]; omega), List.take_left, List.drop_left]
theorem litW_not {c : UInt8} {r : List UInt8} (h1 : c ≠ 126) (h2 : c ≠ 123) : litW (c :: r) = none := by
  have hh : headW (c :: r) = none := by
    unfold headW
    split
    · next e => cases e; exact absurd rfl h1
    · next e => cases e; exact absurd rfl h2
    · rfl
  unfold litW
  rw [hh]
theorem litW_tilde {d : UInt8} {r : List UInt8} (h : d ≠ 123) : litW (126 :: d :: r) = none := by
  have hh : headW (126 :: d :: r) = none := by
    unfold headW
    split
    · next e => cases e; exact absurd rfl h
    · next e => cases e
    · rfl
  unfold litW
  rw [hh]
theorem litW_nil : litW [] = none := rfl
/-- A string is a token that says its text. -/
theorem tok_str (s q : List UInt8) (h : s.length ≤ 4294967295) : tokW (strW s ++ q) = some (2, s, q) := by
  unfold strW
  split
  · show tokW (34 :: ((escL s ++ [34]) ++ q)) = _
    rw [List.append_assoc]
    unfold tokW
    rw [litW_not (by decide) (by decide)]
    simp only
    rw [if_neg (by decide), if_neg (by decide), if_neg (by decide), if_pos (by decide)]
    show (quoW (escL s ++ 34 :: q)).map _ = _
    rw [quoW_esc]
    rfl
  · unfold tokW
    rw [litW_lit s q h]
theorem atom_bytes {c : UInt8} (h : atomW c = true) : 33 ≤ c.toNat ∧ c.toNat ≤ 126 ∧ c ≠ 40 ∧ c ≠ 41 ∧ c ≠ 34 ∧ c ≠ 123 ∧ c ≠ 32 := by
  unfold atomW atomI at h
  rw [Bool.and_eq_true, decide_eq_true_iff] at h
  have h1 : 33 ≤ c.toNat := by omega
  have h2 : c.toNat ≤ 126 := by omega
  refine ⟨h1, h2, ?_, ?_, ?_, ?_, ?_⟩
  · rintro rfl; exact absurd h.2 (by decide)
  · rintro rfl; exact absurd h.2 (by decide)
  · rintro rfl; exact absurd h.2 (by decide)
  · rintro rfl; exact absurd h.2 (by decide)
  · rintro rfl; exact absurd h1 (by decide)
/-- What may stand behind a word. -/
def endsB (q : List UInt8) : Bool := match q with
  | [] => true
  | c :: _ => c == 32 || c == 41
theorem endsB_ends {q : List UInt8} (h : endsB q = true) : endW q = true := by
  cases q with
  | nil => rfl
  | cons c r =>
    unfold endsB at h
    unfold endW
    simp only [Bool.or_eq_true, beq_iff_eq] at h
    rcases h with rfl | rfl
    · rfl
    · rfl
theorem ends_head {q : List UInt8} (h : endsB q = true) : ∀ c r, q = c :: r → c ≠ 123 := by
  rintro c r rfl
  unfold endsB at h
  simp only [Bool.or_eq_true, beq_iff_eq] at h
  rcases h with rfl | rfl <;> decide
theorem litW_word {c : UInt8} {r : List UInt8} (h : c ≠ 123) (hr : ∀ d t, r = d :: t → d ≠ 123) : litW (c :: r) = none := by
  by_cases h1 : c = 126
  · subst h1
    cases r with
    | nil => rfl
    | cons d t => exact litW_tilde (hr d t rfl)
  · exact litW_not h1 h
theorem wrd_atom (q : List UInt8) (hq : endsB q = true) : ∀ (s acc : List UInt8) (g : Nat), s.length < g → s.all (fun c => atomW c && c != 91) = true → wrdW g acc (s ++ q) = some (acc ++ s, q)
  | [], acc, 0, h, _ => by omega
  | [], acc, g + 1, _, _ => by
    unfold wrdW
    rw [List.nil_append, if_pos (endsB_ends hq), List.append_nil]
  | c :: s, acc, 0, h, _ => by omega
  | c :: s, acc, g + 1, h, ha => by
    rw [List.all_cons, Bool.and_eq_true, Bool.and_eq_true] at ha
    obtain ⟨⟨h1, h2⟩, h3⟩ := ha
    obtain ⟨b1, b2, b3, b4, b5, b6, _⟩ := atom_bytes h1
    have h91 : ¬ c = 91 := by simpa using h2
    have hn : ∀ d t, s ++ q = d :: t → d ≠ 123 := by
      intro d t e
      cases s with
      | nil => exact ends_head hq d t e
      | cons x y =>
        cases e
        rw [List.all_cons, Bool.and_eq_true, Bool.and_eq_true] at h3
        exact (atom_bytes h3.1.1).2.2.2.2.2.1
    have he : endW (c :: (s ++ q)) = false := by
      unfold endW
      simp only [Bool.or_eq_false_iff, decide_eq_false_iff_not, beq_eq_false_iff_ne]
      refine ⟨⟨⟨⟨by omega, b3⟩, b4⟩, b5⟩, ?_⟩
      rw [litW_word b6 hn]
      rfl
    show wrdW (g + 1) acc (c :: (s ++ q)) = _
    unfold wrdW
    rw [if_neg (by rw [he]; decide)]
    simp only
    rw [if_neg h91, wrd_atom q hq s (acc ++ [c]) g (by simpa using h) h3, List.append_assoc]
    rfl
/-- A word is a token that says its text. -/
theorem tok_atom {s q : List UInt8} (h : isAst s = true) (hq : endsB q = true) : tokW (s ++ q) = some (1, s, q) := by
  unfold isAst at h
  rw [Bool.and_eq_true] at h
  cases s with
  | nil => exact absurd h.1 (by decide)
  | cons c r =>
    have h2 := h.2
    have h3 := h2
    rw [List.all_cons, Bool.and_eq_true, Bool.and_eq_true] at h3
    obtain ⟨b1, b2, b3, b4, b5, b6, b7⟩ := atom_bytes h3.1.1
    have hn : ∀ d t, r ++ q = d :: t → d ≠ 123 := by
      intro d t e
      cases r with
      | nil => exact ends_head hq d t e
      | cons x y =>
        cases e
        have h4 := h3.2
        rw [List.all_cons, Bool.and_eq_true, Bool.and_eq_true] at h4
        exact (atom_bytes h4.1.1).2.2.2.2.2.1
    unfold tokW
    rw [show c :: r ++ q = c :: (r ++ q) from rfl, litW_word b6 hn]
    simp only
    rw [if_neg b3, if_neg b4, if_neg b7, if_neg b5]
    have := wrd_atom q hq (c :: r) [] ((c :: (r ++ q)).length + 1) (by simp; omega) h2
    rw [show c :: r ++ q = c :: (r ++ q) from rfl] at this
    rw [this]
    simp
theorem tok_open (q : List UInt8) : tokW (40 :: q) = some (3, [], q) := by
  unfold tokW
  rw [litW_not (by decide) (by decide)]
  simp only
  rw [if_pos (by decide)]
theorem tok_close (q : List UInt8) : tokW (41 :: q) = some (4, [], q) := by
  unfold tokW
  rw [litW_not (by decide) (by decide)]
  simp only
  rw [if_neg (by decide), if_pos (by decide)]
theorem tok_space (q : List UInt8) : tokW (32 :: q) = some (5, [], q) := by
  unfold tokW
  rw [litW_not (by decide) (by decide)]
  simp only
  rw [if_neg (by decide), if_neg (by decide), if_pos (by decide)]
theorem toks_step {s q t : List UInt8} {k g : Nat} (h : tokW s = some (k, t, q)) : toksW (g + 1) s = (toksW g q).map fun ts => (k, t) :: ts := by
  cases s with
  | nil => exact absurd h (by unfold tokW; rw [litW_nil]; simp)
  | cons c r =>
    conv => lhs; unfold toksW
    rw [h]
theorem toks_nil (g : Nat) : toksW (g + 1) [] = some [] := rfl
end Go.Proofs.YtkmgflnmffdhjaaGreatDoor

/- Layer 19 in plain words: envelopes as they are put, and the tokens of that. No program. -/
namespace Go.Proofs.YtkmgflnmffdhjaaGreatDoor
open Go Go.RowKit

/-- An address of whatever kind. -/
structure Adx where
  kind : Int
  name : List UInt8
  loc : List UInt8
  host : List UInt8
def nilW : List UInt8 := [78, 73, 76]
def nstW (s : List UInt8) (b : Bool) : List UInt8 := if b = true then strW s else nilW
def neB (s : List UInt8) : Bool := !s.isEmpty
def rowW (ps : List (List UInt8)) : List UInt8 := 40 :: (Lib.join ps [32] ++ [41])
def adrP (a : Adx) : List (List UInt8) :=
  if a.kind = 0 then [nstW a.name (neB a.name), nilW, strW a.loc, nstW a.host (neB a.host)] else if a.kind = 1 then [nilW, nilW, strW a.name, nilW] else [nilW, nilW, nilW, nilW]
def adrW (a : Adx) : List UInt8 := rowW (adrP a)
def listW (l : List Adx) : List UInt8 := if l = [] then nilW else 40 :: (l.flatMap adrW ++ [41])
/-- An envelope. -/
structure Env where
  date : List UInt8
  subj : List UInt8
  l0 : List Adx
  l1 : List Adx
  l2 : List Adx
  l3 : List Adx
  l4 : List Adx
  l5 : List Adx
  reply : List UInt8
  id : List UInt8
  h0 : Bool
  h1 : Bool
  h2 : Bool
  h3 : Bool
def envP (e : Env) : List (List UInt8) :=
  [nstW e.date e.h0, nstW e.subj e.h1, listW e.l0, listW e.l1, listW e.l2, listW e.l3, listW e.l4, listW e.l5, nstW e.reply e.h2, nstW e.id e.h3]
def putE (e : Env) : List UInt8 := rowW (envP e)

/-! How long they are. -/
theorem escW_len (l : List UInt8) : (escL l).length ≤ 2 * l.length := by
  induction l with
  | nil => exact Nat.le_refl _
  | cons c r ih =>
    have e : escL (c :: r) = escB c ++ escL r := by unfold escL; rfl
    have h1 : (escB c).length ≤ 2 := by unfold escB; split <;> simp
    rw [e, List.length_append, List.length_cons]
    omega
theorem strW_size (l : List UInt8) (h : l.length ≤ 1000000000) : (strW l).length ≤ 2 * l.length + 30 := by
  unfold strW litT
  have h1 : (Lib.itoa (l.length : Int)).length ≤ 21 := Lib.itoa_length_le (l.length : Int) (by omega) (by omega)
  have h2 := escW_len l
  split
  · simp
    omega
  · split <;> simp <;> omega
theorem nstW_size (l : List UInt8) (b : Bool) (h : l.length ≤ 1000000000) : (nstW l b).length ≤ 2 * l.length + 30 := by
  unfold nstW
  split
  · exact strW_size l h
  · simp [nilW]
theorem rowW_four (a b c d : List UInt8) : rowW [a, b, c, d] = 40 :: (a ++ (32 :: (b ++ (32 :: (c ++ (32 :: (d ++ [41]))))))) := by
  unfold rowW
  rw [Lib.join_cons]
  simp [Lib.joinTail]
theorem adrW_size (a : Adx) (M : Nat) (hM : M ≤ 100000000) (h1 : a.name.length ≤ M) (h2 : a.loc.length ≤ M) (h3 : a.host.length ≤ M) : (adrW a).length ≤ 6 * M + 200 := by
  have q1 := nstW_size a.name (neB a.name) (by omega)
  have q2 := strW_size a.loc (by omega)
  have q3 := nstW_size a.host (neB a.host) (by omega)
  have q4 := strW_size a.name (by omega)
  have q5 : nilW.length = 3 := rfl
  unfold adrW adrP
  split
  · rw [rowW_four]
    simp only [List.length_cons, List.length_append, List.length_nil]
    omega
  · split
    · rw [rowW_four]
      simp only [List.length_cons, List.length_append, List.length_nil]
      omega
    · rw [rowW_four]
      simp only [List.length_cons, List.length_append, List.length_nil]
      omega
def smallX (l : List Adx) (M : Nat) : Prop := ∀ a ∈ l, a.name.length ≤ M ∧ a.loc.length ≤ M ∧ a.host.length ≤ M
/-! Their tokens. -/
/-- A text that is read as these tokens, where a blank, a closing bracket or nothing stands behind it. -/
def Tk (x : List UInt8) (ts : List (Nat × List UInt8)) : Prop := ∀ (q : List UInt8) (g : Nat), endsB q = true → toksW (g + ts.length) (x ++ q) = (toksW g q).map fun us => ts ++ us
/-- The same, whatever stands behind it. -/
def TkA (x : List UInt8) (ts : List (Nat × List UInt8)) : Prop := ∀ (q : List UInt8) (g : Nat), toksW (g + ts.length) (x ++ q) = (toksW g q).map fun us => ts ++ us
theorem TkA.tk {x : List UInt8} {ts : List (Nat × List UInt8)} (h : TkA x ts) : Tk x ts := fun q g _ => h q g
theorem TkA.app {x y : List UInt8} {ts us : List (Nat × List UInt8)} (h : TkA x ts) (h2 : TkA y us) : TkA (x ++ y) (ts ++ us) := fun q g => by
  rw [List.append_assoc, List.length_append, show g + (ts.length + us.length) = g + us.length + ts.length by omega, h, h2, Option.map_map]
  congr 1
  funext v
  simp
theorem Tk.close {x : List UInt8} {ts : List (Nat × List UInt8)} (h : Tk x ts) : TkA (x ++ [41]) (ts ++ [(4, [])]) := fun q g => by
  rw [List.append_assoc, List.length_append, show g + (ts.length + [(4, ([] : List UInt8))].length) = g + 1 + ts.length by simp; omega, h _ _ rfl]
  show (toksW (g + 1) (41 :: q)).map _ = _
  rw [toks_step (tok_close q), Option.map_map]
  congr 1
  funext v
  simp
theorem Tk.blank {x y : List UInt8} {ts us : List (Nat × List UInt8)} (h : Tk x ts) (h2 : Tk y us) : Tk (x ++ 32 :: y) (ts ++ (5, []) :: us) := fun q g hq => by
  rw [List.append_assoc, List.length_append, List.length_cons, show g + (ts.length + (us.length + 1)) = g + us.length + 1 + ts.length by omega, h _ _ rfl]
  show (toksW (g + us.length + 1) (32 :: (y ++ q))).map _ = _
  rw [toks_step (tok_space _), h2 q g hq, Option.map_map, Option.map_map]
  congr 1
  funext v
  simp
theorem TkA.opened {x : List UInt8} {ts : List (Nat × List UInt8)} (h : TkA x ts) : TkA (40 :: x) ((3, []) :: ts) := fun q g => by
  rw [List.length_cons, show g + (ts.length + 1) = g + ts.length + 1 by omega]
  show toksW (g + ts.length + 1) (40 :: (x ++ q)) = _
  rw [toks_step (tok_open _), h q g, Option.map_map]
  rfl
theorem tk_str (s : List UInt8) (h : s.length ≤ 4294967295) : Tk (strW s) [(2, s)] := fun q g _ => by
  show toksW (g + 1) _ = _
  rw [toks_step (tok_str s q h)]
  rfl
theorem tk_nil : Tk nilW [(1, nilW)] := fun q g hq => by
  show toksW (g + 1) _ = _
  rw [toks_step (tok_atom (s := nilW) (q := q) (by decide) hq)]
  rfl
def nstT (s : List UInt8) (b : Bool) : Nat × List UInt8 := if b = true then (2, s) else (1, nilW)
theorem tk_nst (s : List UInt8) (b : Bool) (h : s.length ≤ 4294967295) : Tk (nstW s b) [nstT s b] := by
  unfold nstW nstT
  split
  · exact tk_str s h
  · exact tk_nil
/-- Tokens that are of n parts, each of them one token, or a list. -/
def stD (s : Int × Nat) (k : Nat) : Int × Nat := (s.1 + (if k = 3 then 1 else 0) - (if k = 4 then 1 else 0), s.2 + (if s.1 = 1 ∧ (k = 1 ∨ k = 2 ∨ k = 3) then 1 else 0))
def rnD (s : Int × Nat) (ts : List (Nat × List UInt8)) : Int × Nat := ts.foldl (fun s t => stD s t.1) s
theorem rnD_app (s : Int × Nat) (a b : List (Nat × List UInt8)) : rnD s (a ++ b) = rnD (rnD s a) b := List.foldl_append
theorem rnD_nil (s : Int × Nat) : rnD s [] = s := rfl
theorem rnD_cons (s : Int × Nat) (t : Nat × List UInt8) (r : List (Nat × List UInt8)) : rnD s (t :: r) = rnD (stD s t.1) r := rfl
/-- From within a bracket: they stay within it, and are so many parts of it. -/
def Lv (ts : List (Nat × List UInt8)) (c : Nat) : Prop := ∀ (d : Int) (n : Nat), 1 ≤ d → rnD (d, n) ts = (d, n + if d = 1 then c else 0) ∧ ∀ k, k ≤ ts.length → 1 ≤ (rnD (d, n) (ts.take k)).1
theorem Lv.app {a b : List (Nat × List UInt8)} {m n : Nat} (h : Lv a m) (h2 : Lv b n) : Lv (a ++ b) (m + n) := fun d k hd => by
  obtain ⟨e1, e2⟩ := h d k hd
  obtain ⟨f1, f2⟩ := h2 d (k + if d = 1 then m else 0) hd
  refine ⟨?_, fun j hj => ?_⟩
  · rw [rnD_app, e1, f1]
    split <;> simp <;> omega
  · rcases Nat.lt_or_ge a.length j with h3 | h3
    · rw [List.take_append, List.take_of_length_le (by omega), rnD_app, e1]
      exact f2 _ (by rw [List.length_append] at hj; omega)
    · rw [List.take_append, Nat.sub_eq_zero_of_le h3, List.take_zero, List.append_nil]
      exact e2 j h3
theorem lv_nil : Lv [] 0 := fun d n hd => ⟨by rw [rnD_nil]; simp, fun k _ => by rw [List.take_nil, rnD_nil]; exact hd⟩
theorem lv_one (k : Nat) (t : List UInt8) (h : k = 1 ∨ k = 2) : Lv [(k, t)] 1 := fun d n hd => by
  have e : rnD (d, n) [(k, t)] = (d, n + if d = 1 then 1 else 0) := by
    rw [rnD_cons, rnD_nil]
    unfold stD
    rcases h with rfl | rfl <;> simp
  refine ⟨e, fun j hj => ?_⟩
  cases j with
  | zero => exact hd
  | succ j =>
    rw [List.take_of_length_le (by simp), e]
    exact hd
theorem lv_blank : Lv [(5, [])] 0 := fun d n hd => by
  have e : rnD (d, n) [(5, [])] = (d, n + if d = 1 then 0 else 0) := by
    rw [rnD_cons, rnD_nil]
    unfold stD
    simp
  refine ⟨e, fun j hj => ?_⟩
  cases j with
  | zero => exact hd
  | succ j =>
    rw [List.take_of_length_le (by simp), e]
    exact hd
theorem lv_row {ts : List (Nat × List UInt8)} {c : Nat} (h : Lv ts c) : Lv ((3, []) :: (ts ++ [(4, [])])) 1 := fun d n hd => by
  obtain ⟨e1, e2⟩ := h (d + 1) (n + if d = 1 then 1 else 0) (by omega)
  have hne : ¬ d + 1 = 1 := by omega
  rw [if_neg hne] at e1
  have s0 : stD (d, n) 3 = (d + 1, n + if d = 1 then 1 else 0) := by
    unfold stD
    simp
  have e3 : rnD (d, n) ((3, []) :: (ts ++ [(4, [])])) = (d, n + if d = 1 then 1 else 0) := by
    rw [rnD_cons, rnD_app]
    show rnD (rnD (stD (d, n) 3) ts) [(4, [])] = _
    rw [s0, e1, rnD_cons, rnD_nil]
    unfold stD
    simp
  refine ⟨e3, fun j hj => ?_⟩
  cases j with
  | zero => exact hd
  | succ j =>
    rw [List.take_succ_cons, rnD_cons]
    show 1 ≤ (rnD (stD (d, n) 3) _).1
    rw [s0]
    rcases Nat.lt_or_ge ts.length j with h3 | h3
    · rw [List.take_of_length_le (by simp; omega), rnD_app, e1, rnD_cons, rnD_nil]
      show 1 ≤ (d + 1 : Int) + 0 - 1
      omega
    · rw [List.take_append, Nat.sub_eq_zero_of_le h3, List.take_zero, List.append_nil]
      exact e2 j h3
/-- From the first token on: never without a bracket ahead of the last one. -/
theorem put_run {ts F : List (Nat × List UInt8)} {c : Nat} (h : Lv ts c) (hF : F = (3, []) :: (ts ++ [(4, [])])) : rnD (0, 0) F = (0, c) ∧ ∀ i, i + 1 < F.length → 1 ≤ (rnD (0, 0) (F.take (i + 1))).1 := by
  subst hF
  obtain ⟨e1, e2⟩ := h 1 0 (by decide)
  rw [if_pos rfl] at e1
  have s0 : stD (0, 0) 3 = (1, 0) := rfl
  refine ⟨?_, fun i hi => ?_⟩
  · rw [rnD_cons]
    show rnD (stD (0, 0) 3) _ = _
    rw [s0, rnD_app, e1, rnD_cons, rnD_nil]
    unfold stD
    simp
  · simp only [List.length_cons, List.length_append, List.length_nil] at hi
    rw [List.take_succ_cons, rnD_cons]
    show 1 ≤ (rnD (stD (0, 0) 3) _).1
    rw [s0, List.take_append, show i - ts.length = 0 by omega, List.take_zero, List.append_nil]
    exact e2 i (by omega)
theorem run_step {F : List (Nat × List UInt8)} {i k : Nat} {t : List UInt8} (h : F[i]? = some (k, t)) (s : Int × Nat) : rnD s (F.take (i + 1)) = stD (rnD s (F.take i)) k := by
  obtain ⟨hi, e⟩ := List.getElem?_eq_some_iff.1 h
  rw [List.take_succ_eq_append_getElem hi, rnD_app, e]
  rfl
end Go.Proofs.YtkmgflnmffdhjaaGreatDoor
