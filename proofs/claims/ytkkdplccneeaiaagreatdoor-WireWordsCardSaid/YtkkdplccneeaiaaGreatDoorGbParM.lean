/- Plain: values with parameters. -/
import Derived.Test.YtkkdplccneeaiaaGreatDoorGbChars7
import Derived.Lib.ItoaLen
namespace Go.Proofs.YtkkdplccneeaiaaGreatDoor
open Go Go.RowKit

def tokB (c : UInt8) : Bool := tokenI (c.toNat : Int)
/-- What is behind blanks and comments: within (so many) comments, behind a stroke or not. -/
def skL : Bool → Nat → List UInt8 → List UInt8
  | _, _, [] => []
  | true, d, _ :: l => skL false d l
  | false, 0, c :: l => if blk c then skL false 0 l else if c = 40 then skL false 1 l else c :: l
  | false, d + 1, c :: l => if c = 92 then skL true (d + 1) l else if c = 40 then skL false (d + 2) l else if c = 41 then skL false d l else skL false (d + 1) l
theorem skL_nil (e : Bool) (d : Nat) : skL e d [] = [] := by cases e <;> cases d <;> rfl
theorem skL_le : ∀ (l : List UInt8) (e : Bool) (d : Nat), (skL e d l).length ≤ l.length := by
  intro l
  induction l with
  | nil => intro e d; rw [skL_nil]; exact Nat.le_refl _
  | cons c l ih =>
    intro e d
    have h := fun e d => Nat.le_trans (ih e d) (Nat.le_succ l.length)
    cases e
    · cases d with
      | zero =>
        unfold skL
        split
        · exact h _ _
        · split
          · exact h _ _
          · exact Nat.le_refl _
      | succ d =>
        unfold skL
        split
        · exact h _ _
        · split
          · exact h _ _
          · split
            · exact h _ _
            · exact h _ _
    · exact h _ _
theorem skL_suffix : ∀ (l : List UInt8) (e : Bool) (d : Nat), skL e d l = l.drop (l.length - (skL e d l).length) := by
  intro l
  induction l with
  | nil => intro e d; rw [skL_nil]; rfl
  | cons c l ih =>
    intro e d
    have key : ∀ e d, skL e d l = (c :: l).drop ((c :: l).length - (skL e d l).length) := fun e d => by
      have hl := skL_le l e d
      rw [List.length_cons, show l.length + 1 - (skL e d l).length = (l.length - (skL e d l).length) + 1 by omega, List.drop_succ_cons]
      exact ih e d
    cases e
    · cases d with
      | zero =>
        unfold skL
        split
        · exact key _ _
        · split
          · exact key _ _
          · simp
      | succ d =>
        unfold skL
        split
        · exact key _ _
        · split
          · exact key _ _
          · split
            · exact key _ _
            · exact key _ _
    · exact key _ _
def sk (l : List UInt8) : List UInt8 := skL false 0 l
theorem sk_head : ∀ (l : List UInt8) (c : UInt8) (r : List UInt8) (e : Bool) (d : Nat), skL e d l = c :: r → blk c = false ∧ c ≠ 40 := by
  intro l
  induction l with
  | nil => intro c r e d h; rw [skL_nil] at h; cases h
  | cons x l ih =>
    intro c r e d h
    cases e
    · cases d with
      | zero =>
        unfold skL at h
        split at h
        · exact ih _ _ _ _ h
        · next h1 =>
          split at h
          · exact ih _ _ _ _ h
          · next h2 =>
            cases h
            exact ⟨by simpa using h1, h2⟩
      | succ d =>
        unfold skL at h
        split at h
        · exact ih _ _ _ _ h
        · split at h
          · exact ih _ _ _ _ h
          · split at h
            · exact ih _ _ _ _ h
            · exact ih _ _ _ _ h
    · exact ih _ _ _ _ h
def tokL (l : List UInt8) : List UInt8 := l.takeWhile tokB
/-- A quoted text behind its first sign: what it tells, and what is behind it. -/
def unqL : Bool → List UInt8 → List UInt8 → Option (List UInt8 × List UInt8)
  | _, _, [] => none
  | true, acc, c :: l => unqL false (acc ++ [c]) l
  | false, acc, c :: l => if c = 34 then some (acc, l) else if c = 92 then unqL true acc l else unqL false (acc ++ [c]) l
theorem unqL_esc (t : List UInt8) : ∀ (s : List UInt8) (acc : List UInt8), unqL false acc (s.flatMap (fun c => if c == 34 || c == 92 then [92, c] else [c]) ++ 34 :: t) = some (acc ++ s, t) := by
  intro s
  induction s with
  | nil => intro acc; simp [unqL]
  | cons c s ih =>
    intro acc
    rw [List.flatMap_cons, List.append_assoc]
    by_cases h : (c == 34 || c == 92) = true
    · rw [if_pos h]
      have e : unqL false acc (92 :: c :: (s.flatMap (fun c => if c == 34 || c == 92 then [92, c] else [c]) ++ 34 :: t)) = unqL false (acc ++ [c]) (s.flatMap (fun c => if c == 34 || c == 92 then [92, c] else [c]) ++ 34 :: t) := by
        simp [unqL]
      refine e.trans ?_
      rw [ih]
      simp
    · rw [if_neg h]
      have h1 : ¬ c = 34 ∧ ¬ c = 92 := by simpa using h
      have e : unqL false acc (c :: (s.flatMap (fun c => if c == 34 || c == 92 then [92, c] else [c]) ++ 34 :: t)) = unqL false (acc ++ [c]) (s.flatMap (fun c => if c == 34 || c == 92 then [92, c] else [c]) ++ 34 :: t) := by
        simp [unqL, h1.1, h1.2]
      refine e.trans ?_
      rw [ih]
      simp
theorem unqL_len : ∀ (l acc : List UInt8) (e : Bool) (p : List UInt8 × List UInt8), unqL e acc l = some p → p.2.length < l.length := by
  intro l
  induction l with
  | nil => intro acc e p h; cases e <;> simp [unqL] at h
  | cons c l ih =>
    intro acc e p h
    cases e
    · unfold unqL at h
      split at h
      · cases h; exact Nat.lt_succ_self _
      · split at h
        · exact Nat.lt_succ_of_lt (ih _ _ _ h)
        · exact Nat.lt_succ_of_lt (ih _ _ _ h)
    · exact Nat.lt_succ_of_lt (ih _ _ _ h)

/-- A byte behind what is skipped. -/
def takeL (c : UInt8) (l : List UInt8) : Option (List UInt8) :=
  match sk l with
  | x :: r => if x = c then some r else none
  | [] => none
/-- A token behind what is skipped: it, and what is behind it. -/
def tokenL (l : List UInt8) : List UInt8 × List UInt8 := (tokL (sk l), (sk l).drop (tokL (sk l)).length)
/-- A value behind what is skipped. -/
def valueL (l : List UInt8) : Option (List UInt8 × List UInt8) :=
  match sk l with
  | c :: r => if c = 34 then unqL false [] r else if tokL (sk l) = [] then none else some (tokenL l)
  | [] => none
abbrev Prm := List UInt8 × List UInt8
def parL (l : List UInt8) : Option (Prm × List UInt8) :=
  match takeL 59 l with
  | none => none
  | some l1 =>
    if (tokenL l1).1 = [] then none
    else match takeL 61 (tokenL l1).2 with
      | none => none
      | some l2 => match valueL l2 with
        | none => none
        | some (v, r) => some ((foldS (tokenL l1).1, v), r)
def parsL : Nat → List UInt8 → List Prm
  | 0, _ => []
  | n + 1, l => match parL l with
    | none => []
    | some (p, r) => p :: parsL n r

theorem takeL_len {c : UInt8} {l r : List UInt8} (h : takeL c l = some r) : r.length < l.length := by
  unfold takeL at h
  have hl := skL_le l false 0
  split at h
  · next x r' e =>
    split at h
    · cases h
      unfold sk at e
      rw [e] at hl
      simp at hl
      omega
    · cases h
  · cases h
theorem tokenL_len (l : List UInt8) : (tokenL l).2.length ≤ l.length := by
  have hl := skL_le l false 0
  show ((skL false 0 l).drop _).length ≤ _
  rw [List.length_drop]
  omega
theorem valueL_len {l : List UInt8} {p : List UInt8 × List UInt8} (h : valueL l = some p) : p.2.length ≤ l.length := by
  unfold valueL at h
  have hl := skL_le l false 0
  split at h
  · next c r e =>
    split at h
    · have := unqL_len _ _ _ _ h
      unfold sk at e
      rw [e] at hl
      simp at hl
      omega
    · split at h
      · cases h
      · cases h
        exact tokenL_len l
  · cases h
theorem parL_len {l : List UInt8} {p : Prm} {r : List UInt8} (h : parL l = some (p, r)) : r.length < l.length := by
  unfold parL at h
  split at h
  · cases h
  · next l1 e1 =>
    have h1 := takeL_len e1
    split at h
    · cases h
    · split at h
      · cases h
      · next l2 e2 =>
        have h2 := takeL_len e2
        have h3 := tokenL_len l1
        split at h
        · cases h
        · next v r' e3 =>
          have h4 : r'.length ≤ l2.length := valueL_len e3
          cases h
          omega
theorem parsL_same : ∀ (n m : Nat) (l : List UInt8), l.length ≤ n → l.length ≤ m → parsL n l = parsL m l := by
  have nil : ∀ n, parsL n [] = [] := by
    intro n
    cases n with
    | zero => rfl
    | succ n =>
      show (match parL [] with | none => [] | some (p, r) => p :: parsL n r) = []
      cases hp : parL [] with
      | none => rfl
      | some x =>
        obtain ⟨p, r⟩ := x
        have := parL_len hp
        simp at this
  intro n
  induction n with
  | zero =>
    intro m l h _
    rw [List.eq_nil_of_length_eq_zero (Nat.le_zero.1 h), nil, nil]
  | succ n ih =>
    intro m l h h'
    cases m with
    | zero => rw [List.eq_nil_of_length_eq_zero (Nat.le_zero.1 h'), nil, nil]
    | succ m =>
      show (match parL l with | none => [] | some (p, r) => p :: parsL n r) = (match parL l with | none => [] | some (p, r) => p :: parsL m r)
      cases hp : parL l with
      | none => rfl
      | some x =>
        obtain ⟨p, r⟩ := x
        have := parL_len hp
        show p :: parsL n r = p :: parsL m r
        rw [ih m r (by omega) (by omega)]
theorem parsL_step {n : Nat} {l r : List UInt8} {p : Prm} (hp : parL l = some (p, r)) (h : l.length ≤ n) : parsL n l = p :: parsL n r := by
  have hl := parL_len hp
  cases n with
  | zero => omega
  | succ n =>
    have e : parsL (n + 1) l = p :: parsL n r := by
      show (match parL l with | none => [] | some (p, r) => p :: parsL n r) = _
      rw [hp]
    rw [e, parsL_same n (n + 1) r (by omega) (by omega)]
theorem parsL_end {n : Nat} {l : List UInt8} (hp : parL l = none) : parsL n l = [] := by
  cases n with
  | zero => rfl
  | succ n =>
    show (match parL l with | none => [] | some (p, r) => p :: parsL n r) = _
    rw [hp]

/-! ### What they tell -/
def baseL (l : List UInt8) : List UInt8 := l.takeWhile (fun c => c != 42)
def getV (ps : List Prm) (nm : List UInt8) : Option (List UInt8) := (ps.find? (fun p => p.1 == nm)).map (·.2)
def hexV (c : UInt8) : Option Nat :=
  if 48 ≤ c.toNat ∧ c.toNat ≤ 57 then some (c.toNat - 48) else if 97 ≤ c.toNat ∧ c.toNat ≤ 102 then some (c.toNat - 87) else if 65 ≤ c.toNat ∧ c.toNat ≤ 70 then some (c.toNat - 55) else none
def codeL : List UInt8 → Option UInt8
  | c :: a :: b :: _ => if c = 37 then (match hexV a, hexV b with | some x, some y => some (UInt8.ofNat (16 * x + y)) | _, _ => none) else none
  | _ => none
def openL : Nat → List UInt8 → List UInt8
  | 0, _ => []
  | _, [] => []
  | n + 1, c :: l => match codeL (c :: l) with
    | some x => x :: openL n (l.drop 2)
    | none => c :: openL n l
def opn (l : List UInt8) : List UInt8 := openL l.length l
def bareL (l : List UInt8) : List UInt8 :=
  match l.dropWhile (fun c => c != 39) with
  | _ :: r => (match r.dropWhile (fun c => c != 39) with
    | _ :: r2 => r2
    | [] => l)
  | [] => l
def pieceL (ps : List Prm) (b : List UInt8) (n : Nat) : Option (List UInt8) :=
  match getV ps (b ++ [42] ++ Lib.decDigits n) with
  | some v => some v
  | none => (getV ps (b ++ [42] ++ Lib.decDigits n ++ [42])).map (fun v => opn (if n = 0 then bareL v else v))
def pcsL (ps : List Prm) (b : List UInt8) : Nat → Nat → List UInt8
  | 0, _ => []
  | f + 1, n => match pieceL ps b n with
    | none => []
    | some v => v ++ pcsL ps b f (n + 1)
def toldL (ps : List Prm) (b : List UInt8) : Option (List UInt8) :=
  match getV ps b with
  | some v => some v
  | none => match getV ps (b ++ [42]) with
    | some v => some (opn (bareL v))
    | none => if (pieceL ps b 0).isSome then some (pcsL ps b (ps.length + 1) 0) else none
/-- The parameters that others tell of: pre are the bases that were. -/
def joinA (ps : List Prm) : List (List UInt8) → List Prm → List Prm
  | _, [] => []
  | pre, p :: t =>
    if baseL p.1 = [] ∨ baseL p.1 ∈ pre then joinA ps (baseL p.1 :: pre) t
    else match toldL ps (baseL p.1) with
      | some v => (baseL p.1, v) :: joinA ps (baseL p.1 :: pre) t
      | none => joinA ps (baseL p.1 :: pre) t
def joinL (ps : List Prm) : List Prm := joinA ps [] ps

structure Val where
  type : List UInt8
  sub : List UInt8
  params : List Prm
def subL (l : List UInt8) : Option (List UInt8 × List UInt8) :=
  match takeL 47 l with
  | none => none
  | some r => if (tokenL r).1 = [] then none else some (foldS (tokenL r).1, (tokenL r).2)
def parseL (l : List UInt8) (two : Bool) : Option Val :=
  if (tokenL l).1 = [] then none
  else if two then (match subL (tokenL l).2 with
    | none => none
    | some (u, r) => some ⟨foldS (tokenL l).1, u, joinL (parsL r.length r)⟩)
  else some ⟨foldS (tokenL l).1, [], joinL (parsL (tokenL l).2.length (tokenL l).2)⟩
end Go.Proofs.YtkkdplccneeaiaaGreatDoor
