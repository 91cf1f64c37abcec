/- Plain: what text a spec has, and the program's way to read it. -/
import Derived.Test.YthcleaflhljdlaaGreatDoorChars7
import Derived.Test.YthcleaflhljdlaaGreatDoorParM
import Derived.Test.YthcleaflhljdlaaGreatDoorParE
namespace Go.Proofs.YthcleaflhljdlaaGreatDoor
open Go Go.RowKit

def atomB (c : UInt8) : Bool := atomI (c.toNat : Int)
def whatB (c : UInt8) : Bool := c != 32 && c != 93
def quoB (c : UInt8) : Bool := c != 34 && c != 92
def wordL : Nat → List UInt8
  | 1 => [72, 69, 65, 68, 69, 82]
  | 2 => [72, 69, 65, 68, 69, 82, 46, 70, 73, 69, 76, 68, 83]
  | 3 => [72, 69, 65, 68, 69, 82, 46, 70, 73, 69, 76, 68, 83, 46, 78, 79, 84]
  | 4 => [84, 69, 88, 84]
  | 5 => [77, 73, 77, 69]
  | _ => []
def isWord (w : List UInt8) (k : Nat) : Bool := decide (foldS w = foldS (wordL k))
def whatOf (w : List UInt8) : Option Nat :=
  if isWord w 0 then some 0 else if isWord w 1 then some 1 else if isWord w 2 then some 2 else if isWord w 3 then some 3 else if isWord w 4 then some 4 else if isWord w 5 then some 5 else none
/-- A spec, plain. -/
structure Spc where
  path : List Int
  what : Int
  names : List (List UInt8)
  cut : Bool
  frm : Int
  many : Int

/-- A path and a word behind it. -/
inductive AskTx : List UInt8 → List Int → Nat → Prop
  | word (w : List UInt8) (k : Nat) (h : whatOf w = some k) : AskTx w [] k
  | last (d : List UInt8) (n : Nat) (h : numSpec d = some n) : AskTx d [(n : Int)] 0
  | more (d : List UInt8) (n : Nat) (l : List UInt8) (p : List Int) (k : Nat) (h : numSpec d = some n) (hr : AskTx l p k) (hk : ¬ (p = [] ∧ k = 0)) : AskTx (d ++ 46 :: l) ((n : Int) :: p) k
inductive NameTx : List UInt8 → List UInt8 → Prop
  | atom (a : List UInt8) (h : a ≠ []) (ha : a.all atomB = true) : NameTx a a
  | quo (a : List UInt8) : NameTx (quoteL a) a
inductive NmsTx : List UInt8 → List (List UInt8) → Prop
  | one (t a : List UInt8) (h : NameTx t a) : NmsTx t [a]
  | more (t a l : List UInt8) (as1 : List (List UInt8)) (h : NameTx t a) (hr : NmsTx l as1) : NmsTx (t ++ 32 :: l) (a :: as1)
def NOpt (N : List UInt8) (ns : List (List UInt8)) : Prop := (N = [] ∧ ns = []) ∨ ∃ t, N = 32 :: 40 :: (t ++ [41]) ∧ NmsTx t ns
def CutTx (C : List UInt8) (c : Bool) (a b : Int) : Prop :=
  (C = [] ∧ c = false ∧ a = 0 ∧ b = 0) ∨ ∃ d1 d2 n1 n2, C = 60 :: (d1 ++ 46 :: (d2 ++ [62])) ∧ numSpec d1 = some n1 ∧ numSpec d2 = some n2 ∧ c = true ∧ a = (n1 : Nat) ∧ b = (n2 : Nat)
/-- A text is a spec's. -/
def TextOf (l : List UInt8) (s : Spc) : Prop := ∃ A N C k, l = 91 :: (A ++ (N ++ 93 :: C)) ∧ AskTx A s.path k ∧ s.what = (k : Nat) ∧ NOpt N s.names ∧ CutTx C s.cut s.frm s.many

theorem numSpec_digits {d : List UInt8} {n : Nat} (h : numSpec d = some n) : d.all isDig = true ∧ d ≠ [] ∧ n ≤ 4294967295 ∧ d.length ≤ 10 := by
  unfold numSpec at h
  split at h
  · cases h
  · next hn =>
    cases h
    refine ⟨?_, ?_, ?_, ?_⟩
    · rcases Bool.eq_false_or_eq_true (d.all isDig) with e | e
      · exact e
      · exact (hn (.inr (.inr (.inr (.inl e))))).elim
    · rintro rfl
      exact hn (.inl (by decide))
    · have := fun h => hn (.inr (.inr (.inr (.inr h))))
      omega
    · have := fun h => hn (.inr (.inl h))
      omega
theorem takeWhile_stop {α : Type} (p : α → Bool) (a r : List α) (ha : a.all p = true) (hr : ∀ x, r.head? = some x → p x = false) : (a ++ r).takeWhile p = a ∧ (a ++ r).dropWhile p = r := by
  have h2 : (a ++ r).dropWhile p = r := by
    rw [dropWhile_app p a r ha]
    cases r with
    | nil => rfl
    | cons x r => rw [List.dropWhile_cons_of_neg (by simp [hr x rfl])]
  refine ⟨?_, h2⟩
  have h3 : (a ++ r).takeWhile p ++ (a ++ r).dropWhile p = a ++ r := List.takeWhile_append_dropWhile
  rw [h2] at h3
  exact List.append_cancel_right h3
theorem isDig_46 : isDig 46 = false := by decide
theorem fold_mem {w : List UInt8} {k : Nat} (h : foldS w = foldS (wordL k)) : ∀ c ∈ w, lowB c ∈ foldS (wordL k) := by
  intro c hc
  rw [← h]
  exact List.mem_map.2 ⟨c, hc, rfl⟩
theorem word_bytes : ∀ k x, x ∈ foldS (wordL k) → x = 46 ∨ (97 ≤ x.toNat ∧ x.toNat ≤ 122) := by
  intro k x
  match k with
  | 0 => intro h; cases h
  | 1 => revert x; decide
  | 2 => revert x; decide
  | 3 => revert x; decide
  | 4 => revert x; decide
  | 5 => revert x; decide
  | k + 6 => intro h; cases h
theorem low_byte {c : UInt8} (h : lowB c = 46 ∨ (97 ≤ (lowB c).toNat ∧ (lowB c).toNat ≤ 122)) : c = 46 ∨ (65 ≤ c.toNat ∧ c.toNat ≤ 90) ∨ (97 ≤ c.toNat ∧ c.toNat ≤ 122) := by
  have e := lowB_toNat c
  rcases h with h | h
  · left
    apply toNat_eq
    have h2 : (lowB c).toNat = 46 := by rw [h]; rfl
    have h46 : (46 : UInt8).toNat = 46 := rfl
    rw [h46]
    split at e <;> omega
  · right
    split at e <;> omega
theorem whatOf_word {w : List UInt8} {k : Nat} (h : whatOf w = some k) : foldS w = foldS (wordL k) ∧ k ≤ 5 := by
  unfold whatOf isWord at h
  simp only [decide_eq_true_eq] at h
  repeat' split at h
  all_goals first | (cases h; refine ⟨by assumption, by decide⟩) | cases h
theorem whatOf_bytes {w : List UInt8} {k : Nat} (h : whatOf w = some k) : ∀ c ∈ w, c = 46 ∨ (65 ≤ c.toNat ∧ c.toNat ≤ 90) ∨ (97 ≤ c.toNat ∧ c.toNat ≤ 122) :=
  fun c hc => low_byte (word_bytes k _ (fold_mem (whatOf_word h).1 c hc))
theorem word_not {c : UInt8} (h : c = 46 ∨ (65 ≤ c.toNat ∧ c.toNat ≤ 90) ∨ (97 ≤ c.toNat ∧ c.toNat ≤ 122)) : whatB c = true ∧ isDig c = false := by
  have hd : isDig c = false := isDig_false (by
    rcases h with rfl | h
    · decide
    · omega)
  refine ⟨?_, hd⟩
  unfold whatB
  have h1 : c ≠ 32 := by
    rintro rfl
    revert h
    decide
  have h2 : c ≠ 93 := by
    rintro rfl
    revert h
    decide
  simp [h1, h2]
theorem whatOf_all {w : List UInt8} {k : Nat} (h : whatOf w = some k) : w.all whatB = true := by
  rw [List.all_eq_true]
  exact fun c hc => (word_not (whatOf_bytes h c hc)).1
theorem foldS_len (l : List UInt8) : (foldS l).length = l.length := by simp [foldS]
theorem whatOf_zero {w : List UInt8} (h : whatOf w = some 0) : w = [] := by
  have := congrArg List.length (whatOf_word h).1
  rw [foldS_len, foldS_len] at this
  exact List.eq_nil_of_length_eq_zero this
theorem whatOf_nil : whatOf [] = some 0 := by decide

/-! The program's way. -/
def takeP : List UInt8 → List UInt8 → Option (List UInt8)
  | [], l => some l
  | _ :: _, [] => none
  | a :: p, c :: l => if a = c then takeP p l else none
theorem takeP_iff (p l r : List UInt8) : takeP p l = some r ↔ l = p ++ r := by
  induction p generalizing l with
  | nil => simp [takeP, eq_comm]
  | cons a p ih =>
    cases l with
    | nil => simp [takeP]
    | cons c l =>
      unfold takeP
      split
      · next h => subst h; rw [ih]; simp
      · next h =>
        constructor
        · intro e; cases e
        · intro e
          simp only [List.cons_append, List.cons.injEq] at e
          exact (h e.1.symm).elim
def askL : Nat → List UInt8 → List Int → Option (List Int × Nat × List UInt8)
  | 0, _, _ => none
  | n + 1, l, acc =>
    match numSpec (l.takeWhile isDig) with
    | some m =>
      match takeP [46] (l.dropWhile isDig) with
      | some r => askL n r (acc ++ [(m : Int)])
      | none => some (acc ++ [(m : Int)], 0, l.dropWhile isDig)
    | none =>
      match whatOf (l.takeWhile whatB) with
      | some k => if k = 0 ∧ acc ≠ [] then none else some (acc, k, l.dropWhile whatB)
      | none => none
/-- A quoted text's end. -/
def unqP : Bool → List UInt8 → List UInt8 → Option (List UInt8 × List UInt8)
  | _, _, [] => none
  | false, acc, c :: r => if c = 34 then some (acc, r) else if c = 92 then unqP true acc r else unqP false (acc ++ [c]) r
  | true, acc, c :: r => if hitB c = true then unqP false (acc ++ [c]) r else none
def nameL (l : List UInt8) : Option (List UInt8 × List UInt8) :=
  match takeP [34] l with
  | some r => unqP false [] r
  | none => if l.takeWhile atomB = [] then none else some (l.takeWhile atomB, l.dropWhile atomB)
def nmsL : Nat → List UInt8 → List (List UInt8) → Option (List (List UInt8) × List UInt8)
  | 0, _, _ => none
  | n + 1, l, acc =>
    match nameL l with
    | none => none
    | some (a, r) =>
      match takeP [32] r with
      | some r' => nmsL n r' (acc ++ [a])
      | none =>
        match takeP [41] r with
        | some r' => some (acc ++ [a], r')
        | none => none
def namesL (l : List UInt8) : Option (List (List UInt8) × List UInt8) :=
  match takeP [32, 40] l with
  | none => some ([], l)
  | some r => nmsL (r.length + 1) r []
def cutL (l : List UInt8) : Option (Bool × Int × Int × List UInt8) :=
  match takeP [60] l with
  | none => some (false, 0, 0, l)
  | some r =>
    match numSpec (r.takeWhile isDig) with
    | none => none
    | some a =>
      match takeP [46] (r.dropWhile isDig) with
      | none => none
      | some r2 =>
        match numSpec (r2.takeWhile isDig) with
        | none => none
        | some b =>
          match takeP [62] (r2.dropWhile isDig) with
          | none => none
          | some r3 => some (true, (a : Int), (b : Int), r3)
def specL (l : List UInt8) : Option Spc :=
  match takeP [91] l with
  | none => none
  | some l1 =>
    match askL (l1.length + 1) l1 [] with
    | none => none
    | some (p, k, l2) =>
      match namesL l2 with
      | none => none
      | some (ns, l3) =>
        match takeP [93] l3 with
        | none => none
        | some l4 =>
          match cutL l4 with
          | none => none
          | some (c, a, b, l5) => if l5 = [] then some ⟨p, (k : Int), ns, c, a, b⟩ else none
end Go.Proofs.YthcleaflhljdlaaGreatDoor
