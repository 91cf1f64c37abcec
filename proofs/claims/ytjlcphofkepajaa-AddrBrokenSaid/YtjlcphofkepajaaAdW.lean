/- Plain: lists of addresses that are broken. -/
import Derived.Test.YtjlcphofkepajaaAdP
namespace Go.Proofs.Ytjlcphofkepajaa
open Go Go.RowKit

/-- An address and a comma. -/
def oneL (x : UInt8) : List UInt8 := [117, x, 64, 104, 44, 32]
def oneT (x : UInt8) : List Tok := [.wrd [117, x], .sgn 64, .wrd [104], .sgn 44]
def lowX (x : UInt8) : Prop := x = 97 ∨ x = 98 ∨ x = 99
theorem toksA_one {x : UInt8} (hx : lowX x) (y : List UInt8) : toksA (oneL x ++ y) = (oneT x ++ (toksA y).1, (toksA y).2) := by
  have e0 : toksA (32 :: y) = toksA y := toksA_sk (sk_blk 32 y rfl)
  have e1 : toksA (44 :: 32 :: y) = (.sgn 44 :: (toksA y).1, (toksA y).2) := by rw [toksA_tok (t := .sgn 44) (r := 32 :: y) rfl, e0]
  have e2 : toksA (104 :: 44 :: 32 :: y) = (.wrd [104] :: .sgn 44 :: (toksA y).1, (toksA y).2) := by rw [toksA_tok (t := .wrd [104]) (r := 44 :: 32 :: y) rfl, e1]
  have e3 : toksA (64 :: 104 :: 44 :: 32 :: y) = (.sgn 64 :: .wrd [104] :: .sgn 44 :: (toksA y).1, (toksA y).2) := by rw [toksA_tok (t := .sgn 64) (r := 104 :: 44 :: 32 :: y) rfl, e2]
  have e4 : pcL (sk (117 :: x :: 64 :: 104 :: 44 :: 32 :: y)) = .tok (.wrd [117, x]) (64 :: 104 :: 44 :: 32 :: y) := by rcases hx with rfl | rfl | rfl <;> rfl
  show toksA (117 :: x :: 64 :: 104 :: 44 :: 32 :: y) = _
  rw [toksA_tok e4, e3]
  rfl
def onesL (xs : List UInt8) : List UInt8 := xs.flatMap oneL
def onesT (xs : List UInt8) : List Tok := xs.flatMap oneT
theorem toksA_ones (y : List UInt8) : ∀ (xs : List UInt8), (∀ x ∈ xs, lowX x) → toksA (onesL xs ++ y) = (onesT xs ++ (toksA y).1, (toksA y).2)
  | [], _ => rfl
  | x :: xs, h => by
    have ih := toksA_ones y xs (fun z hz => h z (List.mem_cons_of_mem _ hz))
    show toksA (oneL x ++ onesL xs ++ y) = (oneT x ++ onesT xs ++ _, _)
    rw [List.append_assoc, toksA_one (h x List.mem_cons_self), ih, List.append_assoc]
def oneA (x : UInt8) : Adr := ⟨0, [], [117, x], [104]⟩
theorem itemT_one (x : UInt8) (u : List Tok) : itemT (oneT x ++ u) = (true, .sgn 44 :: u, [oneA x]) := rfl
theorem items_one (x : UInt8) (u : List Tok) (n : Nat) : itemsT itemT (n + 1) (oneT x ++ u) = ((itemsT itemT n u).1, (itemsT itemT n u).2.1, oneA x :: (itemsT itemT n u).2.2) :=
  itemsT_more (itemT_one x u) rfl
theorem items_ones (u : List Tok) (n : Nat) : ∀ xs : List UInt8, itemsT itemT (n + xs.length) (onesT xs ++ u) = ((itemsT itemT n u).1, (itemsT itemT n u).2.1, xs.map oneA ++ (itemsT itemT n u).2.2)
  | [] => rfl
  | x :: xs => by
    show itemsT itemT (n + xs.length + 1) (oneT x ++ onesT xs ++ u) = _
    rw [List.append_assoc, items_one, items_ones u n xs]
    rfl
theorem onesT_len (xs : List UInt8) : (onesT xs).length = 4 * xs.length := by
  induction xs with
  | nil => rfl
  | cons x xs ih =>
    show (oneT x ++ onesT xs).length = _
    rw [List.length_append, ih, List.length_cons]
    show 4 + _ = _
    omega
theorem listA_ones {xs : List UInt8} (h : ∀ x ∈ xs, lowX x) : listA (onesL xs) = some (xs.map oneA) := by
  have e := toksA_ones [] xs h
  rw [List.append_nil] at e
  unfold listA
  rw [e]
  have e2 : toksA [] = ([], true) := rfl
  rw [e2, List.append_nil]
  have h2 := items_ones [] 1 xs
  rw [List.append_nil] at h2
  have e3 : itemsT itemT 1 [] = (true, [], []) := rfl
  rw [e3, List.append_nil] at h2
  exact listT_of h2 (by rw [onesT_len]; omega)
/-- Pieces that are no list, whatever they are given. -/
def noList (u : List Tok) : Prop := ∀ n l, itemsT itemT n u ≠ (true, [], l)
theorem noList_none {u : List Tok} {b : Bool} (h : noList u) : listT (u, b) = none := by
  cases hx : listT (u, b) with
  | none => rfl
  | some l => exact absurd (listT_some hx).2 (h _ _)
theorem noList_ones {u : List Tok} (h : noList u) (xs : List UInt8) : noList (onesT xs ++ u) := by
  intro n l hx
  have h1 := itemsT_fuel n (n + xs.length) _ _ _ (by omega) hx
  rw [items_ones] at h1
  have e1 := congrArg Prod.fst h1
  have e2 := congrArg (fun x => x.2.1) h1
  simp only at e1 e2
  exact h n (itemsT itemT n u).2.2 (Prod.ext e1 (Prod.ext e2 rfl))
theorem noList_bad {u r : List Tok} {l : List Adr} (h : itemT u = (false, r, l)) : noList u := by
  intro n l' hx
  cases n with
  | zero => cases hx
  | succ n => rw [itemsT_bad h] at hx; cases hx
theorem noList_left {u r : List Tok} {t : Tok} {l : List Adr} (h : itemT u = (true, t :: r, l)) (h2 : takesT 44 (t :: r) = (false, t :: r)) : noList u := by
  intro n l' hx
  cases n with
  | zero => cases hx
  | succ n => rw [itemsT_last h h2] at hx; cases hx
/-- The signs too many. -/
def junkL : Nat → List UInt8
  | 0 => [60]
  | 1 => [62]
  | 2 => [64]
  | 3 => [59]
  | 4 => [120, 64]
  | 5 => [60, 97, 64, 98]
  | 6 => [97, 64, 98, 62]
  | 7 => [34, 113]
  | 8 => [91]
  | _ => [120, 64, 64, 121]
theorem junk_tok {j : List UInt8} {jt : List Tok} (y : List UInt8) (hj : shutL j) (h : toksA j = (jt, true)) : toksA (j ++ 44 :: y) = (jt ++ .sgn 44 :: (toksA y).1, (toksA y).2) := by
  rw [toksA_put (44 :: y) (fun c r h => by cases h; exact ⟨by decide, by decide⟩) _ j jt (Nat.le_refl _) hj h]
  rw [toksA_tok (t := .sgn 44) (r := y) (l := 44 :: y) (by rw [sk_not 44 y (by decide) (by decide)]; rfl)]
theorem onesL_no {xs : List UInt8} (h : ∀ x ∈ xs, lowX x) : ∀ c ∈ onesL xs, c ≠ 34 ∧ c ≠ 92 ∧ c ≠ 93 := by
  intro c hc
  obtain ⟨x, hx, hc⟩ := List.mem_flatMap.1 hc
  have hl := h x hx
  unfold oneL at hc
  simp only [List.mem_cons, List.not_mem_nil, or_false] at hc
  rcases hc with rfl | rfl | rfl | rfl | rfl | rfl
  · decide
  · rcases hl with rfl | rfl | rfl <;> decide
  all_goals decide
theorem unqL_open : ∀ (l acc : List UInt8), (∀ c ∈ l, c ≠ 34 ∧ c ≠ 92 ∧ c ≠ 93) → unqL false acc l = none
  | [], acc, _ => rfl
  | c :: l, acc, h => by
    obtain ⟨h1, h2, _⟩ := h c List.mem_cons_self
    show (if c = 34 then _ else if c = 92 then _ else _) = _
    rw [if_neg h1, if_neg h2]
    exact unqL_open l _ (fun x hx => h x (List.mem_cons_of_mem _ hx))
theorem bareA_open : ∀ (l : List UInt8), (∀ c ∈ l, c ≠ 34 ∧ c ≠ 92 ∧ c ≠ 93) → bareA true l = none
  | [], _ => rfl
  | c :: l, h => by
    obtain ⟨_, _, h3⟩ := h c List.mem_cons_self
    show preA c (bareA (c != 93) l) = _
    rw [show (c != 93) = true by simpa using h3, bareA_open l (fun x hx => h x (List.mem_cons_of_mem _ hx))]
    rfl
theorem listT_false (u : List Tok) : listT (u, false) = none := by
  unfold listT
  rcases itemsT itemT ((u, false).1.length + 1) (u, false).1 with ⟨b, t, l⟩
  cases b <;> cases t <;> rfl
theorem listA_junk {xs ys : List UInt8} (k : Nat) (hx : ∀ x ∈ xs, lowX x) (hy : ∀ x ∈ ys, lowX x) : listA (onesL xs ++ (junkL k ++ [44] ++ onesL ys)) = none := by
  unfold listA
  rw [toksA_ones _ xs hx]
  have hno := onesL_no hy
  have go : ∀ (j : List UInt8) (jt : List Tok), shutL j → toksA j = (jt, true) → (∀ u, noList (jt ++ .sgn 44 :: u)) → listT (onesT xs ++ (toksA (j ++ [44] ++ onesL ys)).1, (toksA (j ++ [44] ++ onesL ys)).2) = none := by
    intro j jt h1 h2 h3
    rw [List.append_assoc]
    show listT (onesT xs ++ (toksA (j ++ 44 :: onesL ys)).1, _) = none
    rw [junk_tok (onesL ys) h1 h2]
    exact noList_none (noList_ones (h3 _) xs)
  have sh : ∀ j : List UInt8, (j.all fun c => c != 40 && (c != 34 && c != 91)) = true → shutL j := by
    intro j h c hc
    have := List.all_eq_true.1 h c hc
    simpa using this
  match k with
  | 0 => exact go [60] [.sgn 60] (sh _ (by decide)) rfl (fun u => noList_bad rfl)
  | 1 => exact go [62] [.sgn 62] (sh _ (by decide)) rfl (fun u => noList_left rfl rfl)
  | 2 => exact go [64] [.sgn 64] (sh _ (by decide)) rfl (fun u => noList_left rfl rfl)
  | 3 => exact go [59] [.sgn 59] (sh _ (by decide)) rfl (fun u => noList_left rfl rfl)
  | 4 => exact go [120, 64] [.wrd [120], .sgn 64] (sh _ (by decide)) rfl (fun u => noList_bad rfl)
  | 5 => exact go [60, 97, 64, 98] [.sgn 60, .wrd [97], .sgn 64, .wrd [98]] (sh _ (by decide)) rfl (fun u => noList_bad rfl)
  | 6 => exact go [97, 64, 98, 62] [.wrd [97], .sgn 64, .wrd [98], .sgn 62] (sh _ (by decide)) rfl (fun u => noList_left rfl rfl)
  | 7 =>
    have e : pcL (sk (34 :: 113 :: 44 :: onesL ys)) = .fin false := by
      show pcL (34 :: 113 :: 44 :: onesL ys) = _
      rw [pcL_cons, if_neg (by decide), if_pos rfl, unqL_open _ _ (fun c hc => by
        rcases List.mem_cons.1 hc with rfl | hc
        · decide
        · rcases List.mem_cons.1 hc with rfl | hc
          · decide
          · exact hno c hc)]
    show listT (onesT xs ++ (toksA (34 :: 113 :: 44 :: onesL ys)).1, (toksA (34 :: 113 :: 44 :: onesL ys)).2) = none
    rw [toksA_fin e]
    exact listT_false _
  | 8 =>
    have e : pcL (sk (91 :: 44 :: onesL ys)) = .fin false := by
      show pcL (91 :: 44 :: onesL ys) = _
      have hb : bareA false (91 :: 44 :: onesL ys) = none := by
        show preA 91 (bareA true (44 :: onesL ys)) = _
        rw [bareA_open _ (fun c hc => by
          rcases List.mem_cons.1 hc with rfl | hc
          · decide
          · exact hno c hc)]
        rfl
      exact pcL_none (by decide) (by decide) hb
    show listT (onesT xs ++ (toksA (91 :: 44 :: onesL ys)).1, (toksA (91 :: 44 :: onesL ys)).2) = none
    rw [toksA_fin e]
    exact listT_false _
  | n + 9 => exact go [120, 64, 64, 121] [.wrd [120], .sgn 64, .sgn 64, .wrd [121]] (sh _ (by decide)) rfl (fun u => noList_bad rfl)
end Go.Proofs.Ytjlcphofkepajaa
