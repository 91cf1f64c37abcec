/- Lines in plain words: where they begin, end, and where the next one begins. No program. -/
import Derived.Test.YtkmgflnmffdhjaaGreatDoorGbParC
import Derived.Test.YtkmgflnmffdhjaaGreatDoorShelf
import Derived.Test.YtkmgflnmffdhjaaGreatDoorGbChars7
import Derived.Lib.SlTrimSet
import Derived.Test.YtkmgflnmffdhjaaGreatDoorProg
import Derived.LoopN
import Derived.Outline
import Derived.BigQuiet
import Derived.Deep.QuietTactic
import Derived.RangeFuncNested
import Derived.RangeFuncBound
import Derived.RangeFuncCalls
import Derived.RangeFuncLeaves
import Derived.Shelf.Abstract
import Derived.Shelf.RegionOpen
import Derived.WalkKit
import Derived.OwnWalkIn
import Derived.TacticsInMore
import Derived.LoopNIn
import Derived.LoopIn
namespace Go.Proofs.YtkmgflnmffdhjaaGreatDoor
open Go Go.RowKit

/-- A line: where it begins, where its text ends, where the next one begins. -/
structure Ln where
  f : Nat
  t : Nat
  n : Nat
def lnV (x : Ln) : Value := .agg #[.int .i64 (x.f : Int), .int .i64 (x.t : Int), .int .i64 (x.n : Int)]
def lnC (x : Ln) : List Value := [.int .i64 (x.f : Int), .int .i64 (x.t : Int), .int .i64 (x.n : Int)]
def endA (l : List UInt8) (a i : Nat) : Nat := if a < i ∧ l.getD (i - 1) 0 = 13 then i - 1 else i
/-- The lines from a on, i being looked at, so many bytes to go. -/
def scanL (l : List UInt8) : Nat → Nat → Nat → List Ln
  | 0, a, i => if a < i then [⟨a, i, i⟩] else []
  | k + 1, a, i => if l.getD i 0 = 10 then ⟨a, endA l a i, i + 1⟩ :: scanL l k (i + 1) (i + 1) else scanL l k a (i + 1)
def linesS (l : List UInt8) (a b : Nat) : List Ln := scanL l (b - a) a a
/-- Where the first feed stands. -/
def feedI (l : List UInt8) : Nat := l.findIdx (· == 10)
def partS (l : List UInt8) (a b : Nat) : List UInt8 := (l.drop a).take (b - a)
def firstS (l : List UInt8) (a b : Nat) : Ln :=
  if feedI (partS l a b) < b - a then ⟨a, endA l a (a + feedI (partS l a b)), a + feedI (partS l a b) + 1⟩ else ⟨a, b, b⟩

theorem feedI_le (l : List UInt8) : feedI l ≤ l.length := List.findIdx_le_length
theorem partS_len (l : List UInt8) {a b : Nat} (h : b ≤ l.length) : (partS l a b).length = b - a := by unfold partS; rw [List.length_take, List.length_drop]; omega
theorem partS_at (l : List UInt8) {a b j : Nat} (h : j < b - a) : (partS l a b).getD j 0 = l.getD (a + j) 0 := by
  unfold partS
  rw [List.getD_eq_getElem?_getD, List.getD_eq_getElem?_getD, List.getElem?_take, if_pos h, List.getElem?_drop]
theorem feedI_at {l : List UInt8} (h : feedI l < l.length) : l.getD (feedI l) 0 = 10 := by
  have h1 := List.findIdx_getElem (p := (· == (10 : UInt8))) (w := h)
  rw [List.getD_eq_getElem?_getD, List.getElem?_eq_getElem h]
  exact eq_of_beq h1
theorem feedI_ahead {l : List UInt8} {j : Nat} (h : j < feedI l) : l.getD j 0 ≠ 10 := by
  have h1 := List.not_of_lt_findIdx (p := (· == (10 : UInt8))) h
  have hl : j < l.length := Nat.lt_of_lt_of_le h (feedI_le l)
  rw [List.getD_eq_getElem?_getD, List.getElem?_eq_getElem hl]
  intro e
  simp at e
  simp [e] at h1
theorem scanL_skip (l : List UInt8) : ∀ (k n a i : Nat), (∀ j, i ≤ j → j < i + k → l.getD j 0 ≠ 10) → scanL l (k + n) a i = scanL l n a (i + k)
  | 0, n, a, i, _ => by rw [Nat.zero_add, Nat.add_zero]
  | k + 1, n, a, i, h => by
    rw [show k + 1 + n = (k + n) + 1 by omega, scanL, if_neg (h i (Nat.le_refl _) (by omega)), scanL_skip l k n a (i + 1) (fun j h1 h2 => h j (by omega) (by omega))]
    congr 1
    omega
theorem linesS_nil (l : List UInt8) {a b : Nat} (h : ¬ a < b) : linesS l a b = [] := by
  unfold linesS
  rw [show b - a = 0 by omega, scanL, if_neg (by omega)]
theorem linesS_step (l : List UInt8) {a b : Nat} (h : a < b) (hb : b ≤ l.length) : linesS l a b = firstS l a b :: linesS l (firstS l a b).n b := by
  have hl := partS_len l (a := a) hb
  have hfl := feedI_le (partS l a b)
  by_cases hf : feedI (partS l a b) < b - a
  · have e1 := feedI_at (l := partS l a b) (by omega)
    rw [partS_at l hf] at e1
    have hsk := scanL_skip l (feedI (partS l a b)) (b - a - feedI (partS l a b)) a a (fun j h1 h2 => by
      have := feedI_ahead (l := partS l a b) (j := j - a) (by omega)
      rw [partS_at l (by omega), show a + (j - a) = j by omega] at this
      exact this)
    have hF : firstS l a b = ⟨a, endA l a (a + feedI (partS l a b)), a + feedI (partS l a b) + 1⟩ := by unfold firstS; rw [if_pos hf]
    rw [hF]
    unfold linesS
    rw [show b - a = feedI (partS l a b) + (b - a - feedI (partS l a b)) by omega, hsk]
    rw [show b - a - feedI (partS l a b) = (b - (a + feedI (partS l a b) + 1)) + 1 by omega, scanL, if_pos e1]
  · have hF : firstS l a b = ⟨a, b, b⟩ := by unfold firstS; rw [if_neg hf]
    have hsk := scanL_skip l (b - a) 0 a a (fun j h1 h2 => by
      have := feedI_ahead (l := partS l a b) (j := j - a) (by omega)
      rw [partS_at l (by omega), show a + (j - a) = j by omega] at this
      exact this)
    rw [hF]
    show linesS l a b = ⟨a, b, b⟩ :: linesS l b b
    rw [linesS_nil l (show ¬ b < b by omega)]
    unfold linesS
    rw [show b - a = (b - a) + 0 by omega, hsk, scanL, if_pos (by omega), show a + (b - a) = b by omega]
theorem endA_le (l : List UInt8) (a i : Nat) : endA l a i ≤ i := by unfold endA; split <;> omega
theorem endA_ge (l : List UInt8) {a i : Nat} (h : a ≤ i) : a ≤ endA l a i := by unfold endA; split <;> omega
theorem endA_far (l : List UInt8) (a i : Nat) : i ≤ endA l a i + 1 := by unfold endA; split <;> omega
theorem firstS_bounds (l : List UInt8) {a b : Nat} (h : a < b) : (firstS l a b).f = a ∧ a ≤ (firstS l a b).t ∧ (firstS l a b).t ≤ (firstS l a b).n ∧ a < (firstS l a b).n ∧ (firstS l a b).n ≤ b ∧ (firstS l a b).n ≤ (firstS l a b).t + 2 := by
  unfold firstS
  split
  · have h1 := endA_le l a (a + feedI (partS l a b))
    have h2 := endA_ge l (Nat.le_add_right a (feedI (partS l a b)))
    have h3 := endA_far l a (a + feedI (partS l a b))
    refine ⟨rfl, h2, ?_, ?_, ?_, ?_⟩ <;> simp only <;> omega
  · exact ⟨rfl, Nat.le_of_lt h, Nat.le_refl _, h, Nat.le_refl _, Nat.le_add_right _ _⟩
theorem scanL_len (l : List UInt8) : ∀ (k a i : Nat), a ≤ i → (scanL l k a i).length ≤ k + (i - a)
  | 0, a, i, h => by
    rw [scanL]
    split
    · simp only [List.length_cons, List.length_nil]; omega
    · simp
  | k + 1, a, i, h => by
    rw [scanL]
    split
    · have := scanL_len l k (i + 1) (i + 1) (Nat.le_refl _)
      rw [List.length_cons]
      omega
    · have := scanL_len l k a (i + 1) (by omega)
      omega
theorem linesS_len (l : List UInt8) (a b : Nat) : (linesS l a b).length ≤ b - a := by
  have := scanL_len l (b - a) a a (Nat.le_refl _)
  unfold linesS
  omega
theorem indexByte_feed : ∀ l : List UInt8, Lib.indexByte l 10 = if feedI l < l.length then (feedI l : Int) else -1
  | [] => rfl
  | c :: l => by
    have ih := indexByte_feed l
    unfold Lib.indexByte
    have e : feedI (c :: l) = if c == 10 then 0 else feedI l + 1 := by
      unfold feedI
      rw [List.findIdx_cons]
      cases c == 10 <;> rfl
    cases h : c == 10
    · have e' : feedI (c :: l) = feedI l + 1 := by rw [e, h]; rfl
      rw [e', List.length_cons, ih]
      simp only [Bool.false_eq_true, if_false]
      by_cases h1 : feedI l < l.length
      · rw [if_pos h1, if_neg (show ¬ ((feedI l : Int) == -1) = true by simp), if_pos (show feedI l + 1 < l.length + 1 by omega)]
        omega
      · rw [if_neg h1, if_neg (show ¬ feedI l + 1 < l.length + 1 by omega)]
        rfl
    · have e' : feedI (c :: l) = 0 := by rw [e, h]; rfl
      rw [e', List.length_cons, if_pos (show 0 < l.length + 1 by omega)]
      simp
end Go.Proofs.YtkmgflnmffdhjaaGreatDoor

/- Lines that are put together, in plain words. -/
namespace Go.Proofs.YtkmgflnmffdhjaaGreatDoor
open Go Go.RowKit

def textOf (b : List UInt8) (x : Ln) : List UInt8 := partS b x.f x.t
end Go.Proofs.YtkmgflnmffdhjaaGreatDoor

/- Lines in plain words, more of it: where feeds stand. (These laws lie in XLinesK, too: take one of the two.) -/
namespace Go.Proofs.YtkmgflnmffdhjaaGreatDoor
open Go Go.RowKit

end Go.Proofs.YtkmgflnmffdhjaaGreatDoor

/- Fields of a header in plain words. No program. -/
namespace Go.Proofs.YtkmgflnmffdhjaaGreatDoor
open Go Go.RowKit

/-- A field: its name, where it begins, where its body begins, where it ends. -/
structure Fld where
  nm : List UInt8
  f : Nat
  b : Nat
  t : Nat
def nameB (c : UInt8) : Bool := decide (33 ≤ c.toNat ∧ c.toNat ≤ 126)
def namedB (l : List UInt8) : Bool := l.all nameB && !l.isEmpty
def colI (l : List UInt8) : Nat := l.findIdx (· == 58)
def nameS (t : List UInt8) : List UInt8 := Lib.trimRightS (t.take (colI t)) [32, 9]
/-- What a line begins. -/
def begunS (l : List UInt8) (x : Ln) : Option Fld :=
  if colI (textOf l x) < (textOf l x).length ∧ namedB (nameS (textOf l x)) = true then some ⟨nameS (textOf l x), x.f, x.f + colI (textOf l x) + 1, x.n⟩ else none
def onB (l : List UInt8) (x : Ln) : Bool := blk (l.getD x.f 0)
def farF (x : Ln) (o : Option Fld) : Option Fld := o.map fun f => { f with t := x.n }
/-- The fields, one of them begun (or none), lines to go. -/
def goL (l : List UInt8) : Option Fld → List Ln → List Fld
  | o, [] => o.toList
  | o, x :: r => if onB l x = true then goL l (farF x o) r else o.toList ++ goL l (begunS l x) r
def fieldsL (l : List UInt8) : List Ln → List Fld
  | [] => []
  | x :: r => goL l (begunS l x) r

theorem goL_on {l : List UInt8} {x : Ln} (h : onB l x = true) (o : Option Fld) (r : List Ln) : goL l o (x :: r) = goL l (farF x o) r := by rw [goL, if_pos h]
theorem goL_off {l : List UInt8} {x : Ln} (h : onB l x = false) (o : Option Fld) (r : List Ln) : goL l o (x :: r) = o.toList ++ fieldsL l (x :: r) := by
  rw [goL, if_neg (by rw [h]; decide)]
  rfl
theorem colI_at {t : List UInt8} (h : colI t < t.length) : t.getD (colI t) 0 = 58 := by
  have h1 := List.findIdx_getElem (p := (· == (58 : UInt8))) (w := h)
  rw [List.getD_eq_getElem?_getD, List.getElem?_eq_getElem h]
  exact eq_of_beq h1
theorem textOf_len {l : List UInt8} {x : Ln} (h : x.t ≤ l.length) : (textOf l x).length = x.t - x.f := partS_len l h
theorem textOf_at {l : List UInt8} {x : Ln} {j : Nat} (h : j < x.t - x.f) : (textOf l x).getD j 0 = l.getD (x.f + j) 0 := partS_at l h

/-- Lines that stand one behind the other, from a on, up to b. -/
def chainL : Nat → Nat → List Ln → Prop
  | a, b, [] => a ≤ b
  | a, b, x :: r => x.f = a ∧ x.f ≤ x.t ∧ x.t ≤ x.n ∧ chainL x.n b r
theorem chainL_le : ∀ {ls : List Ln} {a b : Nat}, chainL a b ls → a ≤ b
  | [], _, _, h => h
  | x :: r, a, b, h => by
    obtain ⟨h1, h2, h3, h4⟩ := h
    have := chainL_le h4
    omega
theorem chainL_take : ∀ {ls : List Ln} {a b : Nat} (k : Nat), chainL a b ls → chainL a b (ls.take k)
  | [], _, _, k, h => by rw [List.take_nil]; exact h
  | x :: r, a, b, 0, h => chainL_le h
  | x :: r, a, b, k + 1, h => by
    obtain ⟨h1, h2, h3, h4⟩ := h
    exact ⟨h1, h2, h3, chainL_take k h4⟩
theorem chainL_lines (l : List UInt8) : ∀ (q a b : Nat), b - a ≤ q → a ≤ b → b ≤ l.length → chainL a b (linesS l a b)
  | q, a, b, hq, hab, hb => by
    rcases Nat.lt_or_ge a b with h | h
    · have hF := firstS_bounds l h
      rw [linesS_step l h hb]
      refine ⟨hF.1, by rw [hF.1]; exact hF.2.1, hF.2.2.1, ?_⟩
      cases q with
      | zero => omega
      | succ q => exact chainL_lines l q _ b (by have := hF.2.2.2.1; omega) hF.2.2.2.2.1 hb
    · rw [linesS_nil l (by omega)]
      exact hab
/-- Ahead of the line that ends the head. -/
theorem chainL_head : ∀ {ls : List Ln} {a b : Nat} (k : Nat) (h : k < ls.length), chainL a b ls → chainL a (ls[k]).n (ls.take k)
  | [], _, _, k, hk, _ => by simp at hk
  | x :: r, a, b, 0, _, h => by
    obtain ⟨h1, h2, h3, _⟩ := h
    show a ≤ x.n
    omega
  | x :: r, a, b, k + 1, hk, h => by
    obtain ⟨h1, h2, h3, h4⟩ := h
    exact ⟨h1, h2, h3, chainL_head k (by simpa using hk) h4⟩
theorem chainL_at : ∀ {ls : List Ln} {a b : Nat} (k : Nat) (h : k < ls.length), chainL a b ls → a ≤ ls[k].f ∧ ls[k].f ≤ ls[k].t ∧ ls[k].t ≤ ls[k].n ∧ ls[k].n ≤ b
  | [], _, _, k, hk, _ => by simp at hk
  | x :: r, a, b, 0, _, h => by
    obtain ⟨h1, h2, h3, h4⟩ := h
    have := chainL_le h4
    exact ⟨by show a ≤ x.f; omega, h2, h3, this⟩
  | x :: r, a, b, k + 1, hk, h => by
    obtain ⟨h1, h2, h3, h4⟩ := h
    have := chainL_at k (by simpa using hk) h4
    refine ⟨?_, this.2⟩
    have h5 := this.1
    simp only [List.getElem_cons_succ]
    omega

/-- A field as it is told: its colon, its name. -/
def goodF (l : List UInt8) (x : Fld) : Prop := x.f < x.b ∧ x.b ≤ x.t ∧ namedB x.nm = true ∧ x.nm.length ≤ l.length ∧ l.getD (x.b - 1) 0 = 58
/-- Fields that stand in order, from a on, up to b. -/
def chainF (l : List UInt8) : Nat → Nat → List Fld → Prop
  | a, b, [] => a ≤ b
  | a, b, x :: r => a ≤ x.f ∧ goodF l x ∧ chainF l x.t b r
theorem chainF_le {l : List UInt8} : ∀ {fs : List Fld} {a b : Nat}, chainF l a b fs → a ≤ b
  | [], _, _, h => h
  | x :: r, a, b, h => by
    obtain ⟨h1, ⟨h2, h3, _⟩, h4⟩ := h
    have := chainF_le h4
    omega
theorem chainF_all {l : List UInt8} : ∀ {fs : List Fld} {a b : Nat}, chainF l a b fs → ∀ x ∈ fs, goodF l x ∧ x.t ≤ b
  | [], _, _, _ => fun _ h => by cases h
  | x :: r, a, b, h => by
    obtain ⟨_, h2, h3⟩ := h
    intro y hy
    rcases List.mem_cons.1 hy with rfl | hy
    · exact ⟨h2, chainF_le h3⟩
    · exact chainF_all h3 y hy
theorem nameS_len (t : List UInt8) : (nameS t).length ≤ t.length := by
  unfold nameS Lib.trimRightS
  have h5 := (List.dropWhile_suffix (p := fun b => ([32, 9] : List UInt8).contains b) (l := (t.take (colI t)).reverse)).length_le
  simp only [List.length_reverse, List.length_take] at h5 ⊢
  omega
theorem begunS_some {l : List UInt8} {x : Ln} {f : Fld} (hx : x.f ≤ x.t) (hxn : x.t ≤ x.n) (hl : x.t ≤ l.length) (h : begunS l x = some f) : f.f = x.f ∧ f.t = x.n ∧ goodF l f := by
  unfold begunS at h
  split at h
  · next hc =>
    obtain ⟨h1, h2⟩ := hc
    obtain rfl := Option.some.inj h
    have hlen := textOf_len (x := x) hl
    have h3 := colI_at h1
    rw [textOf_at (by omega)] at h3
    have h4 := nameS_len (textOf l x)
    refine ⟨rfl, rfl, by simp only; omega, by simp only; omega, h2, by simp only; omega, ?_⟩
    simp only [Nat.add_sub_cancel]
    exact h3
  · cases h
theorem goodF.far {l : List UInt8} {x : Fld} (h : goodF l x) {n : Nat} (hn : x.t ≤ n) : goodF l { x with t := n } := by
  obtain ⟨h1, h2, h3, h4, h5⟩ := h
  exact ⟨h1, by simp only; omega, h3, h4, h5⟩
/-- One that is begun stands ahead of the lines to go. -/
theorem goL_chain (l : List UInt8) : ∀ (ls : List Ln) (o : Option Fld) (a c b : Nat), b ≤ l.length → (∀ f, o = some f → a ≤ f.f ∧ goodF l f ∧ f.t ≤ c) → a ≤ c → chainL c b ls → chainF l a b (goL l o ls)
  | [], o, a, c, b, _, ho, hac, hc => by
    have hcb : c ≤ b := hc
    cases o with
    | none => exact Nat.le_trans hac hcb
    | some f =>
      obtain ⟨h1, h2, h3⟩ := ho f rfl
      exact ⟨h1, h2, by show f.t ≤ b; omega⟩
  | x :: r, o, a, c, b, hb, ho, hac, hc => by
    obtain ⟨h1, h2, h3, h4⟩ := hc
    have hxb := chainL_le h4
    by_cases hon : onB l x = true
    · rw [goL_on hon]
      refine goL_chain l r _ a x.n b hb ?_ (by omega) h4
      intro f hf
      cases o with
      | none => cases hf
      | some g =>
        obtain rfl := Option.some.inj hf
        obtain ⟨e1, e2, e3⟩ := ho g rfl
        exact ⟨e1, e2.far (by omega), Nat.le_refl _⟩
    · have hoff : onB l x = false := by simpa using hon
      rw [goL_off hoff]
      have ih : ∀ a', a' ≤ c → chainF l a' b (fieldsL l (x :: r)) := by
        intro a' ha'
        show chainF l a' b (goL l (begunS l x) r)
        refine goL_chain l r _ a' x.n b hb ?_ (by omega) h4
        intro f hf
        obtain ⟨e1, e2, e3⟩ := begunS_some h2 h3 (by omega) hf
        exact ⟨by omega, e3, by omega⟩
      cases o with
      | none => exact ih a (by omega)
      | some f =>
        obtain ⟨e1, e2, e3⟩ := ho f rfl
        exact ⟨e1, e2, ih _ (by omega)⟩
theorem fieldsL_chain (l : List UInt8) {ls : List Ln} {a b : Nat} (hb : b ≤ l.length) (h : chainL a b ls) : chainF l a b (fieldsL l ls) := by
  cases ls with
  | nil => exact h
  | cons x r =>
    obtain ⟨h1, h2, h3, h4⟩ := h
    have hxb := chainL_le h4
    refine goL_chain l r _ a x.n b hb ?_ (by omega) h4
    intro f hf
    obtain ⟨e1, e2, e3⟩ := begunS_some h2 h3 (by omega) hf
    exact ⟨by omega, e3, by omega⟩
theorem goL_len (l : List UInt8) : ∀ (ls : List Ln) (o : Option Fld), (goL l o ls).length ≤ ls.length + 1
  | [], o => by cases o <;> simp [goL]
  | x :: r, o => by
    by_cases hon : onB l x = true
    · rw [goL_on hon]
      have := goL_len l r (farF x o)
      rw [List.length_cons]
      omega
    · have hoff : onB l x = false := by simpa using hon
      rw [goL_off hoff]
      have := goL_len l r (begunS l x)
      have e : (fieldsL l (x :: r)).length = (goL l (begunS l x) r).length := rfl
      have : o.toList.length ≤ 1 := by cases o <;> simp
      rw [List.length_append, List.length_cons, e]
      omega
theorem fieldsL_len (l : List UInt8) (ls : List Ln) : (fieldsL l ls).length ≤ ls.length := by
  cases ls with
  | nil => exact Nat.le_refl _
  | cons x r => exact goL_len l r _
end Go.Proofs.YtkmgflnmffdhjaaGreatDoor

/- Contracts of package lines, and of the document's: Within, Text. -/
namespace Go.Proofs.YtkmgflnmffdhjaaGreatDoor
open Go Go.RowKit

def withinB (f t n : Int) : Bool := decide (0 ≤ f ∧ f ≤ t ∧ t ≤ n)
theorem withinB_yes {f t n : Int} (h : 0 ≤ f ∧ f ≤ t ∧ t ≤ n) : withinB f t n = true := decide_eq_true h
theorem withinB_no {f t n : Int} (h : ¬ (0 ≤ f ∧ f ≤ t ∧ t ≤ n)) : withinB f t n = false := decide_eq_false h

theorem within_any (f t n : Int) (w : World) : Calls Tryz.prog 75 #[.agg #[.int .i64 f, .int .i64 t], .int .i64 n] w fun e w' => e = .returned (.bool (withinB f t n)) ∧ Below w.heap.size w w' := by
  by_cases h1 : 0 ≤ f
  · by_cases h2 : f ≤ t
    · by_cases h3 : t ≤ n
      · have HE : Hid (withinB f t n = true) := withinB_yes ⟨h1, h2, h3⟩
        go_enter Tryz.func75, Tryz.ntmps75
        go_wp2
        go_ret
        exact ⟨ret_bool (by rw [HE.out]), (Below.refl _ _).alloc (Nat.le_refl _) _⟩
      · have HE : Hid (withinB f t n = false) := withinB_no (fun h => h3 h.2.2)
        go_enter Tryz.func75, Tryz.ntmps75
        go_wp2
        go_ret
        exact ⟨ret_bool (by rw [HE.out]), (Below.refl _ _).alloc (Nat.le_refl _) _⟩
    · have HE : Hid (withinB f t n = false) := withinB_no (fun h => h2 h.2.1)
      go_enter Tryz.func75, Tryz.ntmps75
      go_wp2
      go_ret
      exact ⟨ret_bool (by rw [HE.out]), (Below.refl _ _).alloc (Nat.le_refl _) _⟩
  · have HE : Hid (withinB f t n = false) := withinB_no (fun h => h1 h.1)
    go_enter Tryz.func75, Tryz.ntmps75
    go_wp2
    go_ret
    exact ⟨ret_bool (by rw [HE.out]), (Below.refl _ _).alloc (Nat.le_refl _) _⟩

theorem box2_cells {W W' : World} {t : TypeId} {a b : Value} (h : Below (W.alloc (.cells #[a, b] t)).heap.size (W.alloc (.cells #[a, b] t)) W') :
    W'.cell? ⟨W.heap.size, 0, none⟩ = some a ∧ W'.cell? ⟨W.heap.size, 1, none⟩ = some b := by
  have e : W'.heap[W.heap.size]? = some (.cells #[a, b] t (0, 0)) := (h.block _ (by simp)).trans (heap_alloc_new W _)
  simp [World.cell?, e]
theorem box3_cells {W W' : World} {t : TypeId} {a b c : Value} (h : Below (W.alloc (.cells #[a, b, c] t)).heap.size (W.alloc (.cells #[a, b, c] t)) W') :
    W'.cell? ⟨W.heap.size, 0, none⟩ = some a ∧ W'.cell? ⟨W.heap.size, 1, none⟩ = some b ∧ W'.cell? ⟨W.heap.size, 2, none⟩ = some c := by
  have e : W'.heap[W.heap.size]? = some (.cells #[a, b, c] t (0, 0)) := (h.block _ (by simp)).trans (heap_alloc_new W _)
  simp [World.cell?, e]

/-- A cut of bytes that came in is what it says. -/
theorem sliceAt.cut {W : World} {ao : Option Addr} {l : List UInt8} (h : sliceAt W ao l) (F T : Nat) : sliceAt W (ao.map fun x => x.add F) (partS l F T) := by
  rcases h with rfl | ⟨b, off, rfl, hlt, hc⟩
  · exact .inl (by simp [partS])
  · show sliceAt W (some ((⟨b, off, none⟩ : Addr).add F)) _
    rw [Addr.add_lit]
    exact (sliceAt.drop (k := F) (.inr ⟨b, off, rfl, hlt, hc⟩)).take _
theorem cut_string {W : World} {ao : Option Addr} {l : List UInt8} {cap F T : Nat} (hs : sliceAt W ao l) (h1 : F ≤ T) (h2 : T ≤ l.length) (h3 : l.length ≤ cap) (h4 : cap ≤ maxLen) :
    (convert 22 9 (.slice (ao.map fun x => x.add F) (T - F) (cap - F))).run Tryz.prog W = .ok (.string ⟨(partS l F T).toArray⟩) W := by
  have := bytesArg_string (v := .slice (ao.map fun x => x.add F) (T - F) (cap - F)) (l := partS l F T) (W := W)
    ⟨_, cap - F, by rw [partS_len l h2], by rw [partS_len l h2]; omega, by omega, hs.cut F T⟩
  exact this
theorem cut_string0 {W : World} {ao : Option Addr} {l : List UInt8} {F T : Nat} (h1 : F ≤ T) (h2 : T ≤ l.length) (h3 : l.length ≤ F) :
    (convert 22 9 (.slice ao (T - F) 0)).run Tryz.prog W = .ok (.string ⟨(partS l F T).toArray⟩) W := by
  have e : partS l F T = [] := List.eq_nil_of_length_eq_zero (by rw [partS_len l h2]; omega)
  rw [e, show T - F = 0 by omega]
  exact bytesArg_string (v := .slice ao 0 0) (l := []) (W := W) ⟨_, 0, rfl, Nat.le_refl _, Nat.zero_le _, .inl rfl⟩
end Go.Proofs.YtkmgflnmffdhjaaGreatDoor

/- Contracts of package lines: Text. -/
namespace Go.Proofs.YtkmgflnmffdhjaaGreatDoor
open Go Go.RowKit

def textS (l : List UInt8) (f t : Int) : List UInt8 := if withinB f t l.length = true then partS l f.toNat t.toNat else []
theorem textS_nat (l : List UInt8) {f t : Nat} (h1 : f ≤ t) (h2 : t ≤ l.length) : textS l f t = partS l f t := by
  unfold textS
  rw [withinB_yes (by omega), if_pos rfl]
  rfl
theorem textS_no (l : List UInt8) {f t : Int} (h : withinB f t l.length = false) : textS l f t = [] := by
  unfold textS
  rw [h]
  rfl

set_option maxHeartbeats 1000000 in
theorem text_any (v : Value) (l : List UInt8) (f t n : Int) (w : World) (hv : bytesArg w v l) :
    Calls Tryz.prog 78 #[v, .agg #[.int .i64 f, .int .i64 t, .int .i64 n]] w fun e w' => e = .returned (.string ⟨(textS l f t).toArray⟩) ∧ Below w.heap.size w w' := by
  obtain ⟨ao, cap, rfl, hc, hm, hs⟩ := hv
  rcases Bool.eq_false_or_eq_true (withinB f t l.length) with hw | hw
  · have hw' := of_decide_eq_true hw
    obtain ⟨F, rfl⟩ : ∃ F : Nat, f = F := ⟨f.toNat, by omega⟩
    obtain ⟨T, rfl⟩ : ∃ T : Nat, t = T := ⟨t.toNat, by omega⟩
    have hft : F ≤ T := by omega
    have htl : T ≤ l.length := by omega
    have HW := Lib.hid (within_any (F : Int) (T : Int) (l.length : Int))
    have HE := Lib.hid hw
    have HS : Hid (sliceAt w ao l) := hs
    clear hw hw' hs
    go_enter Tryz.func78, Tryz.ntmps78
    go_wp2_with fail
    with_reducible refine (HW.out _).mono ?_
    rintro e w1 ⟨rfl, hb1⟩
    rw [HE.out]
    have HB1 := Lib.hid hb1
    obtain ⟨c0, c1, _⟩ := box3_cells hb1
    clear hb1
    have HB : Hid (Below w.heap.size w w1) := ((Below.refl _ _).alloc (Nat.le_refl _) _).trans (HB1.out.mono (by simp))
    have HT : Hid (textS l (F : Int) (T : Int) = partS l F T) := textS_nat l hft htl
    by_cases hcF : cap = F
    · subst hcF
      have hcv := cut_string0 (W := w1) (ao := ao) hft htl hc
      go_wp2
      go_ret
      exact ⟨ret_str (by rw [HT.out]), HB.out⟩
    · have hcv := cut_string (sliceAt.below HS.out HB.out) hft htl hc hm
      go_wp2
      go_ret
      exact ⟨ret_str (by rw [HT.out]), HB.out⟩
  · have HW := Lib.hid (within_any f t (l.length : Int))
    have HE := Lib.hid hw
    have HT := Lib.hid (textS_no l hw)
    clear hw hs
    go_enter Tryz.func78, Tryz.ntmps78
    go_wp2_with fail
    with_reducible refine (HW.out _).mono ?_
    rintro e w1 ⟨rfl, hb1⟩
    rw [HE.out]
    have HB : Hid (Below w.heap.size w w1) := ((Below.refl _ _).alloc (Nat.le_refl _) _).trans (hb1.mono (by simp))
    obtain ⟨c0, c1, _⟩ := box3_cells hb1
    clear hb1
    go_wp2
    go_ret
    exact ⟨ret_str (by rw [HT.out]), HB.out⟩
end Go.Proofs.YtkmgflnmffdhjaaGreatDoor

/- Contracts of package lines: first. -/
namespace Go.Proofs.YtkmgflnmffdhjaaGreatDoor
open Go Go.RowKit

def intsOf (l : List UInt8) : List Int := l.map fun b => (b.toNat : Int)
theorem intsOf_len (l : List UInt8) : (intsOf l).length = l.length := by simp [intsOf]
theorem bytesOf_ints (l : List UInt8) : Lib.bytesOf (intsOf l) = l := by
  unfold Lib.bytesOf intsOf
  rw [List.map_map]
  conv => rhs; rw [← List.map_id l]
  apply List.map_congr_left
  intro b _
  apply toNat_eq
  have := b.toNat_lt
  simp
theorem sliceAt.ints {w : World} {ao : Option Addr} {l : List UInt8} (h : sliceAt w ao l) : Lib.BytesIn w ao l.length (intsOf l) := by
  intro hn
  rcases h with rfl | ⟨b, off, rfl, hb, hc⟩
  · simp at hn
  · refine ⟨b, off, rfl, fun i hi => ?_⟩
    rw [hc i hi]
    simp [byteV, intsOf, List.getD, hi]
theorem index_any (b off n cap : Nat) (p : List UInt8) (w : World) (hn : p.length = n) (hs : sliceAt w (some ⟨b, off, none⟩) p) :
    Calls Tryz.prog 149 #[.slice (some ⟨b, off, none⟩) n cap, .int .u8 10] w fun e w' => e = .returned (.int .i64 (if feedI p < n then (feedI p : Int) else -1)) ∧ w = w' := by
  subst hn
  refine (Tryz.bytes_IndexByte_at ⟨b, off, none⟩ p.length cap (intsOf p) 10 w (intsOf_len p) fun i hi => ?_).mono ?_
  · rcases hs with rfl | ⟨b', off', e, _, hc⟩
    · simp at hi
    · cases e
      rw [Addr.add_lit, hc i hi]
      simp [byteV, intsOf, List.getD, hi]
  · rintro e w' ⟨rfl, rfl⟩
    refine ⟨ret_int ?_, rfl⟩
    rw [bytesOf_ints]
    exact indexByte_feed p
theorem suffix_13 (p : List UInt8) : Lib.hasSuffix p [13] = decide (0 < p.length ∧ p.getD (p.length - 1) 0 = 13) := by
  unfold Lib.hasSuffix
  rw [Bool.eq_iff_iff, List.isSuffixOf_iff_suffix, decide_eq_true_iff]
  constructor
  · rintro ⟨t, rfl⟩
    simp [List.getD]
  · rintro ⟨h1, h2⟩
    refine ⟨p.take (p.length - 1), ?_⟩
    rw [List.getD_eq_getElem?_getD, List.getElem?_eq_getElem (by omega)] at h2
    simp only [Option.getD_some] at h2
    have := List.take_succ_eq_append_getElem (l := p) (i := p.length - 1) (by omega)
    rw [h2, show p.length - 1 + 1 = p.length by omega, List.take_length] at this
    exact this.symm
theorem suffix_any (b o n c B : Nat) (p : List UInt8) (w : World) (hn : p.length = n) (hc : n ≤ c) (hm : c ≤ maxLen) (hs : sliceAt w (some ⟨b, o, none⟩) p) (hB : sliceAt w (some ⟨B, 0, none⟩) [13]) :
    Calls Tryz.prog 150 #[.slice (some ⟨b, o, none⟩) n c, .slice (some ⟨B, 0, none⟩) 1 1] w fun e w' =>
      e = .returned (.slice (some ⟨b, o, none⟩) (if 0 < n ∧ p.getD (n - 1) 0 = 13 then n - 1 else n) c) ∧ w = w' := by
  subst hn
  refine (Tryz.bytes_TrimSuffix_all (some ⟨b, o, none⟩) (some ⟨B, 0, none⟩) p.length c 1 1 (intsOf p) (intsOf [13]) w (intsOf_len p) (intsOf_len [13]) hc (by unfold maxLen at hm; omega) hs.ints hB.ints).mono ?_
  rintro e w' ⟨rfl, rfl⟩
  refine ⟨?_, rfl⟩
  show Ending.returned (Lib.bytesTrimSuffix b o p.length c (intsOf p) (intsOf [13])) = _
  unfold Lib.bytesTrimSuffix
  rw [bytesOf_ints, bytesOf_ints, suffix_13, intsOf_len]
  by_cases h : 0 < p.length ∧ p.getD (p.length - 1) 0 = 13
  · rw [if_pos h, decide_eq_true h, if_pos rfl]
    rfl
  · rw [if_neg h, decide_eq_false h]
    rfl

theorem ret_ln {x : Ln} {a b c : Int} (h1 : a = (x.f : Int)) (h2 : b = (x.t : Int)) (h3 : c = (x.n : Int)) : Ending.returned (.agg #[.int .i64 a, .int .i64 b, .int .i64 c]) = .returned (lnV x) := by subst h1 h2 h3; rfl
theorem firstS_feed (l : List UInt8) {F T K : Nat} (hK : K = feedI (partS l F T)) (h : K < T - F) :
    firstS l F T = ⟨F, F + (if 0 < K ∧ ((partS l F T).take K).getD (K - 1) 0 = 13 then K - 1 else K), F + K + 1⟩ := by
  subst hK
  unfold firstS
  rw [if_pos h]
  congr 1
  unfold endA
  by_cases h0 : 0 < feedI (partS l F T)
  · have e : ((partS l F T).take (feedI (partS l F T))).getD (feedI (partS l F T) - 1) 0 = l.getD (F + feedI (partS l F T) - 1) 0 := by
      rw [List.getD_eq_getElem?_getD, List.getElem?_take, if_pos (by omega), ← List.getD_eq_getElem?_getD, partS_at l (by omega)]
      congr 1
      omega
    rw [e]
    by_cases h1 : l.getD (F + feedI (partS l F T) - 1) 0 = 13
    · rw [if_pos ⟨by omega, h1⟩, if_pos ⟨h0, h1⟩]
      omega
    · rw [if_neg (fun h => h1 h.2), if_neg (fun h => h1 h.2)]
  · rw [if_neg (fun h => h0 (by omega)), if_neg (fun h => h0 h.1)]
theorem heap3 (w : World) (A B C : Obj) : (((w.alloc A).alloc B).alloc C).heap[w.heap.size + 1]? = some B :=
  (Below.heap_alloc _ C _ (by simp)).trans (heap_alloc2_new w A B)
theorem sliceAt_new' (w : World) (t : TypeId) (fr : Nat × Nat) (cs : Array Value) (B : Nat) (l : List UInt8) (hB : B = w.heap.size) (h : cs.toList = l.map byteV) : sliceAt (w.alloc (.cells cs t fr)) (some ⟨B, 0, none⟩) l := by
  subst hB
  exact sliceAt_new w t fr cs l h
set_option maxHeartbeats 1000000 in
theorem first_any (v : Value) (l : List UInt8) (F T : Nat) (w : World) (hv : bytesArg w v l) (hft : F < T) (htl : T ≤ l.length) (hbig : l.length ≤ 1048576) :
    Calls Tryz.prog 127 #[v, .agg #[.int .i64 (F : Int), .int .i64 (T : Int)]] w fun e w' => e = .returned (lnV (firstS l F T)) ∧ Below w.heap.size w w' := by
  obtain ⟨ao, cap, rfl, hc, hm, hs⟩ := hv
  obtain ⟨b, off, rfl, hbl, _⟩ := sliceAt.cell hs 0 (by omega)
  have hcut : sliceAt w (some ⟨b, off + F, none⟩) (partS l F T) := (sliceAt.drop (k := F) hs).take _
  have hpl := partS_len l (a := F) htl
  obtain ⟨K, hK⟩ : ∃ K, K = feedI (partS l F T) := ⟨_, rfl⟩
  have HS := Lib.hid hcut
  clear hs
  by_cases hk : K < T - F
  · have HX := Lib.hid (fun W h => index_any b (off + F) (T - F) (cap - F) (partS l F T) W hpl h)
    have HF := Lib.hid (firstS_feed l hK hk)
    obtain ⟨M, hM⟩ : ∃ M, M = (if 0 < K ∧ ((partS l F T).take K).getD (K - 1) 0 = 13 then K - 1 else K) := ⟨_, rfl⟩
    have hMK : M ≤ K := by rw [hM]; split <;> omega
    have HT := Lib.hid (fun B W h1 h2 => suffix_any b (off + F) K (cap - F) B ((partS l F T).take K) W (by rw [List.length_take]; omega) (by omega) (by omega) h1 h2)
    have HZ : Hid ((if K < T - F then (K : Int) else -1) = K) := if_pos hk
    rw [← hM] at HF HT
    rw [← hK] at HX
    have HSK : Hid (sliceAt w (some ⟨b, off + F, none⟩) ((partS l F T).take K)) := hcut.take K
    clear hM hK hcut hpl
    go_enter Tryz.func127, Tryz.ntmps127
    go_wp2_with fail
    with_reducible refine (HX.out _ (sliceAt.below HS.out (((Below.refl _ _).alloc (Nat.le_refl _) _).alloc (by simp) _))).mono ?_
    rintro e w1 ⟨rfl, rfl⟩
    rw [HZ.out]
    go_wp2_with fail
    with_reducible refine (HT.out _ _ ?h1 ?h2).mono ?_
    case h1 => exact sliceAt.below HSK.out ((((Below.refl _ _).alloc (Nat.le_refl _) _).alloc (by simp) _).alloc (by simp; omega) _)
    case h2 => exact sliceAt_new' _ _ _ _ _ [13] (by simp) rfl
    rintro e w2 ⟨rfl, rfl⟩
    go_wp2
    (try simp only [Exit.inBlock, Exit.then])
    refine bodyPost_ret (results_cell_row (P := Tryz.prog) Tryz.results127 _ _ (w.heap.size + 1) 104 _ (0, 0) _ rfl (heap3 _ _ _ _) Tryz.underlying104 rfl (by kernel_rfl)) rfl ?_
    have e := HF.out
    exact ⟨ret_ln (by rw [e]) (by rw [e]; simp only <;> omega) (by rw [e]; simp only <;> omega), (((Below.refl _ _).alloc (Nat.le_refl _) _).alloc (by simp) _).alloc (by simp; omega) _⟩
  · have HX := Lib.hid (fun W h => index_any b (off + F) (T - F) (cap - F) (partS l F T) W hpl h)
    have HZ : Hid ((if K < T - F then (K : Int) else -1) = -1) := if_neg hk
    have HF : Hid (firstS l F T = ⟨F, T, T⟩) := by unfold Hid firstS; rw [← hK, if_neg hk]
    rw [← hK] at HX
    clear hK hcut hpl hk
    go_enter Tryz.func127, Tryz.ntmps127
    go_wp2_with fail
    with_reducible refine (HX.out _ (sliceAt.below HS.out (((Below.refl _ _).alloc (Nat.le_refl _) _).alloc (by simp) _))).mono ?_
    rintro e w1 ⟨rfl, rfl⟩
    rw [HZ.out]
    go_wp2
    (try simp only [Exit.inBlock, Exit.then])
    refine bodyPost_ret (results_cell_row (P := Tryz.prog) Tryz.results127 _ _ (w.heap.size + 1) 104 _ (0, 0) _ rfl (heap_alloc2_new _ _ _) Tryz.underlying104 rfl (by kernel_rfl)) rfl ?_
    have e := HF.out
    exact ⟨ret_ln (by rw [e]) (by rw [e]) (by rw [e]), ((Below.refl _ _).alloc (Nat.le_refl _) _).alloc (by simp) _⟩
end Go.Proofs.YtkmgflnmffdhjaaGreatDoor

/- Contracts of package lines: the iterator each. -/
namespace Go.Proofs.YtkmgflnmffdhjaaGreatDoor
open Go Go.RowKit Go.Shelf
attribute [local go_sem] Oper.semAt_some

/-- The blocks that are a loop body's own: its variable's box, and the row of the slice that this holds. -/
def ownsB (A : Nat) (W : World) (k : Nat) : Prop := k = A ∨ ∃ u, W.cell? ⟨A, 0, none⟩ = some u ∧ u.ownBlock = some k
/-- What a round keeps: what lay below, and all cells but the body's own. -/
structure KeepK (n0 A : Nat) (W W' : World) : Prop where
  below : Below n0 W W'
  kept : ∀ k o, W.heap[k]? = some o → o.isCells = true → ¬ ownsB A W k → W'.heap[k]? = some o ∧ ¬ ownsB A W' k
  lie : (∀ k, ownsB A W k → k < W.heap.size) → ∀ k, ownsB A W' k → k < W'.heap.size
theorem KeepK.trans {n0 A : Nat} {X Y Z : World} (h : KeepK n0 A X Y) (k : KeepK n0 A Y Z) : KeepK n0 A X Z :=
  ⟨h.below.trans k.below, fun i o h1 h2 h3 => by
    obtain ⟨e1, e2⟩ := h.kept i o h1 h2 h3
    exact k.kept i o e1 h2 e2, fun hl => k.lie (h.lie hl)⟩
theorem ownsB_same {A : Nat} {W W' : World} (h : W'.heap[A]? = W.heap[A]?) (k : Nat) : ownsB A W' k ↔ ownsB A W k := by
  unfold ownsB
  have : W'.cell? ⟨A, 0, none⟩ = W.cell? ⟨A, 0, none⟩ := World.cell?_of_block h
  rw [this]
theorem KeepK.turn {n0 A : Nat} {w : World} (hn : n0 ≤ w.heap.size) (hA : A < w.heap.size) (W : World) (l : Nat) (o o' : Obj) (hl : w.heap.size ≤ l) (h : W.heap[l]? = some o) (h1 : o.isCells = false) (h2 : o.isWalk = false) : KeepK n0 A W (W.putObj l o') := by
  have hs : ∀ k, ownsB A (W.putObj l o') k ↔ ownsB A W k := ownsB_same (World.putObj_heap_other (by omega))
  refine ⟨belowK_b hn W l o o' hl h h1 h2, fun k u hk hc hno => ⟨?_, fun hh => hno ((hs k).1 hh)⟩, fun hl k hk => ?_⟩
  · refine (World.putObj_heap_other ?_).trans hk
    rintro rfl
    rw [h] at hk
    cases hk
    rw [h1] at hc
    cases hc
  · have := hl k ((hs k).1 hk)
    simpa using this
/-- New blocks alone. -/
theorem KeepK.grow {n0 A : Nat} {W W' : World} (hn : n0 ≤ W.heap.size) (hA : A < W.heap.size) (h : Below W.heap.size W W') : KeepK n0 A W W' := by
  have hs : ∀ k, ownsB A W' k ↔ ownsB A W k := ownsB_same (h.block A hA)
  refine ⟨h.mono hn, fun k u hk hc hno => ⟨(h.block k (Array.getElem?_eq_some_iff.1 hk).1).trans hk, fun hh => hno ((hs k).1 hh)⟩, fun hl k hk => ?_⟩
  have := hl k ((hs k).1 hk)
  exact Nat.lt_of_lt_of_le this h.size
theorem below_grown {W W' : World} (h : Below W.heap.size W W') : W.grownBy W' none := ⟨h.os, h.tape, h.output, h.size, fun k hk _ => h.block k hk⟩

/-- What the iterator stands on. -/
structure Seat (wb : World) (A Bs Bb : Nat) (v : Value) (f t : Int) (W : World) : Prop where
  below : Below wb.heap.size wb W
  base : wb.heap.size ≤ W.heap.size
  span : W.heap[Bs]? = some (.cells #[.int .i64 f, .int .i64 t] 25 (0, 0))
  row : W.heap[Bb]? = some (.cells #[v] 22 (0, 0))
  nspan : ¬ ownsB A W Bs
  nrow : ¬ ownsB A W Bb
  lie : ∀ k, ownsB A W k → k < W.heap.size
theorem Seat.keep {wb : World} {A Bs Bb : Nat} {v : Value} {f t : Int} {W W' : World} (h : Seat wb A Bs Bb v f t W) (k : KeepK wb.heap.size A W W') : Seat wb A Bs Bb v f t W' := by
  obtain ⟨e1, e2⟩ := k.kept Bs _ h.span rfl h.nspan
  obtain ⟨e3, e4⟩ := k.kept Bb _ h.row rfl h.nrow
  exact ⟨h.below.trans k.below, Nat.le_trans h.base k.below.size, e1, e3, e2, e4, k.lie h.lie⟩
theorem Seat.own {wb : World} {A Bs Bb : Nat} {v : Value} {f t : Int} {W : World} (h : Seat wb A Bs Bb v f t W) : A < W.heap.size := h.lie A (.inl rfl)
theorem Seat.grow {wb : World} {A Bs Bb : Nat} {v : Value} {f t : Int} {W W' : World} (h : Seat wb A Bs Bb v f t W) (k : Below W.heap.size W W') : Seat wb A Bs Bb v f t W' := h.keep (.grow h.base h.own k)
theorem Seat.c0 {wb : World} {A Bs Bb : Nat} {v : Value} {f t : Int} {W : World} (h : Seat wb A Bs Bb v f t W) : W.cell? ⟨Bs, 0, none⟩ = some (.int .i64 f) := by simp [World.cell?, h.span]
theorem Seat.c1 {wb : World} {A Bs Bb : Nat} {v : Value} {f t : Int} {W : World} (h : Seat wb A Bs Bb v f t W) : W.cell? ⟨Bs, 1, none⟩ = some (.int .i64 t) := by simp [World.cell?, h.span]
theorem Seat.cb {wb : World} {A Bs Bb : Nat} {v : Value} {f t : Int} {W : World} (h : Seat wb A Bs Bb v f t W) : W.cell? ⟨Bb, 0, none⟩ = some v := by simp [World.cell?, h.row]

/-- The lines of a part, none if it isn't there. -/
def linesZ (l : List UInt8) (f t : Int) : List Ln := if withinB f t l.length = true then linesS l f.toNat t.toNat else []

set_option maxRecDepth 100000 in
set_option maxHeartbeats 2000000 in
theorem each1_in (n : Nat) (hn : 1 ≤ n) (Lp A Bs Bb : Nat) (wb : World) (v : Value) (l : List UInt8) (f t : Int) (hv : bytesArg wb v l) (hbig : l.length ≤ 1048576) (J Jx : List Ln → World → Prop)
    (W : World) (hJ : AbidesFrom W.heap.size J)
    (hY : ∀ pre x W1, J pre W1 → pre.length < l.length → YieldAt Fence.wide (n - 1) Tryz.prog Lp #[lnV x] W1 fun e W' =>
      (e = .returned (.bool true) ∧ J (pre ++ [x]) W' ∧ KeepK wb.heap.size A W1 W') ∨ (e = .returned (.bool false) ∧ Jx (pre ++ [x]) W'))
    (hS : Seat wb A Bs Bb v f t W) (h0 : J [] W) :
    CallsIn Fence.wide n Tryz.prog 126 #[.func (.yield Lp) #[] #[], .pointer (some ⟨Bs, 0, none⟩), .pointer (some ⟨Bb, 0, none⟩)] W fun e W' => (∃ v, e = .returned v) ∧
      ((∃ ys, ys = linesZ l f t ∧ J ys W') ∨ (∃ pre, Jx pre W')) := by
  obtain ⟨ao, cap, rfl, hc, hm, hs⟩ := hv
  have c0 := hS.c0
  have c1 := hS.c1
  have cb := hS.cb
  have HV : Hid (bytesArg wb (.slice ao l.length cap) l) := ⟨ao, cap, rfl, hc, hm, hs⟩
  have HSe := Lib.hid hS
  clear hS hs
  rcases Bool.eq_false_or_eq_true (withinB f t l.length) with hw | hw
  · have hw' := of_decide_eq_true hw
    obtain ⟨F, rfl⟩ : ∃ F : Nat, f = F := ⟨f.toNat, by omega⟩
    obtain ⟨T, rfl⟩ : ∃ T : Nat, t = T := ⟨t.toNat, by omega⟩
    have hft : F ≤ T := by omega
    have htl : T ≤ l.length := by omega
    have HW := Lib.hid (within_any (F : Int) (T : Int) (l.length : Int))
    have HE := Lib.hid hw
    have HL : Hid (linesZ l (F : Int) (T : Int) = linesS l F T) := by unfold Hid linesZ; rw [if_pos hw]; rfl
    clear hw hw'
    refine callsIn_of_wp Tryz.func126 rfl trivial ?_ rfl
    simp only [Tryz.ntmps126, List.size_toArray, List.length_cons, List.length_nil, Nat.reduceAdd, Nat.reduceSub, Array.replicate_succ, Array.replicate_zero, List.push_toArray, List.append_toArray, List.nil_append, List.cons_append]
    gi_wp2
    refine ⟨trivial, ?_⟩
    with_reducible refine (callsIn_wide.2 (HW.out _)).mono ?_
    rintro e w1 ⟨rfl, hb1⟩
    rw [HE.out]
    have HS1 := Lib.hid (HSe.out.grow hb1)
    have HJ1 : Hid (J [] w1) := hJ [] W w1 none h0 (below_grown hb1) (fun r e => by cases e)
    clear c0 c1 cb hb1
    have c0 := HS1.out.c0
    gi_wp2
    gi_loopw [4] (fun i wr => ∃ (a : Nat) (pre : List Ln), i = .int .i64 a ∧ F ≤ a ∧ a ≤ T ∧ Hid (linesS l F T = pre ++ linesS l a T) ∧ Hid (J pre wr) ∧ Hid (Seat wb A Bs Bb (.slice ao l.length cap) F T wr))
      (fun i _ => T - (intOf i).toNat)
    case atStart => exact ⟨F, [], rfl, Nat.le_refl _, hft, rfl, HJ1, HS1⟩
    case round =>
      obtain ⟨a, pre, rfl, h1, h2, HP, HJr, HSr⟩ := hrel
      have c1 := HSr.out.c1
      have cb := HSr.out.cb
      by_cases hlt : a < T
      · have HB3 : Hid (bytesArg wr (.slice ao l.length cap) l) := HV.out.below HSr.out.below
        have HF := Lib.hid (first_any _ l a T wr HB3.out hlt htl hbig)
        have HSt := Lib.hid (linesS_step l hlt htl)
        have HBo := Lib.hid (firstS_bounds l hlt)
        obtain ⟨x, hx⟩ : ∃ x, x = firstS l a T := ⟨_, rfl⟩
        rw [← hx] at HF HSt HBo
        have hlen : pre.length < l.length := by
          have e := HP.out
          rw [HSt.out] at e
          have e2 := congrArg List.length e
          have e3 := linesS_len l F T
          simp only [List.length_append, List.length_cons] at e2
          omega
        clear hx
        gi_wp2
        refine ⟨trivial, ?_⟩
        with_reducible refine (callsIn_wide.2 HF.out).mono ?_
        rintro e w2 ⟨rfl, hb2⟩
        simp only [lnV]
        have hb3 := hb2.alloc hb2.size (.cells #[.int .i64 (x.f : Int), .int .i64 (x.t : Int), .int .i64 (x.n : Int)] 104)
        have HS3 := Lib.hid (HSr.out.grow hb3)
        have HJ3 : Hid (J pre (w2.alloc (.cells #[.int .i64 (x.f : Int), .int .i64 (x.t : Int), .int .i64 (x.n : Int)] 104))) := hJ pre wr _ none HJr.out (below_grown hb3) (fun r e => by cases e)
        have HN3 : Hid (¬ ownsB A (w2.alloc (.cells #[.int .i64 (x.f : Int), .int .i64 (x.t : Int), .int .i64 (x.n : Int)] 104)) w2.heap.size) := by
          intro hh
          have h5 := HSr.out.lie _ ((ownsB_same (hb3.block A HSr.out.own) _).1 hh)
          have := hb2.size
          omega
        have HH3 : Hid ((w2.alloc (.cells #[.int .i64 (x.f : Int), .int .i64 (x.t : Int), .int .i64 (x.n : Int)] 104)).heap[w2.heap.size]? = some (.cells #[.int .i64 (x.f : Int), .int .i64 (x.t : Int), .int .i64 (x.n : Int)] 104 (0, 0))) := heap_alloc_new w2 _
        obtain ⟨fn, tmps, assign, body, hy, hR⟩ := hY pre x _ HJ3.out hlen
        have HR := Lib.hid hR
        dsimp only [lnV] at hy
        clear hb2 hb3 c1 cb hR
        gi_wp2
        refine HR.out.mono ?_
        rintro e W3 (⟨rfl, hJ4, hk4⟩ | ⟨rfl, hJx4⟩)
        · have HS4 := Lib.hid (HS3.out.keep hk4)
          have HJ4 := Lib.hid hJ4
          have hc5 : W3.cell? ⟨w2.heap.size, 2, none⟩ = some (.int .i64 (x.n : Int)) := by
            have := (hk4.kept _ _ HH3.out rfl HN3.out).1
            simp [World.cell?, this]
          clear hk4 hJ4
          gi_wp2
          go_roundw
          case rel =>
            obtain ⟨e1, e2, e3, e4, e5, e6⟩ := HBo.out
            exact ⟨x.n, pre ++ [x], rfl, by omega, by omega, by unfold Hid; rw [HP.out, HSt.out]; simp, HJ4, HS4⟩
          case measure =>
            obtain ⟨e1, e2, e3, e4, e5, e6⟩ := HBo.out
            simp [intOf]
            omega
        · gi_wp2
          refine bodyPost_ret (results_none rfl _ _ _) rfl ?_
          exact ⟨⟨_, rfl⟩, .inr ⟨_, hJx4⟩⟩
      · obtain rfl : a = T := by omega
        gi_wp2
        go_end0
        exact ⟨⟨_, rfl⟩, .inl ⟨pre, by rw [HL.out, HP.out, linesS_nil l (Nat.lt_irrefl _), List.append_nil], HJr.out⟩⟩
  · have HW := Lib.hid (within_any f t (l.length : Int))
    have HE := Lib.hid hw
    have HL : Hid (linesZ l f t = []) := by unfold Hid linesZ; rw [hw]; rfl
    clear hw
    refine callsIn_of_wp Tryz.func126 rfl trivial ?_ rfl
    simp only [Tryz.ntmps126, List.size_toArray, List.length_cons, List.length_nil, Nat.reduceAdd, Nat.reduceSub, Array.replicate_succ, Array.replicate_zero, List.push_toArray, List.append_toArray, List.nil_append, List.cons_append]
    gi_wp2
    refine ⟨trivial, ?_⟩
    with_reducible refine (callsIn_wide.2 (HW.out _)).mono ?_
    rintro e w1 ⟨rfl, hb1⟩
    rw [HE.out]
    have HJ1 : Hid (J [] w1) := hJ [] W w1 none h0 (below_grown hb1) (fun r e => by cases e)
    clear hb1
    gi_wp2
    refine bodyPost_ret (results_none rfl _ _ _) rfl ?_
    exact ⟨⟨_, rfl⟩, .inl ⟨[], HL.out.symm, HJ1.out⟩⟩
end Go.Proofs.YtkmgflnmffdhjaaGreatDoor

/- A law of my own, of no function: an append in a loop over an iterator, with where the new row lies. -/
namespace Go.Proofs.YtkmgflnmffdhjaaGreatDoor
open Go Go.RowKit

/-- Behind an append the row is the old one, or the heap's newest block. -/
theorem run_append_at {P : Program} (w : World) (base : Nat) (t ty e : TypeId) (i : TypeInfo) (z : Value) (size bytes : Nat) (ht : P.underlying t = some (.slice e)) (hi : P.info? e = some i) (hz : i.zero = some z)
    (hsize : i.size = size) (hby : i.bytes = bytes) (v : Value) (n : Nat) (xs : List Value) (hown : w.ownsRow base e size v n xs)
    (a : Addr) (m c : Nat) (news : List Value) (hl : news.length = m * size) (hnews : ∀ j u, news[j]? = some u → w.cell? (a.add j) = some u) (h1 : ∀ u ∈ news, u.oneCell' = true)
    (h63 : n + m ≤ maxLen) (hbytes : (n + m) * bytes ≤ 140737488355328) (hm : 0 < m) {v' : Value} {w' : World} (hr : (Builtin.append_ #[t, t] ty #[v, .slice (some a) m c]).run P w = .ok v' w') :
    v'.ownBlock = v.ownBlock ∨ v'.ownBlock = some w.heap.size := by
  subst hsize
  subst hby
  have hsmall : n + m ≤ 9223372036854775807 := by simp only [maxLen] at h63; omega
  rcases hown.2 with ⟨rfl, rfl⟩ | ⟨g, cap, cur, rfl, hbg, hg, hnc, hcm, hcs, htake⟩
  · have hr2 := run_append_nil (P := P) w t ty e i z ht hi hz a m c news hl hnews (by omega) (by omega) (by have hb := hbytes; simp only [Nat.zero_add] at hb; omega)
    rw [hr2] at hr
    cases hr
    exact .inr rfl
  · by_cases hroom : n + m ≤ cap
    · have hfit : n * i.size + news.length ≤ cur.size := by rw [hl, hcs, ← Nat.add_mul]; exact Nat.mul_le_mul_right _ hroom
      have hr2 := run_append_room (P := P) w t ty e i ht hi g n cap cur hg a m c news hl hnews h1 hroom hfit
      rw [hr2] at hr
      cases hr
      exact .inl rfl
    · have holds : ∀ j u, xs[j]? = some u → w.cell? ((⟨g, 0, none⟩ : Addr).add j) = some u := hown.cells (g := g) rfl
      have hr2 := run_append_grow (P := P) w t ty e i z ht hi hz ⟨g, 0, none⟩ n cap xs hown.1 holds a m c news hl hnews (by omega) (by omega) (growslice_fits (by omega) hbytes)
      rw [hr2] at hr
      cases hr
      exact .inr rfl
theorem wpListIn_append_at {F : Fence} {n : Nat} {P : Program} (w : World) {ops : Array Oper} {rest : List Oper} {o : Oper} {a : Act} {Q : Exit → Act → World → Prop}
    (hg : o.guard = none) (s x : Operand) (t : TypeId) (hop : o.op = Op.call { callee := Callee.builtin Builtin.append, args := #[s, x], argTypes := #[t, t] })
    (base : Nat) (e : TypeId) (i : TypeInfo) (z : Value) (size bytes : Nat) (h1 : P.underlying t = some (.slice e)) (h2 : P.info? e = some i) (h3 : i.zero = some z) (h4 : i.size = size) (h5 : i.bytes = bytes) (h6 : z.cells.size = size) (h7 : 0 < size)
    (v : Value) (k : Nat) (xs : List Value) (hs : a.eval s = v) (hown : w.ownsRow base e size v k xs) (ad : Addr) (m c : Nat) (news : List Value) (hx : a.eval x = .slice (some ad) m c) (hn : news.length = m * size)
    (hc : ∀ j u, news[j]? = some u → w.cell? (ad.add j) = some u) (h1c : ∀ u ∈ news, u.oneCell' = true) (b1 : k + m ≤ maxLen) (b2 : (k + m) * bytes ≤ 140737488355328) (b3 : base ≤ w.heap.size) (hm : 0 < m)
    (hK : ∀ v' w', w'.ownsRow base e size v' (k + m) (xs ++ news) → w.grownBy w' v.ownBlock → (v'.ownBlock = v.ownBlock ∨ v'.ownBlock = some w.heap.size) → wpListIn F n P ops Q rest (a.put o.dst v') w') :
    wpListIn F n P ops Q (o :: rest) a w := by
  refine wpListIn_plain hg fun K hK' => ?_
  obtain ⟨v', w', hrun, r1, r2, r3⟩ := run_append_own (P := P) w base t o.type e i z size bytes h1 h2 h3 h4 h5 h6 h7 v k xs hown ad m c news hn hc h1c b1 b2 b3
  have hat := run_append_at (P := P) w base t o.type e i z size bytes h1 h2 h3 h4 h5 v k xs hown ad m c news hn hc h1c b1 b2 hm hrun
  unfold Oper.wpIn
  refine ⟨?_, ?_⟩
  · simp [Oper.about, hop, resolve, Target.leads, Sem.run_pure]
  · rw [Oper.semAt_plain F _ _ (by rw [hop]; intro c hc'; cases hc')]
    simp [execOp, hop, resolve, invoke, builtin, hs, hx, hrun, Result.andThen]
    exact hK' _ _ (hK v' w' r1 r2 hat)
end Go.Proofs.YtkmgflnmffdhjaaGreatDoor
