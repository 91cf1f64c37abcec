/- Lines in plain words: where they begin, end, and where the next one begins. No program. -/
import Derived.Test.YtbphnlaoiikebaaGreatDoorGbParC
import Derived.Test.YtbphnlaoiikebaaGreatDoorShelf
import Derived.Test.YtbphnlaoiikebaaGreatDoorGbCharsM
import Derived.Lib.SlTrimSet
namespace Go.Proofs.YtbphnlaoiikebaaGreatDoor
open Go Go.RowKit

/-- A line: where it begins, where its text ends, where the next one begins. -/
structure Ln where
  f : Nat
  t : Nat
  n : Nat
def lnV (x : Ln) : Value := .agg #[.int .i64 (x.f : Int), .int .i64 (x.t : Int), .int .i64 (x.n : Int)]
def lnC (x : Ln) : List Value := [.int .i64 (x.f : Int), .int .i64 (x.t : Int), .int .i64 (x.n : Int)]
def endA (l : List UInt8) (a i : Nat) : Nat := if a < i ∧ l.getD (i - 1) 0 = 13 then i - 1 else i
/-- The lines from a on, i being looked at, so many bytes to go. -/
def scanL (l : List UInt8) : Nat → Nat → Nat → List Ln
  | 0, a, i => if a < i then [⟨a, i, i⟩] else []
  | k + 1, a, i => if l.getD i 0 = 10 then ⟨a, endA l a i, i + 1⟩ :: scanL l k (i + 1) (i + 1) else scanL l k a (i + 1)
def linesS (l : List UInt8) (a b : Nat) : List Ln := scanL l (b - a) a a
/-- Where the first feed stands. -/
def feedI (l : List UInt8) : Nat := l.findIdx (· == 10)
def partS (l : List UInt8) (a b : Nat) : List UInt8 := (l.drop a).take (b - a)
def firstS (l : List UInt8) (a b : Nat) : Ln :=
  if feedI (partS l a b) < b - a then ⟨a, endA l a (a + feedI (partS l a b)), a + feedI (partS l a b) + 1⟩ else ⟨a, b, b⟩

theorem feedI_le (l : List UInt8) : feedI l ≤ l.length := List.findIdx_le_length
theorem partS_len (l : List UInt8) {a b : Nat} (h : b ≤ l.length) : (partS l a b).length = b - a := by unfold partS; rw [List.length_take, List.length_drop]; omega
theorem partS_at (l : List UInt8) {a b j : Nat} (h : j < b - a) : (partS l a b).getD j 0 = l.getD (a + j) 0 := by
  unfold partS
  rw [List.getD_eq_getElem?_getD, List.getD_eq_getElem?_getD, List.getElem?_take, if_pos h, List.getElem?_drop]
theorem feedI_at {l : List UInt8} (h : feedI l < l.length) : l.getD (feedI l) 0 = 10 := by
  have h1 := List.findIdx_getElem (p := (· == (10 : UInt8))) (w := h)
  rw [List.getD_eq_getElem?_getD, List.getElem?_eq_getElem h]
  exact eq_of_beq h1
theorem feedI_ahead {l : List UInt8} {j : Nat} (h : j < feedI l) : l.getD j 0 ≠ 10 := by
  have h1 := List.not_of_lt_findIdx (p := (· == (10 : UInt8))) h
  have hl : j < l.length := Nat.lt_of_lt_of_le h (feedI_le l)
  rw [List.getD_eq_getElem?_getD, List.getElem?_eq_getElem hl]
  intro e
  simp at e
  simp [e] at h1
theorem scanL_skip (l : List UInt8) : ∀ (k n a i : Nat), (∀ j, i ≤ j → j < i + k → l.getD j 0 ≠ 10) → scanL l (k + n) a i = scanL l n a (i + k)
  | 0, n, a, i, _ => by rw [Nat.zero_add, Nat.add_zero]
  | k + 1, n, a, i, h => by
    rw [show k + 1 + n = (k + n) + 1 by omega, scanL, if_neg (h i (Nat.le_refl _) (by omega)), scanL_skip l k n a (i + 1) (fun j h1 h2 => h j (by omega) (by omega))]
    congr 1
    omega
theorem linesS_nil (l : List UInt8) {a b : Nat} (h : ¬ a < b) : linesS l a b = [] := by
  unfold linesS
  rw [show b - a = 0 by omega, scanL, if_neg (by omega)]
theorem linesS_step (l : List UInt8) {a b : Nat} (h : a < b) (hb : b ≤ l.length) : linesS l a b = firstS l a b :: linesS l (firstS l a b).n b := by
  have hl := partS_len l (a := a) hb
  have hfl := feedI_le (partS l a b)
  by_cases hf : feedI (partS l a b) < b - a
  · have e1 := feedI_at (l := partS l a b) (by omega)
    rw [partS_at l hf] at e1
    have hsk := scanL_skip l (feedI (partS l a b)) (b - a - feedI (partS l a b)) a a (fun j h1 h2 => by
      have := feedI_ahead (l := partS l a b) (j := j - a) (by omega)
      rw [partS_at l (by omega), show a + (j - a) = j by omega] at this
      exact this)
    have hF : firstS l a b = ⟨a, endA l a (a + feedI (partS l a b)), a + feedI (partS l a b) + 1⟩ := by unfold firstS; rw [if_pos hf]
    rw [hF]
    unfold linesS
    rw [show b - a = feedI (partS l a b) + (b - a - feedI (partS l a b)) by omega, hsk]
    rw [show b - a - feedI (partS l a b) = (b - (a + feedI (partS l a b) + 1)) + 1 by omega, scanL, if_pos e1]
  · have hF : firstS l a b = ⟨a, b, b⟩ := by unfold firstS; rw [if_neg hf]
    have hsk := scanL_skip l (b - a) 0 a a (fun j h1 h2 => by
      have := feedI_ahead (l := partS l a b) (j := j - a) (by omega)
      rw [partS_at l (by omega), show a + (j - a) = j by omega] at this
      exact this)
    rw [hF]
    show linesS l a b = ⟨a, b, b⟩ :: linesS l b b
    rw [linesS_nil l (show ¬ b < b by omega)]
    unfold linesS
    rw [show b - a = (b - a) + 0 by omega, hsk, scanL, if_pos (by omega), show a + (b - a) = b by omega]
theorem endA_le (l : List UInt8) (a i : Nat) : endA l a i ≤ i := by unfold endA; split <;> omega
theorem endA_ge (l : List UInt8) {a i : Nat} (h : a ≤ i) : a ≤ endA l a i := by unfold endA; split <;> omega
theorem endA_far (l : List UInt8) (a i : Nat) : i ≤ endA l a i + 1 := by unfold endA; split <;> omega
theorem firstS_bounds (l : List UInt8) {a b : Nat} (h : a < b) : (firstS l a b).f = a ∧ a ≤ (firstS l a b).t ∧ (firstS l a b).t ≤ (firstS l a b).n ∧ a < (firstS l a b).n ∧ (firstS l a b).n ≤ b ∧ (firstS l a b).n ≤ (firstS l a b).t + 2 := by
  unfold firstS
  split
  · have h1 := endA_le l a (a + feedI (partS l a b))
    have h2 := endA_ge l (Nat.le_add_right a (feedI (partS l a b)))
    have h3 := endA_far l a (a + feedI (partS l a b))
    refine ⟨rfl, h2, ?_, ?_, ?_, ?_⟩ <;> simp only <;> omega
  · exact ⟨rfl, Nat.le_of_lt h, Nat.le_refl _, h, Nat.le_refl _, Nat.le_add_right _ _⟩
theorem scanL_len (l : List UInt8) : ∀ (k a i : Nat), a ≤ i → (scanL l k a i).length ≤ k + (i - a)
  | 0, a, i, h => by
    rw [scanL]
    split
    · simp only [List.length_cons, List.length_nil]; omega
    · simp
  | k + 1, a, i, h => by
    rw [scanL]
    split
    · have := scanL_len l k (i + 1) (i + 1) (Nat.le_refl _)
      rw [List.length_cons]
      omega
    · have := scanL_len l k a (i + 1) (by omega)
      omega
theorem linesS_len (l : List UInt8) (a b : Nat) : (linesS l a b).length ≤ b - a := by
  have := scanL_len l (b - a) a a (Nat.le_refl _)
  unfold linesS
  omega
theorem indexByte_feed : ∀ l : List UInt8, Lib.indexByte l 10 = if feedI l < l.length then (feedI l : Int) else -1
  | [] => rfl
  | c :: l => by
    have ih := indexByte_feed l
    unfold Lib.indexByte
    have e : feedI (c :: l) = if c == 10 then 0 else feedI l + 1 := by
      unfold feedI
      rw [List.findIdx_cons]
      cases c == 10 <;> rfl
    cases h : c == 10
    · have e' : feedI (c :: l) = feedI l + 1 := by rw [e, h]; rfl
      rw [e', List.length_cons, ih]
      simp only [Bool.false_eq_true, if_false]
      by_cases h1 : feedI l < l.length
      · rw [if_pos h1, if_neg (show ¬ ((feedI l : Int) == -1) = true by simp), if_pos (show feedI l + 1 < l.length + 1 by omega)]
        omega
      · rw [if_neg h1, if_neg (show ¬ feedI l + 1 < l.length + 1 by omega)]
        rfl
    · have e' : feedI (c :: l) = 0 := by rw [e, h]; rfl
      rw [e', List.length_cons, if_pos (show 0 < l.length + 1 by omega)]
      simp
end Go.Proofs.YtbphnlaoiikebaaGreatDoor

/- Lines that are put together, in plain words. -/
namespace Go.Proofs.YtbphnlaoiikebaaGreatDoor
open Go Go.RowKit

def plainB (c : UInt8) : Bool := c != 10 && c != 13
theorem plainB_iff (c : UInt8) : plainB c = true ↔ c ≠ 10 ∧ c ≠ 13 := by simp [plainB]
def textOf (b : List UInt8) (x : Ln) : List UInt8 := partS b x.f x.t
/-- Whatever stands behind these bytes, ahead of it are just the lines with these texts. -/
def Joined (b : List UInt8) (want : List (List UInt8)) : Prop :=
  ∃ xs : List Ln, ∀ s, linesS (b ++ s) 0 (b ++ s).length = xs ++ linesS (b ++ s) b.length (b ++ s).length ∧ xs.map (textOf (b ++ s)) = want
theorem Joined.start : Joined [] [] := ⟨[], fun _ => ⟨rfl, rfl⟩⟩
theorem feedI_here {r s : List UInt8} (h : ∀ c ∈ r, c ≠ 10) : feedI (r ++ 10 :: s) = r.length := by
  unfold feedI
  induction r with
  | nil => rfl
  | cons c r ih =>
    rw [List.cons_append, List.findIdx_cons]
    have hc : (c == 10) = false := by simpa using h c (List.mem_cons_self ..)
    rw [hc]
    simp only [cond_false, List.length_cons]
    rw [ih (fun d hd => h d (List.mem_cons_of_mem _ hd))]
theorem feedI_none {r : List UInt8} (h : ∀ c ∈ r, c ≠ 10) : feedI r = r.length := by
  unfold feedI
  induction r with
  | nil => rfl
  | cons c r ih =>
    rw [List.findIdx_cons]
    have hc : (c == 10) = false := by simpa using h c (List.mem_cons_self ..)
    rw [hc]
    simp only [cond_false, List.length_cons]
    rw [ih (fun d hd => h d (List.mem_cons_of_mem _ hd))]
theorem partS_behind (p r : List UInt8) : partS (p ++ r) p.length (p ++ r).length = r := by
  unfold partS
  rw [List.drop_left, List.length_append, Nat.add_sub_cancel_left, List.take_length]
theorem partS_mid (p t s : List UInt8) : partS (p ++ (t ++ s)) p.length (p.length + t.length) = t := by
  unfold partS
  rw [List.drop_left, Nat.add_sub_cancel_left, List.take_left]
theorem getD_mid (p r : List UInt8) (i : Nat) : (p ++ r).getD (p.length + i) 0 = r.getD i 0 := by
  rw [List.getD_eq_getElem?_getD, List.getD_eq_getElem?_getD, List.getElem?_append_right (by omega), Nat.add_sub_cancel_left]
/-- One line with its end. -/
theorem line_here (p t s : List UInt8) (cr : Bool) (ht : ∀ c ∈ t, plainB c = true) :
    linesS (p ++ (t ++ (if cr then [13, 10] else [10]) ++ s)) p.length (p ++ (t ++ (if cr then [13, 10] else [10]) ++ s)).length =
      ⟨p.length, p.length + t.length, p.length + t.length + (if cr then 2 else 1)⟩ :: linesS (p ++ (t ++ (if cr then [13, 10] else [10]) ++ s)) (p.length + t.length + (if cr then 2 else 1)) (p ++ (t ++ (if cr then [13, 10] else [10]) ++ s)).length := by
  have h10 : ∀ c ∈ t, c ≠ 10 := fun c hc => ((plainB_iff c).1 (ht c hc)).1
  have h13 : ∀ c ∈ t, c ≠ 13 := fun c hc => ((plainB_iff c).1 (ht c hc)).2
  obtain ⟨B, hB⟩ : ∃ B, B = p ++ (t ++ (if cr then [13, 10] else [10]) ++ s) := ⟨_, rfl⟩
  have hlt : p.length < B.length := by rw [hB]; cases cr <;> simp <;> omega
  have hF : firstS B p.length B.length = ⟨p.length, p.length + t.length, p.length + t.length + (if cr then 2 else 1)⟩ := by
    have hp : partS B p.length B.length = t ++ (if cr then [13, 10] else [10]) ++ s := by rw [hB]; exact partS_behind _ _
    cases cr
    · have hfeed : feedI (partS B p.length B.length) = t.length := by
        rw [hp]
        have := feedI_here (r := t) (s := s) h10
        simpa using this
      unfold firstS
      rw [hfeed, if_pos (by rw [hB]; simp)]
      congr 1
      unfold endA
      rw [if_neg]
      rintro ⟨h1, h2⟩
      rw [hB, show p.length + t.length - 1 = p.length + (t.length - 1) by omega, getD_mid, List.getD_eq_getElem?_getD, List.append_assoc, List.getElem?_append_left (by omega), List.getElem?_eq_getElem (by omega)] at h2
      exact h13 _ (List.getElem_mem (by omega)) h2
    · have hfeed : feedI (partS B p.length B.length) = t.length + 1 := by
        rw [hp]
        have := feedI_here (r := t ++ [13]) (s := s) (by
          intro c hc
          rcases List.mem_append.1 hc with h | h
          · exact h10 c h
          · simp at h; subst h; decide)
        simpa using this
      unfold firstS
      rw [hfeed, if_pos (by rw [hB]; simp)]
      congr 1
      unfold endA
      rw [if_pos]
      · omega
      · refine ⟨by omega, ?_⟩
        rw [hB, show p.length + (t.length + 1) - 1 = p.length + t.length by omega, getD_mid, List.getD_eq_getElem?_getD, List.append_assoc, List.getElem?_append_right (by omega), Nat.sub_self]
        rfl
  rw [← hB, linesS_step B hlt (Nat.le_refl _), hF]
theorem Joined.step {b : List UInt8} {want : List (List UInt8)} (h : Joined b want) {t : List UInt8} (ht : ∀ c ∈ t, plainB c = true) (cr : Bool) : Joined (b ++ t ++ (if cr then [13, 10] else [10])) (want ++ [t]) := by
  obtain ⟨xs, hx⟩ := h
  refine ⟨xs ++ [⟨b.length, b.length + t.length, b.length + t.length + (if cr then 2 else 1)⟩], fun s => ?_⟩
  have e : b ++ t ++ (if cr then [13, 10] else [10]) ++ s = b ++ (t ++ (if cr then [13, 10] else [10]) ++ s) := by simp
  have el : (b ++ t ++ (if cr then [13, 10] else [10])).length = b.length + t.length + (if cr then 2 else 1) := by cases cr <;> simp <;> omega
  obtain ⟨h1, h2⟩ := hx (t ++ (if cr then [13, 10] else [10]) ++ s)
  rw [el, e]
  refine ⟨?_, ?_⟩
  · rw [h1, line_here b t s cr ht]
    simp
  · rw [List.map_append, h2]
    congr 1
    show [textOf _ _] = [t]
    congr 1
    unfold textOf
    rw [List.append_assoc]
    exact partS_mid b t _
theorem Joined.whole {b : List UInt8} {want : List (List UInt8)} (h : Joined b want) : (linesS b 0 b.length).map (textOf b) = want := by
  obtain ⟨xs, hx⟩ := h
  obtain ⟨h1, h2⟩ := hx []
  rw [List.append_nil] at h1 h2
  rw [h1, linesS_nil b (Nat.lt_irrefl _), List.append_nil]
  exact h2
theorem Joined.left {b : List UInt8} {want : List (List UInt8)} (h : Joined b want) {r : List UInt8} (hr : ∀ c ∈ r, plainB c = true) (h0 : r ≠ []) : (linesS (b ++ r) 0 (b ++ r).length).map (textOf (b ++ r)) = want ++ [r] := by
  obtain ⟨xs, hx⟩ := h
  obtain ⟨h1, h2⟩ := hx r
  have hpos := List.length_pos_iff.2 h0
  have hlt : b.length < (b ++ r).length := by rw [List.length_append]; omega
  have hF : firstS (b ++ r) b.length (b ++ r).length = ⟨b.length, (b ++ r).length, (b ++ r).length⟩ := by
    unfold firstS
    rw [partS_behind, feedI_none (fun c hc => ((plainB_iff c).1 (hr c hc)).1), if_neg (by rw [List.length_append]; omega)]
  rw [h1, linesS_step _ hlt (Nat.le_refl _), hF, linesS_nil _ (Nat.lt_irrefl _), List.map_append, h2]
  congr 1
  show [textOf _ _] = [r]
  congr 1
  exact partS_behind b r
end Go.Proofs.YtbphnlaoiikebaaGreatDoor

/- Lines in plain words, more of it: where feeds stand. (These laws lie in XLinesK, too: take one of the two.) -/
namespace Go.Proofs.YtbphnlaoiikebaaGreatDoor
open Go Go.RowKit

theorem firstS_plain (l : List UInt8) {a b k : Nat} (h1 : a ≤ k) (h2 : k < (firstS l a b).t) : ¬ l.getD k 0 = 10 := by
  have hp : k - a < feedI (partS l a b) ∧ k < b → ¬ l.getD k 0 = 10 := fun ⟨h, hb⟩ => by
    have := feedI_ahead h
    rw [partS_at l (by omega), show a + (k - a) = k by omega] at this
    exact this
  unfold firstS at h2
  by_cases hf : feedI (partS l a b) < b - a
  · rw [if_pos hf] at h2
    have := endA_le l a (a + feedI (partS l a b))
    simp only at h2
    exact hp ⟨by omega, by omega⟩
  · rw [if_neg hf] at h2
    simp only at h2
    exact hp ⟨by omega, h2⟩
theorem firstS_feedEnd (l : List UInt8) {a b : Nat} (hb : b ≤ l.length) (h : (firstS l a b).n < b) : l.getD ((firstS l a b).n - 1) 0 = 10 := by
  have hl := partS_len l (a := a) hb
  unfold firstS at h ⊢
  by_cases hf : feedI (partS l a b) < b - a
  · rw [if_pos hf] at h ⊢
    have := feedI_at (l := partS l a b) (by omega)
    rw [partS_at l hf] at this
    exact this
  · rw [if_neg hf] at h
    simp only at h
    omega
theorem linesS_pos (l : List UInt8) {a b : Nat} (h : 0 < (linesS l a b).length) : a < b := by
  rcases Nat.lt_or_ge a b with h1 | h1
  · exact h1
  · rw [linesS_nil l (by omega)] at h
    simp at h
theorem at_pre {pre r : List Ln} {x : Ln} {i : Nat} {ls : List Ln} (h : ls = pre ++ x :: r) (hi : i = pre.length) (hlt : i < ls.length) : ls[i] = x := by
  subst h hi
  simp

end Go.Proofs.YtbphnlaoiikebaaGreatDoor

/- Fields of a header in plain words. No program. -/
namespace Go.Proofs.YtbphnlaoiikebaaGreatDoor
open Go Go.RowKit

/-- A field: its name, where it begins, where its body begins, where it ends. -/
structure Fld where
  nm : List UInt8
  f : Nat
  b : Nat
  t : Nat
def nameB (c : UInt8) : Bool := decide (33 ≤ c.toNat ∧ c.toNat ≤ 126)
def namedB (l : List UInt8) : Bool := l.all nameB && !l.isEmpty
def colI (l : List UInt8) : Nat := l.findIdx (· == 58)
def nameS (t : List UInt8) : List UInt8 := Lib.trimRightS (t.take (colI t)) [32, 9]
/-- What a line begins. -/
def begunS (l : List UInt8) (x : Ln) : Option Fld :=
  if colI (textOf l x) < (textOf l x).length ∧ namedB (nameS (textOf l x)) = true then some ⟨nameS (textOf l x), x.f, x.f + colI (textOf l x) + 1, x.n⟩ else none
def onB (l : List UInt8) (x : Ln) : Bool := blk (l.getD x.f 0)
def farF (x : Ln) (o : Option Fld) : Option Fld := o.map fun f => { f with t := x.n }
/-- The fields, one of them begun (or none), lines to go. -/
def goL (l : List UInt8) : Option Fld → List Ln → List Fld
  | o, [] => o.toList
  | o, x :: r => if onB l x = true then goL l (farF x o) r else o.toList ++ goL l (begunS l x) r
def fieldsL (l : List UInt8) : List Ln → List Fld
  | [] => []
  | x :: r => goL l (begunS l x) r

theorem goL_nil (l : List UInt8) (o : Option Fld) : goL l o [] = o.toList := rfl
theorem goL_on {l : List UInt8} {x : Ln} (h : onB l x = true) (o : Option Fld) (r : List Ln) : goL l o (x :: r) = goL l (farF x o) r := by rw [goL, if_pos h]
theorem goL_off {l : List UInt8} {x : Ln} (h : onB l x = false) (o : Option Fld) (r : List Ln) : goL l o (x :: r) = o.toList ++ fieldsL l (x :: r) := by
  rw [goL, if_neg (by rw [h]; decide)]
  rfl
theorem colI_le (t : List UInt8) : colI t ≤ t.length := List.findIdx_le_length
theorem colI_at {t : List UInt8} (h : colI t < t.length) : t.getD (colI t) 0 = 58 := by
  have h1 := List.findIdx_getElem (p := (· == (58 : UInt8))) (w := h)
  rw [List.getD_eq_getElem?_getD, List.getElem?_eq_getElem h]
  exact eq_of_beq h1
theorem textOf_len {l : List UInt8} {x : Ln} (h : x.t ≤ l.length) : (textOf l x).length = x.t - x.f := partS_len l h
theorem textOf_at {l : List UInt8} {x : Ln} {j : Nat} (h : j < x.t - x.f) : (textOf l x).getD j 0 = l.getD (x.f + j) 0 := partS_at l h

/-- Lines that stand one behind the other, from a on, up to b. -/
def chainL : Nat → Nat → List Ln → Prop
  | a, b, [] => a ≤ b
  | a, b, x :: r => x.f = a ∧ x.f ≤ x.t ∧ x.t ≤ x.n ∧ chainL x.n b r
theorem chainL_le : ∀ {ls : List Ln} {a b : Nat}, chainL a b ls → a ≤ b
  | [], _, _, h => h
  | x :: r, a, b, h => by
    obtain ⟨h1, h2, h3, h4⟩ := h
    have := chainL_le h4
    omega
theorem chainL_take : ∀ {ls : List Ln} {a b : Nat} (k : Nat), chainL a b ls → chainL a b (ls.take k)
  | [], _, _, k, h => by rw [List.take_nil]; exact h
  | x :: r, a, b, 0, h => chainL_le h
  | x :: r, a, b, k + 1, h => by
    obtain ⟨h1, h2, h3, h4⟩ := h
    exact ⟨h1, h2, h3, chainL_take k h4⟩
theorem chainL_lines (l : List UInt8) : ∀ (q a b : Nat), b - a ≤ q → a ≤ b → b ≤ l.length → chainL a b (linesS l a b)
  | q, a, b, hq, hab, hb => by
    rcases Nat.lt_or_ge a b with h | h
    · have hF := firstS_bounds l h
      rw [linesS_step l h hb]
      refine ⟨hF.1, by rw [hF.1]; exact hF.2.1, hF.2.2.1, ?_⟩
      cases q with
      | zero => omega
      | succ q => exact chainL_lines l q _ b (by have := hF.2.2.2.1; omega) hF.2.2.2.2.1 hb
    · rw [linesS_nil l (by omega)]
      exact hab
/-- Ahead of the line that ends the head. -/
theorem chainL_head : ∀ {ls : List Ln} {a b : Nat} (k : Nat) (h : k < ls.length), chainL a b ls → chainL a (ls[k]).n (ls.take k)
  | [], _, _, k, hk, _ => by simp at hk
  | x :: r, a, b, 0, _, h => by
    obtain ⟨h1, h2, h3, _⟩ := h
    show a ≤ x.n
    omega
  | x :: r, a, b, k + 1, hk, h => by
    obtain ⟨h1, h2, h3, h4⟩ := h
    exact ⟨h1, h2, h3, chainL_head k (by simpa using hk) h4⟩
theorem chainL_at : ∀ {ls : List Ln} {a b : Nat} (k : Nat) (h : k < ls.length), chainL a b ls → a ≤ ls[k].f ∧ ls[k].f ≤ ls[k].t ∧ ls[k].t ≤ ls[k].n ∧ ls[k].n ≤ b
  | [], _, _, k, hk, _ => by simp at hk
  | x :: r, a, b, 0, _, h => by
    obtain ⟨h1, h2, h3, h4⟩ := h
    have := chainL_le h4
    exact ⟨by show a ≤ x.f; omega, h2, h3, this⟩
  | x :: r, a, b, k + 1, hk, h => by
    obtain ⟨h1, h2, h3, h4⟩ := h
    have := chainL_at k (by simpa using hk) h4
    refine ⟨?_, this.2⟩
    have h5 := this.1
    simp only [List.getElem_cons_succ]
    omega

/-- A field as it is told: its colon, its name. -/
def goodF (l : List UInt8) (x : Fld) : Prop := x.f < x.b ∧ x.b ≤ x.t ∧ namedB x.nm = true ∧ x.nm.length ≤ l.length ∧ l.getD (x.b - 1) 0 = 58
/-- Fields that stand in order, from a on, up to b. -/
def chainF (l : List UInt8) : Nat → Nat → List Fld → Prop
  | a, b, [] => a ≤ b
  | a, b, x :: r => a ≤ x.f ∧ goodF l x ∧ chainF l x.t b r
theorem chainF_le {l : List UInt8} : ∀ {fs : List Fld} {a b : Nat}, chainF l a b fs → a ≤ b
  | [], _, _, h => h
  | x :: r, a, b, h => by
    obtain ⟨h1, ⟨h2, h3, _⟩, h4⟩ := h
    have := chainF_le h4
    omega
theorem chainF_all {l : List UInt8} : ∀ {fs : List Fld} {a b : Nat}, chainF l a b fs → ∀ x ∈ fs, goodF l x ∧ x.t ≤ b
  | [], _, _, _ => fun _ h => by cases h
  | x :: r, a, b, h => by
    obtain ⟨_, h2, h3⟩ := h
    intro y hy
    rcases List.mem_cons.1 hy with rfl | hy
    · exact ⟨h2, chainF_le h3⟩
    · exact chainF_all h3 y hy
theorem nameS_len (t : List UInt8) : (nameS t).length ≤ t.length := by
  unfold nameS Lib.trimRightS
  have h5 := (List.dropWhile_suffix (p := fun b => ([32, 9] : List UInt8).contains b) (l := (t.take (colI t)).reverse)).length_le
  simp only [List.length_reverse, List.length_take] at h5 ⊢
  omega
theorem begunS_some {l : List UInt8} {x : Ln} {f : Fld} (hx : x.f ≤ x.t) (hxn : x.t ≤ x.n) (hl : x.t ≤ l.length) (h : begunS l x = some f) : f.f = x.f ∧ f.t = x.n ∧ goodF l f := by
  unfold begunS at h
  split at h
  · next hc =>
    obtain ⟨h1, h2⟩ := hc
    obtain rfl := Option.some.inj h
    have hlen := textOf_len (x := x) hl
    have h3 := colI_at h1
    rw [textOf_at (by omega)] at h3
    have h4 := nameS_len (textOf l x)
    refine ⟨rfl, rfl, by simp only; omega, by simp only; omega, h2, by simp only; omega, ?_⟩
    simp only [Nat.add_sub_cancel]
    exact h3
  · cases h
theorem goodF.far {l : List UInt8} {x : Fld} (h : goodF l x) {n : Nat} (hn : x.t ≤ n) : goodF l { x with t := n } := by
  obtain ⟨h1, h2, h3, h4, h5⟩ := h
  exact ⟨h1, by simp only; omega, h3, h4, h5⟩
/-- One that is begun stands ahead of the lines to go. -/
theorem goL_chain (l : List UInt8) : ∀ (ls : List Ln) (o : Option Fld) (a c b : Nat), b ≤ l.length → (∀ f, o = some f → a ≤ f.f ∧ goodF l f ∧ f.t ≤ c) → a ≤ c → chainL c b ls → chainF l a b (goL l o ls)
  | [], o, a, c, b, _, ho, hac, hc => by
    have hcb : c ≤ b := hc
    cases o with
    | none => exact Nat.le_trans hac hcb
    | some f =>
      obtain ⟨h1, h2, h3⟩ := ho f rfl
      exact ⟨h1, h2, by show f.t ≤ b; omega⟩
  | x :: r, o, a, c, b, hb, ho, hac, hc => by
    obtain ⟨h1, h2, h3, h4⟩ := hc
    have hxb := chainL_le h4
    by_cases hon : onB l x = true
    · rw [goL_on hon]
      refine goL_chain l r _ a x.n b hb ?_ (by omega) h4
      intro f hf
      cases o with
      | none => cases hf
      | some g =>
        obtain rfl := Option.some.inj hf
        obtain ⟨e1, e2, e3⟩ := ho g rfl
        exact ⟨e1, e2.far (by omega), Nat.le_refl _⟩
    · have hoff : onB l x = false := by simpa using hon
      rw [goL_off hoff]
      have ih : ∀ a', a' ≤ c → chainF l a' b (fieldsL l (x :: r)) := by
        intro a' ha'
        show chainF l a' b (goL l (begunS l x) r)
        refine goL_chain l r _ a' x.n b hb ?_ (by omega) h4
        intro f hf
        obtain ⟨e1, e2, e3⟩ := begunS_some h2 h3 (by omega) hf
        exact ⟨by omega, e3, by omega⟩
      cases o with
      | none => exact ih a (by omega)
      | some f =>
        obtain ⟨e1, e2, e3⟩ := ho f rfl
        exact ⟨e1, e2, ih _ (by omega)⟩
theorem fieldsL_chain (l : List UInt8) {ls : List Ln} {a b : Nat} (hb : b ≤ l.length) (h : chainL a b ls) : chainF l a b (fieldsL l ls) := by
  cases ls with
  | nil => exact h
  | cons x r =>
    obtain ⟨h1, h2, h3, h4⟩ := h
    have hxb := chainL_le h4
    refine goL_chain l r _ a x.n b hb ?_ (by omega) h4
    intro f hf
    obtain ⟨e1, e2, e3⟩ := begunS_some h2 h3 (by omega) hf
    exact ⟨by omega, e3, by omega⟩
theorem goL_len (l : List UInt8) : ∀ (ls : List Ln) (o : Option Fld), (goL l o ls).length ≤ ls.length + 1
  | [], o => by cases o <;> simp [goL]
  | x :: r, o => by
    by_cases hon : onB l x = true
    · rw [goL_on hon]
      have := goL_len l r (farF x o)
      rw [List.length_cons]
      omega
    · have hoff : onB l x = false := by simpa using hon
      rw [goL_off hoff]
      have := goL_len l r (begunS l x)
      have e : (fieldsL l (x :: r)).length = (goL l (begunS l x) r).length := rfl
      have : o.toList.length ≤ 1 := by cases o <;> simp
      rw [List.length_append, List.length_cons, e]
      omega
theorem fieldsL_len (l : List UInt8) (ls : List Ln) : (fieldsL l ls).length ≤ ls.length := by
  cases ls with
  | nil => exact Nat.le_refl _
  | cons x r => exact goL_len l r _
end Go.Proofs.YtbphnlaoiikebaaGreatDoor
