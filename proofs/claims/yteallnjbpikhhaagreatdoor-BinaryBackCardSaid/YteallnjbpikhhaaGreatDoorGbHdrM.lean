/- Plain facts on lists of bytes: trimming, small letters, parts. Nothing of the program. -/
import Derived.Lib.Hide
import Derived.Test.YteallnjbpikhhaaGreatDoorGbLinesP
import Derived.Lib.SlTrimSet
namespace Go.Proofs.YteallnjbpikhhaaGreatDoor

def blk (b : UInt8) : Bool := decide ((b.toNat : Int) = 32 ∨ (b.toNat : Int) = 9)
def trimS (l : List UInt8) : List UInt8 := ((l.dropWhile blk).reverse.dropWhile blk).reverse

theorem dropWhile_app {α : Type} (p : α → Bool) : ∀ (a m : List α), a.all p = true → (a ++ m).dropWhile p = m.dropWhile p
  | [], m, _ => rfl
  | x :: a, m, h => by
    rw [List.all_cons, Bool.and_eq_true] at h
    rw [List.cons_append, List.dropWhile_cons_of_pos h.1, dropWhile_app p a m h.2]
theorem dropWhile_head {α : Type} (p : α → Bool) (m b : List α) (h : ∀ x, m.head? = some x → p x = false) (hm : m ≠ []) : (m ++ b).dropWhile p = m ++ b := by
  match m with
  | [] => exact (hm rfl).elim
  | x :: m => rw [List.cons_append, List.dropWhile_cons_of_neg (by simp [h x rfl])]
theorem dropWhile_all {α : Type} (p : α → Bool) (a : List α) (h : a.all p = true) : a.dropWhile p = [] := by
  have := dropWhile_app p a [] h
  simpa using this

theorem trim_of (a m b : List UInt8) (ha : a.all blk = true) (hb : b.all blk = true) (h1 : ∀ x, m.head? = some x → blk x = false) (h2 : ∀ x, m.getLast? = some x → blk x = false) :
    trimS (a ++ m ++ b) = m := by
  unfold trimS
  rw [List.append_assoc, dropWhile_app blk a _ ha]
  by_cases hm : m = []
  · subst hm
    rw [List.nil_append, dropWhile_all blk b hb]
    rfl
  · rw [dropWhile_head blk m b h1 hm, List.reverse_append, dropWhile_app blk b.reverse _ (by simpa using hb)]
    have := dropWhile_head blk m.reverse [] (by simpa using h2) (by simpa using hm)
    rw [List.append_nil] at this
    rw [this, List.reverse_reverse]

/-- A text falls into blanks, what is left when it is trimmed, and blanks. -/
theorem takeWhile_all {α : Type} (p : α → Bool) : ∀ l : List α, (l.takeWhile p).all p = true
  | [] => rfl
  | x :: l => by
    by_cases h : p x = true
    · rw [List.takeWhile_cons_of_pos h, List.all_cons, h, takeWhile_all p l]; rfl
    · rw [List.takeWhile_cons_of_neg h]; rfl
theorem dropWhile_first {α : Type} (p : α → Bool) : ∀ (l : List α) x, (l.dropWhile p).head? = some x → p x = false
  | [], x, h => by simp at h
  | y :: l, x, h => by
    by_cases hp : p y = true
    · rw [List.dropWhile_cons_of_pos hp] at h; exact dropWhile_first p l x h
    · rw [List.dropWhile_cons_of_neg hp] at h
      simp at h; subst h; simpa using hp
theorem trim_parts (l : List UInt8) : ∃ a b, l = a ++ trimS l ++ b ∧ a.all blk = true ∧ b.all blk = true ∧ (∀ x, (trimS l).head? = some x → blk x = false) ∧ (∀ x, (trimS l).getLast? = some x → blk x = false) := by
  let m := l.dropWhile blk
  have e1 : l = l.takeWhile blk ++ m := (List.takeWhile_append_dropWhile).symm
  have e2 : m.reverse = m.reverse.takeWhile blk ++ m.reverse.dropWhile blk := (List.takeWhile_append_dropWhile).symm
  have e3 : m = (m.reverse.dropWhile blk).reverse ++ (m.reverse.takeWhile blk).reverse := by
    rw [← List.reverse_append, ← e2, List.reverse_reverse]
  have e4 : trimS l = (m.reverse.dropWhile blk).reverse := rfl
  refine ⟨l.takeWhile blk, (m.reverse.takeWhile blk).reverse, ?_, takeWhile_all _ _, by rw [List.all_reverse]; exact takeWhile_all _ _, ?_, ?_⟩
  · rw [e4, List.append_assoc, ← e3]; exact e1
  · rw [e4]
    intro x hx
    have hm : m.head? = some x := by
      rw [e3]
      match h : (m.reverse.dropWhile blk).reverse, hx with
      | y :: r, hx => simpa using hx
    exact dropWhile_first blk l x hm
  · rw [e4]
    intro x hx
    rw [List.getLast?_reverse] at hx
    exact dropWhile_first blk _ x hx

def lowB (b : UInt8) : UInt8 := if 65 ≤ b.toNat ∧ b.toNat ≤ 90 then b + 32 else b
theorem lowB_toNat (b : UInt8) : (lowB b).toNat = if 65 ≤ b.toNat ∧ b.toNat ≤ 90 then b.toNat + 32 else b.toNat := by
  unfold lowB
  split
  · rw [UInt8.toNat_add]; have : (32 : UInt8).toNat = 32 := rfl; omega
  · rfl
def foldS (l : List UInt8) : List UInt8 := l.map lowB

/-- The parts of a text between bytes of a kind: what is read so far of the part under way stands in 'cur'. -/
def splitAux (c : UInt8) : List UInt8 → List UInt8 → List (List UInt8)
  | [], cur => [cur]
  | b :: l, cur => if b = c then cur :: splitAux c l [] else splitAux c l (cur ++ [b])
def splitS (c : UInt8) (l : List UInt8) : List (List UInt8) := splitAux c l []

theorem splitAux_length (c : UInt8) : ∀ l cur, 1 ≤ (splitAux c l cur).length ∧ (splitAux c l cur).length ≤ l.length + 1
  | [], cur => by simp [splitAux]
  | b :: l, cur => by
    unfold splitAux
    split
    · have := splitAux_length c l []; simp; omega
    · have := splitAux_length c l (cur ++ [b]); simp; omega
end Go.Proofs.YteallnjbpikhhaaGreatDoor

/- Fields of a header in plain words. No program. -/
namespace Go.Proofs.YteallnjbpikhhaaGreatDoor
open Go Go.RowKit

/-- A field: its name, where it begins, where its body begins, where it ends. -/
structure Fld where
  nm : List UInt8
  f : Nat
  b : Nat
  t : Nat
def nameB (c : UInt8) : Bool := decide (33 ≤ c.toNat ∧ c.toNat ≤ 126)
def namedB (l : List UInt8) : Bool := l.all nameB && !l.isEmpty
def colI (l : List UInt8) : Nat := l.findIdx (· == 58)
def nameS (t : List UInt8) : List UInt8 := Lib.trimRightS (t.take (colI t)) [32, 9]
/-- What a line begins. -/
def begunS (l : List UInt8) (x : Ln) : Option Fld :=
  if colI (textOf l x) < (textOf l x).length ∧ namedB (nameS (textOf l x)) = true then some ⟨nameS (textOf l x), x.f, x.f + colI (textOf l x) + 1, x.n⟩ else none
def onB (l : List UInt8) (x : Ln) : Bool := blk (l.getD x.f 0)
def farF (x : Ln) (o : Option Fld) : Option Fld := o.map fun f => { f with t := x.n }
/-- The fields, one of them begun (or none), lines to go. -/
def goL (l : List UInt8) : Option Fld → List Ln → List Fld
  | o, [] => o.toList
  | o, x :: r => if onB l x = true then goL l (farF x o) r else o.toList ++ goL l (begunS l x) r
def fieldsL (l : List UInt8) : List Ln → List Fld
  | [] => []
  | x :: r => goL l (begunS l x) r

theorem goL_nil (l : List UInt8) (o : Option Fld) : goL l o [] = o.toList := rfl
theorem goL_on {l : List UInt8} {x : Ln} (h : onB l x = true) (o : Option Fld) (r : List Ln) : goL l o (x :: r) = goL l (farF x o) r := by rw [goL, if_pos h]
theorem goL_off {l : List UInt8} {x : Ln} (h : onB l x = false) (o : Option Fld) (r : List Ln) : goL l o (x :: r) = o.toList ++ fieldsL l (x :: r) := by
  rw [goL, if_neg (by rw [h]; decide)]
  rfl
theorem colI_le (t : List UInt8) : colI t ≤ t.length := List.findIdx_le_length
theorem colI_at {t : List UInt8} (h : colI t < t.length) : t.getD (colI t) 0 = 58 := by
  have h1 := List.findIdx_getElem (p := (· == (58 : UInt8))) (w := h)
  rw [List.getD_eq_getElem?_getD, List.getElem?_eq_getElem h]
  exact eq_of_beq h1
theorem textOf_len {l : List UInt8} {x : Ln} (h : x.t ≤ l.length) : (textOf l x).length = x.t - x.f := partS_len l h
theorem textOf_at {l : List UInt8} {x : Ln} {j : Nat} (h : j < x.t - x.f) : (textOf l x).getD j 0 = l.getD (x.f + j) 0 := partS_at l h

/-- Lines that stand one behind the other, from a on, up to b. -/
def chainL : Nat → Nat → List Ln → Prop
  | a, b, [] => a ≤ b
  | a, b, x :: r => x.f = a ∧ x.f ≤ x.t ∧ x.t ≤ x.n ∧ chainL x.n b r
theorem chainL_le : ∀ {ls : List Ln} {a b : Nat}, chainL a b ls → a ≤ b
  | [], _, _, h => h
  | x :: r, a, b, h => by
    obtain ⟨h1, h2, h3, h4⟩ := h
    have := chainL_le h4
    omega
theorem chainL_take : ∀ {ls : List Ln} {a b : Nat} (k : Nat), chainL a b ls → chainL a b (ls.take k)
  | [], _, _, k, h => by rw [List.take_nil]; exact h
  | x :: r, a, b, 0, h => chainL_le h
  | x :: r, a, b, k + 1, h => by
    obtain ⟨h1, h2, h3, h4⟩ := h
    exact ⟨h1, h2, h3, chainL_take k h4⟩
theorem chainL_lines (l : List UInt8) : ∀ (q a b : Nat), b - a ≤ q → a ≤ b → b ≤ l.length → chainL a b (linesS l a b)
  | q, a, b, hq, hab, hb => by
    rcases Nat.lt_or_ge a b with h | h
    · have hF := firstS_bounds l h
      rw [linesS_step l h hb]
      refine ⟨hF.1, by rw [hF.1]; exact hF.2.1, hF.2.2.1, ?_⟩
      cases q with
      | zero => omega
      | succ q => exact chainL_lines l q _ b (by have := hF.2.2.2.1; omega) hF.2.2.2.2.1 hb
    · rw [linesS_nil l (by omega)]
      exact hab
/-- Ahead of the line that ends the head. -/
theorem chainL_head : ∀ {ls : List Ln} {a b : Nat} (k : Nat) (h : k < ls.length), chainL a b ls → chainL a (ls[k]).n (ls.take k)
  | [], _, _, k, hk, _ => by simp at hk
  | x :: r, a, b, 0, _, h => by
    obtain ⟨h1, h2, h3, _⟩ := h
    show a ≤ x.n
    omega
  | x :: r, a, b, k + 1, hk, h => by
    obtain ⟨h1, h2, h3, h4⟩ := h
    exact ⟨h1, h2, h3, chainL_head k (by simpa using hk) h4⟩
theorem chainL_at : ∀ {ls : List Ln} {a b : Nat} (k : Nat) (h : k < ls.length), chainL a b ls → a ≤ ls[k].f ∧ ls[k].f ≤ ls[k].t ∧ ls[k].t ≤ ls[k].n ∧ ls[k].n ≤ b
  | [], _, _, k, hk, _ => by simp at hk
  | x :: r, a, b, 0, _, h => by
    obtain ⟨h1, h2, h3, h4⟩ := h
    have := chainL_le h4
    exact ⟨by show a ≤ x.f; omega, h2, h3, this⟩
  | x :: r, a, b, k + 1, hk, h => by
    obtain ⟨h1, h2, h3, h4⟩ := h
    have := chainL_at k (by simpa using hk) h4
    refine ⟨?_, this.2⟩
    have h5 := this.1
    simp only [List.getElem_cons_succ]
    omega

/-- A field as it is told: its colon, its name. -/
def goodF (l : List UInt8) (x : Fld) : Prop := x.f < x.b ∧ x.b ≤ x.t ∧ namedB x.nm = true ∧ x.nm.length ≤ l.length ∧ l.getD (x.b - 1) 0 = 58
/-- Fields that stand in order, from a on, up to b. -/
def chainF (l : List UInt8) : Nat → Nat → List Fld → Prop
  | a, b, [] => a ≤ b
  | a, b, x :: r => a ≤ x.f ∧ goodF l x ∧ chainF l x.t b r
theorem chainF_le {l : List UInt8} : ∀ {fs : List Fld} {a b : Nat}, chainF l a b fs → a ≤ b
  | [], _, _, h => h
  | x :: r, a, b, h => by
    obtain ⟨h1, ⟨h2, h3, _⟩, h4⟩ := h
    have := chainF_le h4
    omega
theorem chainF_all {l : List UInt8} : ∀ {fs : List Fld} {a b : Nat}, chainF l a b fs → ∀ x ∈ fs, goodF l x ∧ x.t ≤ b
  | [], _, _, _ => fun _ h => by cases h
  | x :: r, a, b, h => by
    obtain ⟨_, h2, h3⟩ := h
    intro y hy
    rcases List.mem_cons.1 hy with rfl | hy
    · exact ⟨h2, chainF_le h3⟩
    · exact chainF_all h3 y hy
theorem nameS_len (t : List UInt8) : (nameS t).length ≤ t.length := by
  unfold nameS Lib.trimRightS
  have h5 := (List.dropWhile_suffix (p := fun b => ([32, 9] : List UInt8).contains b) (l := (t.take (colI t)).reverse)).length_le
  simp only [List.length_reverse, List.length_take] at h5 ⊢
  omega
theorem begunS_some {l : List UInt8} {x : Ln} {f : Fld} (hx : x.f ≤ x.t) (hxn : x.t ≤ x.n) (hl : x.t ≤ l.length) (h : begunS l x = some f) : f.f = x.f ∧ f.t = x.n ∧ goodF l f := by
  unfold begunS at h
  split at h
  · next hc =>
    obtain ⟨h1, h2⟩ := hc
    obtain rfl := Option.some.inj h
    have hlen := textOf_len (x := x) hl
    have h3 := colI_at h1
    rw [textOf_at (by omega)] at h3
    have h4 := nameS_len (textOf l x)
    refine ⟨rfl, rfl, by simp only; omega, by simp only; omega, h2, by simp only; omega, ?_⟩
    simp only [Nat.add_sub_cancel]
    exact h3
  · cases h
theorem goodF.far {l : List UInt8} {x : Fld} (h : goodF l x) {n : Nat} (hn : x.t ≤ n) : goodF l { x with t := n } := by
  obtain ⟨h1, h2, h3, h4, h5⟩ := h
  exact ⟨h1, by simp only; omega, h3, h4, h5⟩
/-- One that is begun stands ahead of the lines to go. -/
theorem goL_chain (l : List UInt8) : ∀ (ls : List Ln) (o : Option Fld) (a c b : Nat), b ≤ l.length → (∀ f, o = some f → a ≤ f.f ∧ goodF l f ∧ f.t ≤ c) → a ≤ c → chainL c b ls → chainF l a b (goL l o ls)
  | [], o, a, c, b, _, ho, hac, hc => by
    have hcb : c ≤ b := hc
    cases o with
    | none => exact Nat.le_trans hac hcb
    | some f =>
      obtain ⟨h1, h2, h3⟩ := ho f rfl
      exact ⟨h1, h2, by show f.t ≤ b; omega⟩
  | x :: r, o, a, c, b, hb, ho, hac, hc => by
    obtain ⟨h1, h2, h3, h4⟩ := hc
    have hxb := chainL_le h4
    by_cases hon : onB l x = true
    · rw [goL_on hon]
      refine goL_chain l r _ a x.n b hb ?_ (by omega) h4
      intro f hf
      cases o with
      | none => cases hf
      | some g =>
        obtain rfl := Option.some.inj hf
        obtain ⟨e1, e2, e3⟩ := ho g rfl
        exact ⟨e1, e2.far (by omega), Nat.le_refl _⟩
    · have hoff : onB l x = false := by simpa using hon
      rw [goL_off hoff]
      have ih : ∀ a', a' ≤ c → chainF l a' b (fieldsL l (x :: r)) := by
        intro a' ha'
        show chainF l a' b (goL l (begunS l x) r)
        refine goL_chain l r _ a' x.n b hb ?_ (by omega) h4
        intro f hf
        obtain ⟨e1, e2, e3⟩ := begunS_some h2 h3 (by omega) hf
        exact ⟨by omega, e3, by omega⟩
      cases o with
      | none => exact ih a (by omega)
      | some f =>
        obtain ⟨e1, e2, e3⟩ := ho f rfl
        exact ⟨e1, e2, ih _ (by omega)⟩
theorem fieldsL_chain (l : List UInt8) {ls : List Ln} {a b : Nat} (hb : b ≤ l.length) (h : chainL a b ls) : chainF l a b (fieldsL l ls) := by
  cases ls with
  | nil => exact h
  | cons x r =>
    obtain ⟨h1, h2, h3, h4⟩ := h
    have hxb := chainL_le h4
    refine goL_chain l r _ a x.n b hb ?_ (by omega) h4
    intro f hf
    obtain ⟨e1, e2, e3⟩ := begunS_some h2 h3 (by omega) hf
    exact ⟨by omega, e3, by omega⟩
theorem goL_len (l : List UInt8) : ∀ (ls : List Ln) (o : Option Fld), (goL l o ls).length ≤ ls.length + 1
  | [], o => by cases o <;> simp [goL]
  | x :: r, o => by
    by_cases hon : onB l x = true
    · rw [goL_on hon]
      have := goL_len l r (farF x o)
      rw [List.length_cons]
      omega
    · have hoff : onB l x = false := by simpa using hon
      rw [goL_off hoff]
      have := goL_len l r (begunS l x)
      have e : (fieldsL l (x :: r)).length = (goL l (begunS l x) r).length := rfl
      have : o.toList.length ≤ 1 := by cases o <;> simp
      rw [List.length_append, List.length_cons, e]
      omega
theorem fieldsL_len (l : List UInt8) (ls : List Ln) : (fieldsL l ls).length ≤ ls.length := by
  cases ls with
  | nil => exact Nat.le_refl _
  | cons x r => exact goL_len l r _
end Go.Proofs.YteallnjbpikhhaaGreatDoor
