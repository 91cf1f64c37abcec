/- Fields of a header in plain words. No program. -/
import Derived.Test.YtfgppamhbchhcaaGreatDoorGb01
import Derived.Test.YtfgppamhbchhcaaGreatDoorCharsM
import Derived.Lib.SlTrimSet
namespace Go.Proofs.YtfgppamhbchhcaaGreatDoor
open Go Go.RowKit

/-- A field: its name, where it begins, where its body begins, where it ends. -/
structure Fld where
  nm : List UInt8
  f : Nat
  b : Nat
  t : Nat
def nameB (c : UInt8) : Bool := decide (33 ≤ c.toNat ∧ c.toNat ≤ 126)
def namedB (l : List UInt8) : Bool := l.all nameB && !l.isEmpty
def colI (l : List UInt8) : Nat := l.findIdx (· == 58)
def nameS (t : List UInt8) : List UInt8 := Lib.trimRightS (t.take (colI t)) [32, 9]
/-- What a line begins. -/
def begunS (l : List UInt8) (x : Ln) : Option Fld :=
  if colI (textOf l x) < (textOf l x).length ∧ namedB (nameS (textOf l x)) = true then some ⟨nameS (textOf l x), x.f, x.f + colI (textOf l x) + 1, x.n⟩ else none
def onB (l : List UInt8) (x : Ln) : Bool := blk (l.getD x.f 0)
def farF (x : Ln) (o : Option Fld) : Option Fld := o.map fun f => { f with t := x.n }
/-- The fields, one of them begun (or none), lines to go. -/
def goL (l : List UInt8) : Option Fld → List Ln → List Fld
  | o, [] => o.toList
  | o, x :: r => if onB l x = true then goL l (farF x o) r else o.toList ++ goL l (begunS l x) r
def fieldsL (l : List UInt8) : List Ln → List Fld
  | [] => []
  | x :: r => goL l (begunS l x) r

theorem goL_nil (l : List UInt8) (o : Option Fld) : goL l o [] = o.toList := rfl
theorem goL_on {l : List UInt8} {x : Ln} (h : onB l x = true) (o : Option Fld) (r : List Ln) : goL l o (x :: r) = goL l (farF x o) r := by rw [goL, if_pos h]
theorem goL_off {l : List UInt8} {x : Ln} (h : onB l x = false) (o : Option Fld) (r : List Ln) : goL l o (x :: r) = o.toList ++ fieldsL l (x :: r) := by
  rw [goL, if_neg (by rw [h]; decide)]
  rfl
theorem colI_le (t : List UInt8) : colI t ≤ t.length := List.findIdx_le_length
theorem colI_at {t : List UInt8} (h : colI t < t.length) : t.getD (colI t) 0 = 58 := by
  have h1 := List.findIdx_getElem (p := (· == (58 : UInt8))) (w := h)
  rw [List.getD_eq_getElem?_getD, List.getElem?_eq_getElem h]
  exact eq_of_beq h1
theorem textOf_len {l : List UInt8} {x : Ln} (h : x.t ≤ l.length) : (textOf l x).length = x.t - x.f := partS_len l h
theorem textOf_at {l : List UInt8} {x : Ln} {j : Nat} (h : j < x.t - x.f) : (textOf l x).getD j 0 = l.getD (x.f + j) 0 := partS_at l h

/-- Lines that stand one behind the other, from a on, up to b. -/
def chainL : Nat → Nat → List Ln → Prop
  | a, b, [] => a ≤ b
  | a, b, x :: r => x.f = a ∧ x.f ≤ x.t ∧ x.t ≤ x.n ∧ chainL x.n b r
theorem chainL_le : ∀ {ls : List Ln} {a b : Nat}, chainL a b ls → a ≤ b
  | [], _, _, h => h
  | x :: r, a, b, h => by
    obtain ⟨h1, h2, h3, h4⟩ := h
    have := chainL_le h4
    omega
theorem chainL_take : ∀ {ls : List Ln} {a b : Nat} (k : Nat), chainL a b ls → chainL a b (ls.take k)
  | [], _, _, k, h => by rw [List.take_nil]; exact h
  | x :: r, a, b, 0, h => chainL_le h
  | x :: r, a, b, k + 1, h => by
    obtain ⟨h1, h2, h3, h4⟩ := h
    exact ⟨h1, h2, h3, chainL_take k h4⟩
theorem chainL_lines (l : List UInt8) : ∀ (q a b : Nat), b - a ≤ q → a ≤ b → b ≤ l.length → chainL a b (linesS l a b)
  | q, a, b, hq, hab, hb => by
    rcases Nat.lt_or_ge a b with h | h
    · have hF := firstS_bounds l h
      rw [linesS_step l h hb]
      refine ⟨hF.1, by rw [hF.1]; exact hF.2.1, hF.2.2.1, ?_⟩
      cases q with
      | zero => omega
      | succ q => exact chainL_lines l q _ b (by have := hF.2.2.2.1; omega) hF.2.2.2.2.1 hb
    · rw [linesS_nil l (by omega)]
      exact hab
/-- Ahead of the line that ends the head. -/
theorem chainL_head : ∀ {ls : List Ln} {a b : Nat} (k : Nat) (h : k < ls.length), chainL a b ls → chainL a (ls[k]).n (ls.take k)
  | [], _, _, k, hk, _ => by simp at hk
  | x :: r, a, b, 0, _, h => by
    obtain ⟨h1, h2, h3, _⟩ := h
    show a ≤ x.n
    omega
  | x :: r, a, b, k + 1, hk, h => by
    obtain ⟨h1, h2, h3, h4⟩ := h
    exact ⟨h1, h2, h3, chainL_head k (by simpa using hk) h4⟩
theorem chainL_at : ∀ {ls : List Ln} {a b : Nat} (k : Nat) (h : k < ls.length), chainL a b ls → a ≤ ls[k].f ∧ ls[k].f ≤ ls[k].t ∧ ls[k].t ≤ ls[k].n ∧ ls[k].n ≤ b
  | [], _, _, k, hk, _ => by simp at hk
  | x :: r, a, b, 0, _, h => by
    obtain ⟨h1, h2, h3, h4⟩ := h
    have := chainL_le h4
    exact ⟨by show a ≤ x.f; omega, h2, h3, this⟩
  | x :: r, a, b, k + 1, hk, h => by
    obtain ⟨h1, h2, h3, h4⟩ := h
    have := chainL_at k (by simpa using hk) h4
    refine ⟨?_, this.2⟩
    have h5 := this.1
    simp only [List.getElem_cons_succ]
    omega

/-- A field as it is told: its colon, its name. -/
def goodF (l : List UInt8) (x : Fld) : Prop := x.f < x.b ∧ x.b ≤ x.t ∧ namedB x.nm = true ∧ x.nm.length ≤ l.length ∧ l.getD (x.b - 1) 0 = 58
/-- Fields that stand in order, from a on, up to b. -/
def chainF (l : List UInt8) : Nat → Nat → List Fld → Prop
  | a, b, [] => a ≤ b
  | a, b, x :: r => a ≤ x.f ∧ goodF l x ∧ chainF l x.t b r
theorem chainF_le {l : List UInt8} : ∀ {fs : List Fld} {a b : Nat}, chainF l a b fs → a ≤ b
  | [], _, _, h => h
  | x :: r, a, b, h => by
    obtain ⟨h1, ⟨h2, h3, _⟩, h4⟩ := h
    have := chainF_le h4
    omega
theorem chainF_all {l : List UInt8} : ∀ {fs : List Fld} {a b : Nat}, chainF l a b fs → ∀ x ∈ fs, goodF l x ∧ x.t ≤ b
  | [], _, _, _ => fun _ h => by cases h
  | x :: r, a, b, h => by
    obtain ⟨_, h2, h3⟩ := h
    intro y hy
    rcases List.mem_cons.1 hy with rfl | hy
    · exact ⟨h2, chainF_le h3⟩
    · exact chainF_all h3 y hy
theorem nameS_len (t : List UInt8) : (nameS t).length ≤ t.length := by
  unfold nameS Lib.trimRightS
  have h5 := (List.dropWhile_suffix (p := fun b => ([32, 9] : List UInt8).contains b) (l := (t.take (colI t)).reverse)).length_le
  simp only [List.length_reverse, List.length_take] at h5 ⊢
  omega
theorem begunS_some {l : List UInt8} {x : Ln} {f : Fld} (hx : x.f ≤ x.t) (hxn : x.t ≤ x.n) (hl : x.t ≤ l.length) (h : begunS l x = some f) : f.f = x.f ∧ f.t = x.n ∧ goodF l f := by
  unfold begunS at h
  split at h
  · next hc =>
    obtain ⟨h1, h2⟩ := hc
    obtain rfl := Option.some.inj h
    have hlen := textOf_len (x := x) hl
    have h3 := colI_at h1
    rw [textOf_at (by omega)] at h3
    have h4 := nameS_len (textOf l x)
    refine ⟨rfl, rfl, by simp only; omega, by simp only; omega, h2, by simp only; omega, ?_⟩
    simp only [Nat.add_sub_cancel]
    exact h3
  · cases h
theorem goodF.far {l : List UInt8} {x : Fld} (h : goodF l x) {n : Nat} (hn : x.t ≤ n) : goodF l { x with t := n } := by
  obtain ⟨h1, h2, h3, h4, h5⟩ := h
  exact ⟨h1, by simp only; omega, h3, h4, h5⟩
/-- One that is begun stands ahead of the lines to go. -/
theorem goL_chain (l : List UInt8) : ∀ (ls : List Ln) (o : Option Fld) (a c b : Nat), b ≤ l.length → (∀ f, o = some f → a ≤ f.f ∧ goodF l f ∧ f.t ≤ c) → a ≤ c → chainL c b ls → chainF l a b (goL l o ls)
  | [], o, a, c, b, _, ho, hac, hc => by
    have hcb : c ≤ b := hc
    cases o with
    | none => exact Nat.le_trans hac hcb
    | some f =>
      obtain ⟨h1, h2, h3⟩ := ho f rfl
      exact ⟨h1, h2, by show f.t ≤ b; omega⟩
  | x :: r, o, a, c, b, hb, ho, hac, hc => by
    obtain ⟨h1, h2, h3, h4⟩ := hc
    have hxb := chainL_le h4
    by_cases hon : onB l x = true
    · rw [goL_on hon]
      refine goL_chain l r _ a x.n b hb ?_ (by omega) h4
      intro f hf
      cases o with
      | none => cases hf
      | some g =>
        obtain rfl := Option.some.inj hf
        obtain ⟨e1, e2, e3⟩ := ho g rfl
        exact ⟨e1, e2.far (by omega), Nat.le_refl _⟩
    · have hoff : onB l x = false := by simpa using hon
      rw [goL_off hoff]
      have ih : ∀ a', a' ≤ c → chainF l a' b (fieldsL l (x :: r)) := by
        intro a' ha'
        show chainF l a' b (goL l (begunS l x) r)
        refine goL_chain l r _ a' x.n b hb ?_ (by omega) h4
        intro f hf
        obtain ⟨e1, e2, e3⟩ := begunS_some h2 h3 (by omega) hf
        exact ⟨by omega, e3, by omega⟩
      cases o with
      | none => exact ih a (by omega)
      | some f =>
        obtain ⟨e1, e2, e3⟩ := ho f rfl
        exact ⟨e1, e2, ih _ (by omega)⟩
theorem fieldsL_chain (l : List UInt8) {ls : List Ln} {a b : Nat} (hb : b ≤ l.length) (h : chainL a b ls) : chainF l a b (fieldsL l ls) := by
  cases ls with
  | nil => exact h
  | cons x r =>
    obtain ⟨h1, h2, h3, h4⟩ := h
    have hxb := chainL_le h4
    refine goL_chain l r _ a x.n b hb ?_ (by omega) h4
    intro f hf
    obtain ⟨e1, e2, e3⟩ := begunS_some h2 h3 (by omega) hf
    exact ⟨by omega, e3, by omega⟩
theorem goL_len (l : List UInt8) : ∀ (ls : List Ln) (o : Option Fld), (goL l o ls).length ≤ ls.length + 1
  | [], o => by cases o <;> simp [goL]
  | x :: r, o => by
    by_cases hon : onB l x = true
    · rw [goL_on hon]
      have := goL_len l r (farF x o)
      rw [List.length_cons]
      omega
    · have hoff : onB l x = false := by simpa using hon
      rw [goL_off hoff]
      have := goL_len l r (begunS l x)
      have e : (fieldsL l (x :: r)).length = (goL l (begunS l x) r).length := rfl
      have : o.toList.length ≤ 1 := by cases o <;> simp
      rw [List.length_append, List.length_cons, e]
      omega
theorem fieldsL_len (l : List UInt8) (ls : List Ln) : (fieldsL l ls).length ≤ ls.length := by
  cases ls with
  | nil => exact Nat.le_refl _
  | cons x r => exact goL_len l r _
end Go.Proofs.YtfgppamhbchhcaaGreatDoor
