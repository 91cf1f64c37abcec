/- Layer 18 in plain words: bytes cut into pieces. No program. -/
import Derived.Test.YtkkdplccneeaiaaGreatDoorGbWfM
namespace Go.Proofs.YtkkdplccneeaiaaGreatDoor
open Go Go.RowKit

theorem bareE_le2 (t : List UInt8) : (bareE t).length ≤ t.length := by
  unfold bareE
  split
  · rw [List.length_dropLast]; omega
  · exact Nat.le_refl _
theorem ext_getD {s : Fr} (c : List UInt8) (h : s.pos < s.l.length) : (s.ext c).l.getD (s.ext c).pos 0 = s.l.getD s.pos 0 := by
  show (s.l ++ c).getD s.pos 0 = _
  rw [List.getD_eq_getElem?_getD, List.getD_eq_getElem?_getD, List.getElem?_append_left h]
theorem ext_lineT {s : Fr} (c : List UInt8) (h : s.pos < s.l.length) : lineT (s.ext c) = lineT s := by
  unfold lineT
  show bareE (((s.l ++ c).drop s.line).take (s.pos - s.line)) = _
  congr 1
  by_cases hl : s.line ≤ s.pos
  · rw [List.drop_append_of_le_length (by omega), List.take_append_of_le_length (by rw [List.length_drop]; omega)]
  · rw [show s.pos - s.line = 0 by omega]; rfl
theorem ext_lt {s : Fr} (c : List UInt8) (h : s.pos < s.l.length) : (s.ext c).pos < (s.ext c).l.length := by
  show s.pos < (s.l ++ c).length
  rw [List.length_append]; omega
theorem lineT_le2 (s : Fr) : (lineT s).length ≤ s.pos - s.line := by
  unfold lineT
  have := bareE_le2 (List.take (s.pos - s.line) (List.drop s.line s.l))
  rw [List.length_take] at this; omega
/-- What more bytes change. -/
def CutQ (c : List UInt8) (x : Option Ev × Fr) : Option Ev × Fr → Prop
  | (none, r) => x = nextF (r.ext c) ∧ r.line ≤ r.pos
  | (some .bad, _) => x.1 = some .bad
  | (some (.cmd t), r) => x = (some (.cmd t), r.ext c) ∧ r.line ≤ r.pos
  | (some .go, r) => (c ≠ [] → x = nextF (r.ext c)) ∧ r.line ≤ r.pos ∧ r.l.length ≤ r.pos
theorem nextF_cut (c : List UInt8) (s : Fr) : s.line ≤ s.pos → CutQ c (nextF (s.ext c)) (nextF s) := by
  refine nextF_ind (P := fun s r => s.line ≤ s.pos → CutQ c (nextF (s.ext c)) r) ?_ ?_ ?_ ?_ ?_ ?_ ?_ _ s (Nat.le_refl _)
  · intro s _ hs
    exact ⟨rfl, hs⟩
  · intro s hp hb _
    show (nextF (s.ext c)).1 = _
    rw [nextF_big (ext_lt c hp) hb]
  · intro s hp hb h10 ih hs
    have := nextF_step (s := s.ext c) (ext_lt c hp) hb (by rw [ext_getD c hp]; exact h10)
    rw [this]
    exact ih (by simp only; omega)
  · intro s hp hb h10 he hs
    have := nextF_cmd (s := s.ext c) (ext_lt c hp) hb (by rw [ext_getD c hp]; exact h10) (by rw [ext_lineT c hp]; exact he)
    refine ⟨?_, Nat.le_refl _⟩
    rw [this, ext_lineT c hp]
    have hl := lineT_le2 s
    have e1 : (s.l ++ c).take (s.line + (lineT s).length) = s.l.take (s.line + (lineT s).length) := List.take_append_of_le_length (by omega)
    have e2 : (s.l ++ c).drop (s.pos + 1) = s.l.drop (s.pos + 1) ++ c := List.drop_append_of_le_length (by omega)
    show (some (Ev.cmd ((s.l ++ c).take (s.line + (lineT s).length))), (⟨(s.l ++ c).drop (s.pos + 1), 0, 0, 0⟩ : Fr)) = _
    rw [e1, e2]
    rfl
  · intro s n w hp hb h10 he hn _
    show (nextF (s.ext c)).1 = _
    rw [nextF_great (s := s.ext c) (ext_lt c hp) hb (by rw [ext_getD c hp]; exact h10) (by rw [ext_lineT c hp]; exact he) hn]
  · intro s n w hp hb h10 he hn hw hs
    refine ⟨fun hc => ?_, Nat.le_refl _, ?_⟩
    · have h1 : ¬ (w = true ∧ (s.ext c).pos + 1 = (s.ext c).l.length) := by
        rintro ⟨_, h⟩
        have h' : s.pos + 1 = (s.l ++ c).length := h
        have := List.length_pos_iff.2 hc
        rw [List.length_append] at h'
        omega
      exact nextF_pass (s := s.ext c) (ext_lt c hp) hb (by rw [ext_getD c hp]; exact h10) (by rw [ext_lineT c hp]; exact he) hn h1
    · show s.l.length ≤ s.pos + 1 + n
      omega
  · intro s n w hp hb h10 he hn hw ih hs
    have h1 : ¬ (w = true ∧ (s.ext c).pos + 1 = (s.ext c).l.length) := by
      rintro ⟨h0, h⟩
      have h' : s.pos + 1 = (s.l ++ c).length := h
      rw [List.length_append] at h'
      exact hw ⟨h0, by omega⟩
    have := nextF_pass (s := s.ext c) (ext_lt c hp) hb (by rw [ext_getD c hp]; exact h10) (by rw [ext_lineT c hp]; exact he) hn h1
    rw [this]
    exact ih (Nat.le_refl _)
/-- The texts of the commands. -/
def cmdsT : List Ev → List UInt8
  | [] => []
  | .cmd t :: r => t ++ 0 :: 10 :: cmdsT r
  | .go :: r => cmdsT r
  | .bad :: r => cmdsT r
def badE : List Ev → Bool
  | [] => false
  | .bad :: _ => true
  | .cmd _ :: r => badE r
  | .go :: r => badE r
theorem cmdsT_append : ∀ (a b : List Ev), cmdsT (a ++ b) = cmdsT a ++ cmdsT b
  | [], _ => rfl
  | .cmd t :: r, b => by simp [cmdsT, cmdsT_append r b]
  | .go :: r, b => by simp [cmdsT, cmdsT_append r b]
  | .bad :: r, b => by simp [cmdsT, cmdsT_append r b]
theorem badE_append : ∀ (a b : List Ev), badE (a ++ b) = (badE a || badE b)
  | [], _ => rfl
  | .cmd t :: r, b => by simp [badE, badE_append r b]
  | .go :: r, b => by simp [badE, badE_append r b]
  | .bad :: r, b => by simp [badE]
theorem feedF_congr {a b : Fr} (h : nextF a = nextF b) : feedF a = feedF b := by
  cases hn : nextF a with
  | mk o s =>
    rw [hn] at h
    cases o with
    | none => rw [feedF_end hn, feedF_end h.symm]
    | some e => rw [feedF_step hn, feedF_step h.symm]
theorem ext_nil (s : Fr) : s.ext [] = s := by unfold Fr.ext; rw [List.append_nil]
theorem feed_cut (c : List UInt8) : ∀ (q : Nat) (s : Fr), s.mu < q → s.line ≤ s.pos → badE (feedF (s.ext c)).1 = false →
    badE (feedF s).1 = false ∧ badE (feedF ((feedF s).2.ext c)).1 = false ∧ cmdsT (feedF (s.ext c)).1 = cmdsT (feedF s).1 ++ cmdsT (feedF ((feedF s).2.ext c)).1 ∧ (feedF (s.ext c)).2 = (feedF ((feedF s).2.ext c)).2 ∧ (feedF s).2.line ≤ (feedF s).2.pos
  | 0, _, h, _, _ => by omega
  | q + 1, s, hq, hs, hb => by
    have hc := nextF_cut c s hs
    have hm := nextF_mu s
    cases hn : nextF s with
    | mk o r =>
      rw [hn] at hc hm
      cases o with
      | none =>
        obtain ⟨h1, h2⟩ := hc
        have e := feedF_congr h1
        rw [e] at hb ⊢
        rw [feedF_end hn]
        exact ⟨rfl, hb, rfl, rfl, h2⟩
      | some e =>
        have hmu := hm e rfl
        cases e with
        | bad =>
          have h1 : (nextF (s.ext c)).1 = some .bad := hc
          cases hx : nextF (s.ext c) with
          | mk o2 r2 =>
            rw [hx] at h1
            obtain rfl : o2 = some .bad := h1
            rw [feedF_step hx] at hb
            cases hb
        | cmd t =>
          obtain ⟨h1, h2⟩ := hc
          rw [feedF_step h1] at hb ⊢
          rw [feedF_step hn]
          simp only [badE] at hb
          obtain ⟨i1, i2, i3, i4, i5⟩ := feed_cut c q r (by simp only at hmu; omega) h2 hb
          refine ⟨i1, i2, ?_, i4, i5⟩
          simp only [cmdsT, i3, List.append_assoc, List.cons_append]
        | go =>
          obtain ⟨h1, h2, h3⟩ := hc
          have hr := feedF_end (nextF_end h3)
          have hf : feedF s = ([.go], r) := by rw [feedF_step hn, hr]
          rw [hf]
          by_cases h0 : c = []
          · subst h0
            simp only [ext_nil, hf, hr]
            exact ⟨rfl, rfl, by simp [cmdsT], trivial, h2⟩
          · have e := feedF_congr (h1 h0)
            rw [e] at hb ⊢
            exact ⟨rfl, hb, rfl, rfl, h2⟩
/-- How much may come of it. -/
theorem feed_cmds_len : ∀ (q : Nat) (s : Fr), s.mu < q → (cmdsT (feedF s).1).length ≤ s.l.length * (s.l.length + 2) ∧ (feedF s).2.l.length ≤ s.l.length
  | 0, _, h => by omega
  | q + 1, s, hq => by
    have hm := nextF_mu s
    have hk : ∀ (e : Ev) (r : Fr), nextF s = (some e, r) → (r.l.length ≤ s.l.length ∧ ∀ t, e = .cmd t → r.l.length + 1 ≤ s.l.length ∧ t.length ≤ s.l.length) := by
      have : (∀ (e : Ev), (nextF s).1 = some e → ((nextF s).2.l.length ≤ s.l.length ∧ ∀ t, e = .cmd t → (nextF s).2.l.length + 1 ≤ s.l.length ∧ t.length ≤ s.l.length)) ∧ (nextF s).2.l.length ≤ s.l.length := by
        refine nextF_ind (P := fun s r => (∀ (e : Ev), r.1 = some e → (r.2.l.length ≤ s.l.length ∧ ∀ t, e = .cmd t → r.2.l.length + 1 ≤ s.l.length ∧ t.length ≤ s.l.length)) ∧ r.2.l.length ≤ s.l.length) ?_ ?_ ?_ ?_ ?_ ?_ ?_ _ s (Nat.le_refl _)
        · intro s _; exact ⟨fun e h => (by cases h), Nat.le_refl _⟩
        · intro s _ _; exact ⟨fun e h => (by cases h; exact ⟨Nat.zero_le _, fun t h => (by cases h)⟩), Nat.zero_le _⟩
        · intro s _ _ _ ih; exact ih
        · intro s hp _ _ _
          refine ⟨fun e h => ?_, ?_⟩
          · cases h
            refine ⟨by simp, fun t h => ?_⟩
            cases h
            simp only [List.length_drop, List.length_take]
            omega
          · simp
        · intro s n w _ _ _ _ _; exact ⟨fun e h => (by cases h; exact ⟨Nat.zero_le _, fun t h => (by cases h)⟩), Nat.zero_le _⟩
        · intro s n w _ _ _ _ _ _; exact ⟨fun e h => (by cases h; exact ⟨Nat.le_refl _, fun t h => (by cases h)⟩), Nat.le_refl _⟩
        · intro s n w _ _ _ _ _ _ ih; exact ih
      intro e r hn
      have h1 := this.1 e (by rw [hn])
      rw [hn] at h1
      exact h1
    have hk0 : ∀ r, nextF s = (none, r) → r.l.length ≤ s.l.length := by
      have : (nextF s).1 = none → (nextF s).2.l.length ≤ s.l.length := by
        refine nextF_ind (P := fun s r => r.1 = none → r.2.l.length ≤ s.l.length) ?_ ?_ ?_ ?_ ?_ ?_ ?_ _ s (Nat.le_refl _)
        · intro s _ _; exact Nat.le_refl _
        · intro s _ _ h; cases h
        · intro s _ _ _ ih; exact ih
        · intro s _ _ _ _ h; cases h
        · intro s n w _ _ _ _ _ h; cases h
        · intro s n w _ _ _ _ _ _ h; cases h
        · intro s n w _ _ _ _ _ _ ih; exact ih
      intro r hn
      have := this (by rw [hn])
      rw [hn] at this
      exact this
    cases hn : nextF s with
    | mk o r =>
      rw [hn] at hm
      cases o with
      | none => rw [feedF_end hn]; exact ⟨Nat.zero_le _, hk0 r hn⟩
      | some e =>
        have hmu := hm e rfl
        simp only at hmu
        obtain ⟨h1, h2⟩ := hk e r hn
        obtain ⟨i1, i2⟩ := feed_cmds_len q r (by omega)
        have i3 : r.l.length * (r.l.length + 2) ≤ s.l.length * (s.l.length + 2) := Nat.mul_le_mul h1 (by omega)
        rw [feedF_step hn]
        cases e with
        | bad => exact ⟨Nat.le_trans i1 i3, by simp only; omega⟩
        | go => exact ⟨Nat.le_trans i1 i3, by simp only; omega⟩
        | cmd t =>
          obtain ⟨h3, h4⟩ := h2 t rfl
          refine ⟨?_, by simp only; omega⟩
          simp only [cmdsT, List.length_append, List.length_cons]
          obtain ⟨d, hd⟩ : ∃ d, s.l.length = r.l.length + 1 + d := ⟨s.l.length - (r.l.length + 1), by omega⟩
          have i4 : r.l.length * (r.l.length + 2) + (s.l.length + 2) ≤ s.l.length * (s.l.length + 2) := by
            have : (r.l.length + 1) * (s.l.length + 2) ≤ s.l.length * (s.l.length + 2) := Nat.mul_le_mul (by omega) (Nat.le_refl _)
            have h5 : r.l.length * (r.l.length + 2) ≤ r.l.length * (s.l.length + 2) := Nat.mul_le_mul (Nat.le_refl _) (by omega)
            have h6 : (r.l.length + 1) * (s.l.length + 2) = r.l.length * (s.l.length + 2) + (s.l.length + 2) := by rw [Nat.add_mul, Nat.one_mul]
            omega
          omega
theorem feed_len : ∀ (q : Nat) (s : Fr), s.mu < q → (feedF s).1.length ≤ s.mu
  | 0, _, h => by omega
  | q + 1, s, hq => by
    have hm := nextF_mu s
    cases hn : nextF s with
    | mk o r =>
      rw [hn] at hm
      cases o with
      | none => rw [feedF_end hn]; exact Nat.zero_le _
      | some e =>
        have hmu := hm e rfl
        simp only at hmu
        have := feed_len q r (by omega)
        rw [feedF_step hn]
        simp only [List.length_cons]
        omega
theorem mu_le (s : Fr) : s.mu ≤ s.l.length + 1 := by
  unfold Fr.mu
  split <;> omega
theorem cmdsT_take_le (es : List Ev) (k : Nat) : (cmdsT (es.take k)).length ≤ (cmdsT es).length := by
  have : cmdsT es = cmdsT (es.take k) ++ cmdsT (es.drop k) := by rw [← cmdsT_append, List.take_append_drop]
  rw [this, List.length_append]
  omega
end Go.Proofs.YtkkdplccneeaiaaGreatDoor
