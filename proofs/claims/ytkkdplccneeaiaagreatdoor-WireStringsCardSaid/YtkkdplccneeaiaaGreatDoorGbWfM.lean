/- Layer 18 in plain words: a framer, byte by byte. No program. -/
import Derived.Test.YtkkdplccneeaiaaGreatDoorGbWiN
namespace Go.Proofs.YtkkdplccneeaiaaGreatDoor
open Go Go.RowKit

/-- What waits; where the line under way begins, how far it was looked through, how many bytes the lines have. -/
structure Fr where
  l : List UInt8
  line : Nat
  pos : Nat
  size : Nat
inductive Ev
  | go
  | cmd (t : List UInt8)
  | bad
def fr0 : Fr := ⟨[], 0, 0, 0⟩
def Fr.ext (s : Fr) (c : List UInt8) : Fr := ⟨s.l ++ c, s.line, s.pos, s.size⟩
/-- The text of the line that ends at the place. -/
def lineT (s : Fr) : List UInt8 := bareE ((s.l.drop s.line).take (s.pos - s.line))
def nextM : Nat → Fr → Option Ev × Fr
  | 0, s => (none, s)
  | g + 1, s =>
    if s.pos < s.l.length then
      if 65536 < s.size + 1 then (some .bad, fr0) else
      if s.l.getD s.pos 0 ≠ 10 then nextM g ⟨s.l, s.line, s.pos + 1, s.size + 1⟩ else
      match endH (lineT s) with
      | none => (some (.cmd (s.l.take (s.line + (lineT s).length))), ⟨s.l.drop (s.pos + 1), 0, 0, 0⟩)
      | some (n, w) => if 67108864 < n then (some .bad, fr0) else
        if w = true ∧ s.pos + 1 = s.l.length then (some .go, ⟨s.l, s.pos + 1 + n, s.pos + 1 + n, s.size + 1⟩) else
        nextM g ⟨s.l, s.pos + 1 + n, s.pos + 1 + n, s.size + 1⟩
    else (none, s)
theorem nextM_end {g : Nat} {s : Fr} (h : s.l.length ≤ s.pos) : nextM (g + 1) s = (none, s) := by
  unfold nextM
  rw [if_neg (by omega)]
theorem nextM_big {g : Nat} {s : Fr} (h : s.pos < s.l.length) (h2 : 65536 < s.size + 1) : nextM (g + 1) s = (some .bad, fr0) := by
  unfold nextM
  rw [if_pos h, if_pos h2]
theorem nextM_step {g : Nat} {s : Fr} (h : s.pos < s.l.length) (h2 : ¬ 65536 < s.size + 1) (h3 : s.l.getD s.pos 0 ≠ 10) : nextM (g + 1) s = nextM g ⟨s.l, s.line, s.pos + 1, s.size + 1⟩ := by
  conv => lhs; unfold nextM
  rw [if_pos h, if_neg h2, if_pos h3]
theorem nextM_cmd {g : Nat} {s : Fr} (h : s.pos < s.l.length) (h2 : ¬ 65536 < s.size + 1) (h3 : s.l.getD s.pos 0 = 10) (h4 : endH (lineT s) = none) : nextM (g + 1) s = (some (.cmd (s.l.take (s.line + (lineT s).length))), ⟨s.l.drop (s.pos + 1), 0, 0, 0⟩) := by
  conv => lhs; unfold nextM
  rw [if_pos h, if_neg h2, if_neg (fun e => e h3), h4]
theorem nextM_head {g n : Nat} {w : Bool} {s : Fr} (h : s.pos < s.l.length) (h2 : ¬ 65536 < s.size + 1) (h3 : s.l.getD s.pos 0 = 10) (h4 : endH (lineT s) = some (n, w)) : nextM (g + 1) s = if 67108864 < n then (some .bad, fr0) else
        if w = true ∧ s.pos + 1 = s.l.length then (some .go, ⟨s.l, s.pos + 1 + n, s.pos + 1 + n, s.size + 1⟩) else
        nextM g ⟨s.l, s.pos + 1 + n, s.pos + 1 + n, s.size + 1⟩ := by
  conv => lhs; unfold nextM
  rw [if_pos h, if_neg h2, if_neg (fun e => e h3), h4]
theorem nextM_fuel : ∀ (g h : Nat) (s : Fr), s.l.length - s.pos < g → s.l.length - s.pos < h → nextM g s = nextM h s
  | 0, _, _, h1, _ => by omega
  | _, 0, _, _, h2 => by omega
  | g + 1, h + 1, s, h1, h2 => by
    by_cases hp : s.pos < s.l.length
    · by_cases hb : 65536 < s.size + 1
      · rw [nextM_big hp hb, nextM_big hp hb]
      · by_cases h10 : s.l.getD s.pos 0 = 10
        · cases he : endH (lineT s) with
          | none => rw [nextM_cmd hp hb h10 he, nextM_cmd hp hb h10 he]
          | some p =>
            obtain ⟨n, w⟩ := p
            rw [nextM_head hp hb h10 he, nextM_head hp hb h10 he, nextM_fuel g h _ (by simp only; omega) (by simp only; omega)]
        · rw [nextM_step hp hb h10, nextM_step hp hb h10]
          exact nextM_fuel g h _ (by simp only; omega) (by simp only; omega)
    · rw [nextM_end (by omega), nextM_end (by omega)]
/-- What comes next, whatever the fuel. -/
def nextF (s : Fr) : Option Ev × Fr := nextM (s.l.length - s.pos + 1) s
theorem nextF_at {g : Nat} {s : Fr} (h : s.l.length - s.pos < g) : nextM g s = nextF s := nextM_fuel _ _ s h (Nat.lt_succ_self _)
theorem nextF_end {s : Fr} (h : s.l.length ≤ s.pos) : nextF s = (none, s) := nextM_end h
theorem nextF_big {s : Fr} (h : s.pos < s.l.length) (h2 : 65536 < s.size + 1) : nextF s = (some .bad, fr0) := nextM_big h h2
theorem nextF_step {s : Fr} (h : s.pos < s.l.length) (h2 : ¬ 65536 < s.size + 1) (h3 : s.l.getD s.pos 0 ≠ 10) : nextF s = nextF ⟨s.l, s.line, s.pos + 1, s.size + 1⟩ := by
  unfold nextF
  rw [nextM_step h h2 h3]
  exact nextM_fuel _ _ _ (by simp only; omega) (by simp only; omega)
theorem nextF_cmd {s : Fr} (h : s.pos < s.l.length) (h2 : ¬ 65536 < s.size + 1) (h3 : s.l.getD s.pos 0 = 10) (h4 : endH (lineT s) = none) : nextF s = (some (.cmd (s.l.take (s.line + (lineT s).length))), ⟨s.l.drop (s.pos + 1), 0, 0, 0⟩) := nextM_cmd h h2 h3 h4
theorem nextF_great {n : Nat} {w : Bool} {s : Fr} (h : s.pos < s.l.length) (h2 : ¬ 65536 < s.size + 1) (h3 : s.l.getD s.pos 0 = 10) (h4 : endH (lineT s) = some (n, w)) (h5 : 67108864 < n) : nextF s = (some .bad, fr0) := by
  unfold nextF
  rw [nextM_head h h2 h3 h4, if_pos h5]
theorem nextF_go {n : Nat} {w : Bool} {s : Fr} (h : s.pos < s.l.length) (h2 : ¬ 65536 < s.size + 1) (h3 : s.l.getD s.pos 0 = 10) (h4 : endH (lineT s) = some (n, w)) (h5 : ¬ 67108864 < n) (h6 : w = true ∧ s.pos + 1 = s.l.length) : nextF s = (some .go, ⟨s.l, s.pos + 1 + n, s.pos + 1 + n, s.size + 1⟩) := by
  unfold nextF
  rw [nextM_head h h2 h3 h4, if_neg h5, if_pos h6]
theorem nextF_pass {n : Nat} {w : Bool} {s : Fr} (h : s.pos < s.l.length) (h2 : ¬ 65536 < s.size + 1) (h3 : s.l.getD s.pos 0 = 10) (h4 : endH (lineT s) = some (n, w)) (h5 : ¬ 67108864 < n) (h6 : ¬ (w = true ∧ s.pos + 1 = s.l.length)) : nextF s = nextF ⟨s.l, s.pos + 1 + n, s.pos + 1 + n, s.size + 1⟩ := by
  unfold nextF
  rw [nextM_head h h2 h3 h4, if_neg h5, if_neg h6]
  exact nextM_fuel _ _ _ (by simp only; omega) (by simp only; omega)
/-- How it goes on: by induction over what is left to look through. -/
theorem nextF_ind {P : Fr → Option Ev × Fr → Prop}
    (hend : ∀ s : Fr, s.l.length ≤ s.pos → P s (none, s))
    (hbig : ∀ s : Fr, s.pos < s.l.length → 65536 < s.size + 1 → P s (some .bad, fr0))
    (hstep : ∀ s : Fr, s.pos < s.l.length → ¬ 65536 < s.size + 1 → s.l.getD s.pos 0 ≠ 10 → P ⟨s.l, s.line, s.pos + 1, s.size + 1⟩ (nextF ⟨s.l, s.line, s.pos + 1, s.size + 1⟩) → P s (nextF ⟨s.l, s.line, s.pos + 1, s.size + 1⟩))
    (hcmd : ∀ s : Fr, s.pos < s.l.length → ¬ 65536 < s.size + 1 → s.l.getD s.pos 0 = 10 → endH (lineT s) = none → P s (some (.cmd (s.l.take (s.line + (lineT s).length))), ⟨s.l.drop (s.pos + 1), 0, 0, 0⟩))
    (hgreat : ∀ (s : Fr) (n : Nat) (w : Bool), s.pos < s.l.length → ¬ 65536 < s.size + 1 → s.l.getD s.pos 0 = 10 → endH (lineT s) = some (n, w) → 67108864 < n → P s (some .bad, fr0))
    (hgo : ∀ (s : Fr) (n : Nat) (w : Bool), s.pos < s.l.length → ¬ 65536 < s.size + 1 → s.l.getD s.pos 0 = 10 → endH (lineT s) = some (n, w) → ¬ 67108864 < n → w = true ∧ s.pos + 1 = s.l.length → P s (some .go, ⟨s.l, s.pos + 1 + n, s.pos + 1 + n, s.size + 1⟩))
    (hpass : ∀ (s : Fr) (n : Nat) (w : Bool), s.pos < s.l.length → ¬ 65536 < s.size + 1 → s.l.getD s.pos 0 = 10 → endH (lineT s) = some (n, w) → ¬ 67108864 < n → ¬ (w = true ∧ s.pos + 1 = s.l.length) → P ⟨s.l, s.pos + 1 + n, s.pos + 1 + n, s.size + 1⟩ (nextF ⟨s.l, s.pos + 1 + n, s.pos + 1 + n, s.size + 1⟩) → P s (nextF ⟨s.l, s.pos + 1 + n, s.pos + 1 + n, s.size + 1⟩)) :
    ∀ (q : Nat) (s : Fr), s.l.length - s.pos ≤ q → P s (nextF s) := by
  intro q
  induction q with
  | zero =>
    intro s hq
    rw [nextF_end (by omega)]
    exact hend s (by omega)
  | succ q ih =>
    intro s hq
    by_cases hp : s.pos < s.l.length
    · by_cases hb : 65536 < s.size + 1
      · rw [nextF_big hp hb]; exact hbig s hp hb
      · by_cases h10 : s.l.getD s.pos 0 = 10
        · cases he : endH (lineT s) with
          | none => rw [nextF_cmd hp hb h10 he]; exact hcmd s hp hb h10 he
          | some p =>
            obtain ⟨n, w⟩ := p
            by_cases hn : 67108864 < n
            · rw [nextF_great hp hb h10 he hn]; exact hgreat s n w hp hb h10 he hn
            · by_cases hw : w = true ∧ s.pos + 1 = s.l.length
              · rw [nextF_go hp hb h10 he hn hw]; exact hgo s n w hp hb h10 he hn hw
              · rw [nextF_pass hp hb h10 he hn hw]
                exact hpass s n w hp hb h10 he hn hw (ih _ (by simp only; omega))
        · rw [nextF_step hp hb h10]
          exact hstep s hp hb h10 (ih _ (by simp only; omega))
    · rw [nextF_end (by omega)]; exact hend s (by omega)
/-- How much may still come. -/
def Fr.mu (s : Fr) : Nat := s.l.length + (if s.pos < s.l.length then 1 else 0)
theorem nextF_mu (s : Fr) : ∀ e, (nextF s).1 = some e → (nextF s).2.mu < s.mu := by
  refine nextF_ind (P := fun s r => ∀ e, r.1 = some e → r.2.mu < s.mu) ?_ ?_ ?_ ?_ ?_ ?_ ?_ _ s (Nat.le_refl _)
  · intro s _ e h; cases h
  · intro s hp _ e _
    unfold Fr.mu fr0
    rw [if_pos hp]
    simp
  · intro s hp _ _ h e he
    refine Nat.lt_of_lt_of_le (h e he) ?_
    unfold Fr.mu
    rw [if_pos hp]
    simp only
    split <;> omega
  · intro s hp _ _ _ e _
    unfold Fr.mu
    rw [if_pos hp]
    simp only [List.length_drop]
    split <;> omega
  · intro s n w hp _ _ _ _ e _
    unfold Fr.mu fr0
    rw [if_pos hp]
    simp
  · intro s n w hp _ _ _ _ h6 e _
    unfold Fr.mu
    rw [if_pos hp]
    simp only
    rw [if_neg (by omega)]
    omega
  · intro s n w hp _ _ _ _ _ h e he
    refine Nat.lt_of_lt_of_le (h e he) ?_
    unfold Fr.mu
    rw [if_pos hp]
    simp only
    split <;> omega
/-- All that comes. -/
def feedM : Nat → Fr → List Ev × Fr
  | 0, s => ([], s)
  | g + 1, s => match nextF s with
    | (none, s') => ([], s')
    | (some e, s') => (e :: (feedM g s').1, (feedM g s').2)
theorem feedM_fuel : ∀ (g h : Nat) (s : Fr), s.mu < g → s.mu < h → feedM g s = feedM h s
  | 0, _, _, h1, _ => by omega
  | _, 0, _, _, h2 => by omega
  | g + 1, h + 1, s, h1, h2 => by
    have hm := nextF_mu s
    unfold feedM
    cases hn : nextF s with
    | mk o s' =>
      cases o with
      | none => rfl
      | some e =>
        rw [hn] at hm
        have := hm e rfl
        simp only at this ⊢
        rw [feedM_fuel g h s' (by omega) (by omega)]
def feedF (s : Fr) : List Ev × Fr := feedM (s.mu + 1) s
theorem feedF_end {s s' : Fr} (h : nextF s = (none, s')) : feedF s = ([], s') := by
  unfold feedF feedM
  rw [h]
theorem feedF_step {s s' : Fr} {e : Ev} (h : nextF s = (some e, s')) : feedF s = (e :: (feedF s').1, (feedF s').2) := by
  have hm := nextF_mu s e (by rw [h])
  rw [h] at hm
  unfold feedF
  conv => lhs; unfold feedM
  rw [h]
  simp only
  rw [feedM_fuel s.mu (s'.mu + 1) s' hm (Nat.lt_succ_self _)]
end Go.Proofs.YtkkdplccneeaiaaGreatDoor
