/- Plain: each name stands once. -/
import Derived.Test.YtfgppamhbchhcaaGreatDoorGb23
import Derived.Test.YtfgppamhbchhcaaGreatDoorGb24
namespace Go.Proofs.YtfgppamhbchhcaaGreatDoor
open Go Go.RowKit

def fineB (c : UInt8) : Bool := !(c == 42 || (decide (65 ≤ c.toNat) && decide (c.toNat ≤ 90)))
theorem fold_fine (l : List UInt8) : ∀ c ∈ foldS l, ¬ (65 ≤ c.toNat ∧ c.toNat ≤ 90) := by
  intro c hc
  obtain ⟨x, _, rfl⟩ := List.mem_map.1 hc
  rw [lowB_toNat]
  split <;> omega
theorem base_fine {l : List UInt8} (h : ∀ c ∈ l, ¬ (65 ≤ c.toNat ∧ c.toNat ≤ 90)) : (baseL l).all fineB = true := by
  rw [List.all_eq_true]
  intro c hc
  have h1 := h c ((List.takeWhile_sublist _).mem hc)
  have h2 : ∀ (l : List UInt8), ∀ c ∈ l.takeWhile (fun c => c != 42), (c != 42) = true := by
    intro l
    induction l with
    | nil => intro c hc; simp at hc
    | cons x l ih =>
      intro c hc
      rw [List.takeWhile_cons] at hc
      by_cases e : (x != 42) = true
      · rw [if_pos e] at hc
        rcases List.mem_cons.1 hc with rfl | hc
        · exact e
        · exact ih c hc
      · rw [if_neg e] at hc
        simp at hc
  have h3 := h2 l c hc
  have h4 : c ≠ 42 := by simpa using h3
  unfold fineB
  simp only [Bool.not_eq_true', Bool.or_eq_false_iff, Bool.and_eq_false_iff, decide_eq_false_iff_not, beq_eq_false_iff_ne]
  exact ⟨h4, by omega⟩
theorem pars_fine : ∀ (n : Nat) (l : List UInt8), ∀ p ∈ parsL n l, ∀ c ∈ p.1, ¬ (65 ≤ c.toNat ∧ c.toNat ≤ 90) := by
  intro n
  induction n with
  | zero => intro l p hp; simp [parsL] at hp
  | succ n ih =>
    intro l p hp
    have e : parsL (n + 1) l = match parL l with | none => [] | some (p, r) => p :: parsL n r := rfl
    rw [e] at hp
    cases h : parL l with
    | none => rw [h] at hp; simp at hp
    | some x =>
      obtain ⟨q, r⟩ := x
      rw [h] at hp
      simp only [List.mem_cons] at hp
      rcases hp with rfl | hp
      · unfold parL at h
        split at h
        · cases h
        · split at h
          · cases h
          · split at h
            · cases h
            · split at h
              · cases h
              · cases h
                exact fold_fine _
      · exact ih r p hp
theorem join_names (ps : List Prm) : ∀ (t : List Prm) (pre : List (List UInt8)), (∀ q ∈ joinA ps pre t, q.1 ≠ [] ∧ q.1 ∉ pre ∧ ∃ p ∈ t, q.1 = baseL p.1) ∧ (joinA ps pre t).Pairwise (fun p q => p.1 ≠ q.1) := by
  intro t
  induction t with
  | nil => intro pre; exact ⟨fun q hq => by simp [joinA] at hq, List.Pairwise.nil⟩
  | cons p t ih =>
    intro pre
    have ih' := ih (baseL p.1 :: pre)
    have e : joinA ps pre (p :: t) = if baseL p.1 = [] ∨ baseL p.1 ∈ pre then joinA ps (baseL p.1 :: pre) t else match toldL ps (baseL p.1) with | some v => (baseL p.1, v) :: joinA ps (baseL p.1 :: pre) t | none => joinA ps (baseL p.1 :: pre) t := rfl
    rw [e]
    have wk : ∀ q ∈ joinA ps (baseL p.1 :: pre) t, q.1 ≠ [] ∧ q.1 ∉ pre ∧ ∃ x ∈ p :: t, q.1 = baseL x.1 := fun q hq => by
      obtain ⟨h1, h2, x, hx, h3⟩ := ih'.1 q hq
      exact ⟨h1, fun h => h2 (List.mem_cons_of_mem _ h), x, List.mem_cons_of_mem _ hx, h3⟩
    split
    · exact ⟨wk, ih'.2⟩
    · next hn =>
      have hn1 : ¬ baseL p.1 = [] := fun h => hn (.inl h)
      have hn2 : ¬ baseL p.1 ∈ pre := fun h => hn (.inr h)
      split
      · next v hv =>
        refine ⟨fun q hq => ?_, ?_⟩
        · rcases List.mem_cons.1 hq with rfl | hq
          · exact ⟨hn1, hn2, p, by simp, rfl⟩
          · exact wk q hq
        · refine List.pairwise_cons.2 ⟨fun q hq => ?_, ih'.2⟩
          have := (ih'.1 q hq).2.1
          intro e
          exact this (by rw [← e]; simp)
      · exact ⟨wk, ih'.2⟩
structure Once (V : Val) (two : Bool) : Prop where
  type : V.type ≠ []
  sub : (V.sub.isEmpty = !two)
  name : ∀ q ∈ V.params, q.1 ≠ [] ∧ q.1.all fineB = true
  once : V.params.Pairwise (fun p q => p.1 ≠ q.1)
theorem fold_ne {l : List UInt8} (h : l ≠ []) : foldS l ≠ [] := by cases l with | nil => exact absurd rfl h | cons a b => simp [foldS]
theorem join_once (n : Nat) (l : List UInt8) : (∀ q ∈ joinL (parsL n l), q.1 ≠ [] ∧ q.1.all fineB = true) ∧ (joinL (parsL n l)).Pairwise (fun p q => p.1 ≠ q.1) := by
  have h := join_names (parsL n l) (parsL n l) []
  refine ⟨fun q hq => ?_, h.2⟩
  obtain ⟨h1, _, p, hp, h3⟩ := h.1 q hq
  exact ⟨h1, by rw [h3]; exact base_fine (pars_fine n l p hp)⟩
theorem parse_once {l : List UInt8} {two : Bool} {V : Val} (h : parseL l two = some V) : Once V two := by
  unfold parseL at h
  split at h
  · cases h
  · next h1 =>
    cases two with
    | false =>
      simp only [Bool.false_eq_true, if_false] at h
      cases h
      exact ⟨fold_ne h1, rfl, (join_once _ _).1, (join_once _ _).2⟩
    | true =>
      simp only [if_true] at h
      split at h
      · cases h
      · next u r hs =>
        cases h
        refine ⟨fold_ne h1, ?_, (join_once _ _).1, (join_once _ _).2⟩
        unfold subL at hs
        split at hs
        · cases hs
        · split at hs
          · cases hs
          · next h2 =>
            cases hs
            have := fold_ne h2
            show (foldS _).isEmpty = false
            cases hx : foldS (tokenL _).1 with
            | nil => exact absurd hx this
            | cons a b => rfl
end Go.Proofs.YtfgppamhbchhcaaGreatDoor

/- How long what a parameter is told by may be. No program. -/
namespace Go.Proofs.YtfgppamhbchhcaaGreatDoor
open Go Go.RowKit

theorem baseL_len (l : List UInt8) : (baseL l).length ≤ l.length := (List.takeWhile_sublist _).length_le
theorem tokenL_rest (l : List UInt8) : (tokenL l).2.length ≤ l.length := by
  show ((sk l).drop _).length ≤ _
  rw [List.length_drop]
  exact Nat.le_trans (Nat.sub_le _ _) (skL_le l false 0)
theorem takeL_rest {c : UInt8} {l r : List UInt8} (h : takeL c l = some r) : r.length ≤ l.length := by
  have hs := skL_le l false 0
  have hs' : (sk l).length ≤ l.length := hs
  unfold takeL at h
  split at h
  · next x r' hx =>
    rw [hx] at hs'
    split at h
    · cases h
      simp at hs'
      omega
    · cases h
  · cases h
theorem joinL_short (n : Nat) (l : List UInt8) : ∀ q ∈ joinL (parsL n l), q.1.length ≤ l.length := by
  intro q hq
  obtain ⟨_, _, p, hp, h3⟩ := (join_names (parsL n l) (parsL n l) []).1 q hq
  rw [h3]
  exact Nat.le_trans (baseL_len _) (parsL_small n l p hp).1
theorem parse_short {l : List UInt8} {two : Bool} {V : Val} (h : parseL l two = some V) : ∀ q ∈ V.params, q.1.length ≤ l.length := by
  have ht := tokenL_rest l
  unfold parseL at h
  split at h
  · cases h
  · cases two with
    | false =>
      simp only [Bool.false_eq_true, if_false] at h
      cases h
      exact fun q hq => Nat.le_trans (joinL_short _ _ q hq) ht
    | true =>
      simp only [if_true] at h
      split at h
      · cases h
      · next u r hs =>
        cases h
        unfold subL at hs
        split at hs
        · cases hs
        · next r0 h0 =>
          split at hs
          · cases hs
          · cases hs
            have h1 := takeL_rest h0
            have h2 := tokenL_rest r0
            exact fun q hq => Nat.le_trans (joinL_short _ _ q hq) (by omega)

end Go.Proofs.YtfgppamhbchhcaaGreatDoor

/- How long what a header's fields tell may be. No program. -/
namespace Go.Proofs.YtfgppamhbchhcaaGreatDoor
open Go Go.RowKit

theorem textsL_chain (l : List UInt8) : ∀ (ls : List Ln) (a b : Nat), chainL a b ls → b ≤ l.length → (textsL l ls).length ≤ b - a
  | [], _, _, _, _ => Nat.zero_le _
  | x :: r, a, b, h, hb => by
    obtain ⟨h1, h2, h3, h4⟩ := h
    have ih := textsL_chain l r x.n b h4 hb
    have hle := chainL_le h4
    have hx := textOf_len (l := l) (x := x) (by omega)
    have e : (textsL l (x :: r)).length = (textOf l x).length + (textsL l r).length := by simp [textsL]
    omega
theorem trimS_short (l : List UInt8) : (trimS l).length ≤ l.length := by
  obtain ⟨a, b, e, _⟩ := trim_parts l
  have := congrArg List.length e
  simp only [List.length_append] at this
  omega
theorem bodyS_short (l : List UInt8) (b t : Int) : (bodyS l b t).length ≤ l.length := by
  have h1 := trimS_short (textsL l (linesZ l b t))
  unfold bodyS
  unfold linesZ at h1 ⊢
  split at h1
  · next h =>
    rw [if_pos h]
    have hw := of_decide_eq_true h
    have := textsL_chain l _ _ _ (chainL_lines l _ b.toNat t.toNat (Nat.le_refl _) (by omega) (by omega)) (by omega)
    omega
  · next h =>
    rw [if_neg h]
    have e : textsL l [] = [] := rfl
    have e2 : trimS [] = [] := rfl
    rw [e, e2]
    exact Nat.zero_le _
theorem valueS_short (l : List UInt8) (fs : List Fld) (nm : List UInt8) : (valueS l fs nm).length ≤ l.length := by
  unfold valueS
  split
  · exact bodyS_short l _ _
  · exact Nat.zero_le _
theorem foldS_len' (l : List UInt8) : (foldS l).length = l.length := by simp [foldS]
theorem hdOf_le (l : List UInt8) {f t : Nat} (hft : f ≤ t) (htl : t ≤ l.length) : f ≤ hdOf l f t ∧ hdOf l f t ≤ t := by
  have hc := chainL_lines l _ f t (Nat.le_refl _) hft htl
  unfold hdOf behindN
  split
  · next h =>
    have h1 := chainL_at _ h hc
    exact ⟨by omega, h1.2.2.2⟩
  · exact ⟨hft, Nat.le_refl _⟩
theorem fsOf_chain (l : List UInt8) {f t : Nat} (hft : f ≤ t) (htl : t ≤ l.length) : chainF l f (hdOf l f t) (fsOf l f t) := by
  have hc := chainL_lines l _ f t (Nat.le_refl _) hft htl
  have hb := (hdOf_le l hft htl).2
  refine fieldsL_chain l (by omega) ?_
  unfold hdOf behindN
  split
  · next h => exact chainL_head _ h hc
  · exact chainL_take _ hc
theorem fsOf_short (l : List UInt8) {f t : Nat} (hft : f ≤ t) (htl : t ≤ l.length) (hbig : l.length ≤ 1000000) : shortF (fsOf l f t) := fun x hx => by
  have h := chainF_all (fsOf_chain l hft htl) x hx
  have hb := (hdOf_le l hft htl).2
  have := h.1.2.2.2.1
  omega
theorem typeS_short (l : List UInt8) (fs : List Fld) (g : Bool) (hbig : l.length ≤ 1000000) : small1 (typeS l fs g).params := by
  unfold typeS
  have hv := valueS_short l fs ctyN
  cases hp : parseL (valueS l fs ctyN) true with
  | some V => exact fun p hp' => Nat.le_trans (parse_short hp p hp') (by omega)
  | none =>
    cases g
    · exact fun p hp' => by cases hp'
    · exact fun p hp' => by cases hp'
end Go.Proofs.YtfgppamhbchhcaaGreatDoor
