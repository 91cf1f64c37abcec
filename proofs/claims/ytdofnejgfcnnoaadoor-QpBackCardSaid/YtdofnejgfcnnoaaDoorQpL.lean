/- The laws of layer 3 (quoted-printable): QpBack. -/
import Derived.Test.YtdofnejgfcnnoaaDoorQpK
import Derived.Deep.RegionHeld
namespace Go.Proofs.YtdofnejgfcnnoaaDoor
open Go Go.RowKit

/-- Where the round stands: what is told already, what is encoded behind it, and what is left. -/
def BackI (b : List UInt8) (i skip : Nat) (f : List UInt8) : Prop := ∃ pre v u, Ahead pre v ∧
  ((skip = 0 ∧ ∃ t, f = pre ++ encQ u ∧ (encQ b).drop i = encQ t ∧ b = v ++ u ++ t) ∨
   (skip = 2 ∧ ∃ c t h1 h2, encB c = [61, h1, h2] ∧ f = pre ++ encQ u ++ [61] ∧ (encQ b).drop i = h1 :: h2 :: encQ t ∧ b = v ++ u ++ c :: t) ∨
   (skip = 1 ∧ ∃ c t h1 h2, encB c = [61, h1, h2] ∧ f = pre ++ encQ u ++ [61, h1] ∧ (encQ b).drop i = h2 :: encQ t ∧ b = v ++ u ++ c :: t))
theorem BackI.start (b : List UInt8) : BackI b 0 0 [] := ⟨[], [], [], Ahead.nil, .inl ⟨rfl, b, rfl, rfl, rfl⟩⟩
theorem encB_kind (c : UInt8) : (encB c = [c] ∧ c ≠ 61) ∨ ∃ h1 h2, encB c = [61, h1, h2] ∧ h1 ≠ 61 ∧ h2 ≠ 61 := by
  have hc := c.toNat_lt
  by_cases h : seenB c = true ∧ c ≠ 61
  · exact .inl ⟨encB_one h.1 h.2, h.2⟩
  · exact .inr ⟨_, _, encB_three h, (digB_seen _ (by omega)).2, (digB_seen _ (by omega)).2⟩
theorem BackI.step {b f : List UInt8} {i skip : Nat} (h : BackI b i skip f) (hi : i < (encQ b).length) :
    BackI b (i + 1) (if (encQ b)[i] = 61 then 2 else skip - 1) (f ++ [(encQ b)[i]]) ∧ skip ≤ 2 ∧ (0 < skip → (encQ b)[i] ≠ 61) := by
  have hd := List.drop_eq_getElem_cons hi
  obtain ⟨x, hx⟩ : ∃ x, x = (encQ b)[i] := ⟨_, rfl⟩
  rw [← hx] at hd ⊢
  obtain ⟨pre, v, u, hA, ⟨rfl, t, hf, ht, hb⟩ | ⟨rfl, c, t, h1, h2, hc, hf, ht, hb⟩ | ⟨rfl, c, t, h1, h2, hc, hf, ht, hb⟩⟩ := h
  · rw [hd] at ht
    rcases t with _ | ⟨c, t⟩
    · simp [encQ] at ht
    · rw [encQ_cons] at ht
      rcases encB_kind c with ⟨hc, h61⟩ | ⟨h1, h2, hc, n1, n2⟩
      · rw [hc] at ht
        simp only [List.cons_append, List.nil_append, List.cons.injEq] at ht
        obtain ⟨rfl, ht⟩ := ht
        rw [if_neg h61]
        refine ⟨⟨pre, v, u ++ [x], hA, .inl ⟨rfl, t, ?_, ht, ?_⟩⟩, by omega, fun h => absurd h (by omega)⟩
        · rw [encQ_snoc, hc, hf, List.append_assoc]
        · rw [hb]; simp
      · rw [hc] at ht
        simp only [List.cons_append, List.nil_append, List.cons.injEq] at ht
        obtain ⟨rfl, ht⟩ := ht
        rw [if_pos rfl]
        exact ⟨⟨pre, v, u, hA, .inr (.inl ⟨rfl, c, t, h1, h2, hc, by rw [hf], ht, hb⟩)⟩, by omega, fun h => absurd h (by omega)⟩
  · rw [hd] at ht
    simp only [List.cons.injEq] at ht
    obtain ⟨rfl, ht⟩ := ht
    have hn : x ≠ 61 := by
      rcases encB_kind c with ⟨hc', _⟩ | ⟨g1, g2, hc', n1, n2⟩
      · rw [hc] at hc'; simp at hc'
      · rw [hc] at hc'
        simp only [List.cons.injEq] at hc'
        rw [hc'.2.1]
        exact n1
    rw [if_neg hn]
    exact ⟨⟨pre, v, u, hA, .inr (.inr ⟨rfl, c, t, x, h2, hc, by rw [hf]; simp, ht, hb⟩)⟩, by omega, fun _ => hn⟩
  · rw [hd] at ht
    simp only [List.cons.injEq] at ht
    obtain ⟨rfl, ht⟩ := ht
    have hn : x ≠ 61 := by
      rcases encB_kind c with ⟨hc', _⟩ | ⟨g1, g2, hc', n1, n2⟩
      · rw [hc] at hc'; simp at hc'
      · rw [hc] at hc'
        simp only [List.cons.injEq] at hc'
        rw [hc'.2.2.1]
        exact n2
    rw [if_neg hn]
    refine ⟨⟨pre, v, u ++ [c], hA, .inl ⟨rfl, t, ?_, ht, ?_⟩⟩, by omega, fun _ => hn⟩
    · rw [encQ_snoc, hc, hf]; simp
    · rw [hb]; simp
theorem BackI.brk {b f : List UInt8} {i : Nat} (h : BackI b i 0 f) (bl : List UInt8) (hb : ∀ x ∈ bl, isBl x = true) (cr : Bool) :
    BackI b i 0 (f ++ ([61] ++ bl ++ ((if cr then [13] else []) ++ [10]))) := by
  obtain ⟨pre, v, u, hA, ⟨_, t, hf, ht, hbb⟩ | ⟨h0, _⟩ | ⟨h0, _⟩⟩ := h
  · have hu := textS_encQ u []
    rw [List.append_nil] at hu
    have hs := ahead_soft (p := encQ u) (bl := bl) cr (encQ_seen u) hb (v := u) (by rw [hu]; simp [textS])
    refine ⟨_, _, [], hA.append hs, .inl ⟨rfl, t, ?_, ht, ?_⟩⟩
    · rw [hf]; simp [encQ]
    · rw [hbb]; simp
  · omega
  · omega
theorem BackI.done {b f : List UInt8} {i skip : Nat} (h : BackI b i skip f) (hi : i = (encQ b).length) : decQ f = some b := by
  subst hi
  obtain ⟨pre, v, u, hA, ⟨_, t, hf, ht, hb⟩ | ⟨_, c, t, h1, h2, _, _, ht, _⟩ | ⟨_, c, t, h1, h2, _, _, ht, _⟩⟩ := h
  · rw [List.drop_length] at ht
    have h0 : t = [] := by
      rcases t with _ | ⟨c, r⟩
      · rfl
      · have := encB_len c
        rw [encQ_cons] at ht
        have := congrArg List.length ht
        simp at this
        omega
    subst h0
    rw [hf, hA, decQ_encQ, hb]
    simp
  · rw [List.drop_length] at ht
    cases ht
  · rw [List.drop_length] at ht
    cases ht
theorem BackI.skip_le {b f : List UInt8} {i skip : Nat} (h : BackI b i skip f) : skip ≤ 2 := by
  obtain ⟨pre, v, u, hA, ⟨h, _⟩ | ⟨h, _⟩ | ⟨h, _⟩⟩ := h <;> omega
end Go.Proofs.YtdofnejgfcnnoaaDoor
