/- Plain words for HeaderFolds: what its fields' bodies are; how the text grows. -/
import Derived.Test.YtjgbcfecgbkefaaDoorHdrL
namespace Go.Proofs.YtjgbcfecgbkefaaDoor
open Go Go.RowKit

theorem last_good : ∀ (tl : List (List UInt8)), (∀ t ∈ tl, goodT t) → tl ≠ [] → ∀ x, ((tl.map fun t => 32 :: t).flatten).getLast? = some x → blk x = false
  | [], _, h0 => absurd rfl h0
  | [t], h, _ => by
    intro x hx
    obtain ⟨h1, h2⟩ := h t (List.mem_cons_self ..)
    have e : (([t].map fun t => (32 : UInt8) :: t).flatten).getLast? = t.getLast? := by
      simp only [List.map_cons, List.map_nil, List.flatten_cons, List.flatten_nil, List.append_nil]
      rw [List.getLast?_cons]
      cases hL : t.getLast? with
      | none => exact absurd (List.getLast?_eq_none_iff.1 hL) h1
      | some y => rfl
    rw [e] at hx
    exact good_blk (h2 x (List.mem_of_getLast? hx))
  | t :: u :: r, h, _ => by
    intro x hx
    refine last_good (u :: r) (fun v hv => h v (List.mem_cons_of_mem _ hv)) (by simp) x ?_
    rw [List.map_cons, List.flatten_cons, List.getLast?_append] at hx
    cases hL : (((u :: r).map fun t => (32 : UInt8) :: t).flatten).getLast? with
    | none =>
      have := List.getLast?_eq_none_iff.1 hL
      simp at this
    | some y =>
      rw [hL] at hx
      exact hx
theorem trim_tb {tl : List (List UInt8)} (h : ∀ t ∈ tl, goodT t) : trimS (tbL tl).flatten = wantL tl := by
  unfold tbL wantL
  cases tl with
  | nil => rfl
  | cons t r =>
    rw [if_neg (by simp)]
    obtain ⟨h1, h2⟩ := h t (List.mem_cons_self ..)
    obtain ⟨X, hX⟩ : ∃ X, ((t :: r).map fun t => (32 : UInt8) :: t).flatten = 32 :: X := ⟨t ++ (r.map fun t => (32 : UInt8) :: t).flatten, by simp⟩
    have hl := last_good (t :: r) h (by simp)
    have hXt : X = t ++ (r.map fun t => (32 : UInt8) :: t).flatten := by
      have : ((t :: r).map fun t => (32 : UInt8) :: t).flatten = 32 :: (t ++ (r.map fun t => (32 : UInt8) :: t).flatten) := by simp
      rw [hX] at this
      exact (List.cons.inj this).2
    rw [hX] at hl ⊢
    show trimS (32 :: X) = X
    have hXn : X ≠ [] := by rw [hXt]; simp [h1]
    have := trim_of [32] X [] (by decide) rfl ?_ ?_
    · rw [List.append_nil] at this
      exact this
    · intro x hx
      cases t with
      | nil => exact absurd rfl h1
      | cons c t =>
        rw [hXt] at hx
        simp at hx
        subst hx
        exact good_blk (h2 c (List.mem_cons_self ..))
    · intro x hx
      refine hl x ?_
      rw [List.getLast?_cons, hx]
      rfl
theorem folds_subject {tl : List (List UInt8)} (h : ∀ t ∈ tl, goodT t) (nm : List UInt8) (hn : nm = [115, 117, 98, 106, 101, 99, 116] ∨ nm = [83, 85, 66, 74, 69, 67, 84]) : valueS (textF tl) (foldsF (subE tl)) nm = wantL tl := by
  have hi : fI nm (foldsF (subE tl)) = 1 := by rcases hn with rfl | rfl <;> rfl
  have hb := bodyS_join (tbL tl) p21 (nA ++ [13, 10] ++ [13, 10] ++ bodyW) (tbL_plain h)
  unfold valueS
  rw [dif_pos (by rw [hi]; show 1 < 3; decide)]
  have : ∀ (k : Nat) (hk : k < (foldsF (subE tl)).length), k = 1 → bodyS (textF tl) ((foldsF (subE tl))[k].b : Int) ((foldsF (subE tl))[k].t : Int) = wantL tl := by
    intro k hk e
    subst e
    show bodyS (textF tl) (21 : Int) ((subE tl : Nat) : Int) = wantL tl
    rw [← trim_tb h, ← hb]
    rfl
  exact this _ _ hi
theorem folds_after (tl : List (List UInt8)) : valueS (textF tl) (foldsF (subE tl)) [120, 45, 97, 102, 116, 101, 114] = [50] := by
  have hi : fI [120, 45, 97, 102, 116, 101, 114] (foldsF (subE tl)) = 2 := by rfl
  have hb := bodyS_join [[32, 50]] (p21 ++ joinC (tbL tl) ++ [88, 45, 65, 102, 116, 101, 114, 58]) ([13, 10] ++ bodyW) (by
    intro t ht c hc
    rw [List.mem_singleton.1 ht] at hc
    exact (by decide : ∀ c ∈ [(32 : UInt8), 50], plainB c = true) c hc)
  have e1 : p21 ++ joinC (tbL tl) ++ [88, 45, 65, 102, 116, 101, 114, 58] ++ joinC [[32, 50]] ++ ([13, 10] ++ bodyW) = textF tl := by
    simp [textF, joinC, nA, bodyW]
  have e2 : (p21 ++ joinC (tbL tl) ++ [88, 45, 65, 102, 116, 101, 114, 58]).length = subE tl + 8 := by
    unfold subE
    rw [List.length_append]
    rfl
  have e3 : (p21 ++ joinC (tbL tl) ++ [88, 45, 65, 102, 116, 101, 114, 58] ++ joinC [[32, 50]]).length = subE tl + 12 := by
    rw [List.length_append, e2]
    rfl
  rw [e1, e2, e3] at hb
  unfold valueS
  rw [dif_pos (by rw [hi]; show 2 < 3; decide)]
  have : ∀ (k : Nat) (hk : k < (foldsF (subE tl)).length), k = 2 → bodyS (textF tl) ((foldsF (subE tl))[k].b : Int) ((foldsF (subE tl))[k].t : Int) = [50] := by
    intro k hk e
    subst e
    show bodyS (textF tl) ((subE tl + 8 : Nat) : Int) ((subE tl + 12 : Nat) : Int) = [50]
    rw [hb]
    rfl
  exact this _ _ hi
theorem folds_none (tl : List (List UInt8)) : valueS (textF tl) (foldsF (subE tl)) [110, 111, 110, 101] = [] := by
  have hi : fI [110, 111, 110, 101] (foldsF (subE tl)) = 3 := by rfl
  unfold valueS
  rw [dif_neg (by rw [hi]; show ¬ 3 < 3; decide)]
theorem folds_rest (tl : List (List UInt8)) : (textF tl).drop (subE tl + 14) = bodyW := by
  have e1 : textF tl = p21 ++ joinC (tbL tl) ++ (nA ++ [13, 10] ++ [13, 10]) ++ bodyW := by simp [textF]
  have e2 : (p21 ++ joinC (tbL tl) ++ (nA ++ [13, 10] ++ [13, 10])).length = subE tl + 14 := by
    rw [List.length_append]
    rfl
  rw [e1, ← e2, List.drop_left]
/-- What the loop puts together: the text, up to there. -/
def preB (tl : List (List UInt8)) : List UInt8 := p21 ++ joinC (tl.map fun t => 32 :: t)
theorem preB_snoc (tl : List (List UInt8)) (t : List UInt8) : preB (tl ++ [t]) = preB tl ++ (32 :: t ++ [13, 10]) := by
  simp [preB, joinC]
theorem preB_end (tl : List (List UInt8)) : preB tl ++ (if tl = [] then [13, 10] else []) ++ (nA ++ [13, 10] ++ [13, 10] ++ bodyW) = textF tl := by
  unfold preB textF tbL
  by_cases h : tl = []
  · subst h
    rfl
  · rw [if_neg h, if_neg h, List.append_nil]
theorem wantL_nil : wantL [] = [] := rfl
theorem wantL_one (t : List UInt8) : wantL [t] = t := by simp [wantL]
theorem wantL_snoc {tl : List (List UInt8)} (h : tl ≠ []) (t : List UInt8) : wantL (tl ++ [t]) = wantL tl ++ [32] ++ t := by
  cases tl with
  | nil => exact absurd rfl h
  | cons u r => simp [wantL]
theorem wantL_ne {tl : List (List UInt8)} (hg : ∀ t ∈ tl, goodT t) (h : tl ≠ []) : wantL tl ≠ [] := by
  cases tl with
  | nil => exact absurd rfl h
  | cons u r =>
    have := (hg u (List.mem_cons_self ..)).1
    simp [wantL, this]
theorem preB_len {tl : List (List UInt8)} {k : Nat} (h : ∀ t ∈ tl, t.length ≤ k) : (preB tl).length ≤ 21 + tl.length * (k + 3) := by
  unfold preB
  rw [List.length_append]
  have : (joinC (tl.map fun t => 32 :: t)).length ≤ tl.length * (k + 3) := by
    induction tl with
    | nil => simp [joinC]
    | cons t r ih =>
      have ih' := ih (fun u hu => h u (List.mem_cons_of_mem _ hu))
      have ht := h t (List.mem_cons_self ..)
      rw [List.map_cons, joinC_cons, List.length_cons, Nat.add_mul]
      simp only [List.length_append, List.length_cons, List.length_nil]
      omega
  have e : p21.length = 21 := rfl
  omega
theorem wantL_len {tl : List (List UInt8)} {k : Nat} (h : ∀ t ∈ tl, t.length ≤ k) : (wantL tl).length ≤ tl.length * (k + 1) := by
  unfold wantL
  rw [List.length_drop]
  have : ((tl.map fun t => (32 : UInt8) :: t).flatten).length ≤ tl.length * (k + 1) := by
    induction tl with
    | nil => simp
    | cons t r ih =>
      have ih' := ih (fun u hu => h u (List.mem_cons_of_mem _ hu))
      have ht := h t (List.mem_cons_self ..)
      rw [List.map_cons, List.flatten_cons, List.length_append, List.length_cons, List.length_cons, Nat.add_mul]
      omega
  omega
end Go.Proofs.YtjgbcfecgbkefaaDoor
