/- Plain words for HeaderOrder: a body has no line feed; fields of some names and the others are all. -/
import Derived.Test.YtjgbcfecgbkefaaDoorHdrI
namespace Go.Proofs.YtjgbcfecgbkefaaDoor
open Go Go.RowKit

/-- Where the head of all bytes ends. -/
theorem head_chain (l : List UInt8) : chainL 0 (behindN (linesS l 0 l.length) l.length) ((linesS l 0 l.length).take (eI (linesS l 0 l.length))) ∧ behindN (linesS l 0 l.length) l.length ≤ l.length := by
  have hc := chainL_lines l _ 0 l.length (Nat.le_refl _) (Nat.zero_le _) (Nat.le_refl _)
  unfold behindN
  split
  · next h => exact ⟨chainL_head _ h hc, (chainL_at _ h hc).2.2.2⟩
  · exact ⟨chainL_take _ hc, Nat.le_refl _⟩
theorem linesS_plain (l : List UInt8) : ∀ (q a b : Nat), b - a ≤ q → b ≤ l.length → ∀ x ∈ linesS l a b, ∀ k, x.f ≤ k → k < x.t → ¬ l.getD k 0 = 10
  | q, a, b, hq, hb => by
    rcases Nat.lt_or_ge a b with h | h
    · have hF := firstS_bounds l h
      rw [linesS_step l h hb]
      intro x hx k h1 h2
      rcases List.mem_cons.1 hx with rfl | hx
      · exact firstS_plain l (by rw [hF.1] at h1; exact h1) h2
      · cases q with
        | zero => omega
        | succ q => exact linesS_plain l q _ b (by have := hF.2.2.2.1; omega) hb x hx k h1 h2
    · rw [linesS_nil l (by omega)]
      intro x hx
      cases hx
theorem trimS_mem {l : List UInt8} {c : UInt8} (h : c ∈ trimS l) : c ∈ l := by
  obtain ⟨a, b, e, _⟩ := trim_parts l
  rw [e]
  exact List.mem_append_left _ (List.mem_append_right _ h)
theorem bodyS_plain (l : List UInt8) (b t : Int) : ∀ c ∈ bodyS l b t, c ≠ 10 := by
  intro c hc
  have h1 := trimS_mem hc
  unfold textsL at h1
  obtain ⟨p, hp, hcp⟩ := List.mem_flatten.1 h1
  obtain ⟨x, hx, rfl⟩ := List.mem_map.1 hp
  have hbd := linesZ_bounds hx
  obtain ⟨j, hj, rfl⟩ := List.getElem_of_mem hcp
  have hlen := textOf_len (l := l) (x := x) (by omega)
  have hat := textOf_at (l := l) (x := x) (j := j) (by omega)
  rw [List.getD_eq_getElem?_getD, List.getElem?_eq_getElem hj] at hat
  simp only [Option.getD_some] at hat
  rw [hat]
  unfold linesZ at hx
  split at hx
  · next hw =>
    have hw := of_decide_eq_true hw
    exact linesS_plain l _ _ _ (Nat.le_refl _) (by omega) x hx (x.f + j) (by omega) (by omega)
  · cases hx
theorem piecesL_both (l : List UInt8) (ns : List ByteArray) (fs : List Fld) : (piecesL l ns false fs).length + (piecesL l ns true fs).length = (piecesL l [] true fs).length := by
  induction fs with
  | nil => rfl
  | cons x r ih =>
    have e : ∀ (m : List ByteArray) (bt : Bool), (piecesL l m bt (x :: r)).length = (if keepB m bt x = true then (pieceL l x).length else 0) + (piecesL l m bt r).length := by
      intro m bt
      rw [show x :: r = [x] ++ r from rfl, piecesL_app, List.length_append]
      congr 1
      unfold piecesL
      by_cases hk : keepB m bt x = true
      · rw [List.filter_cons_of_pos hk, if_pos hk]
        simp
      · rw [List.filter_cons_of_neg hk, if_neg hk]
        rfl
    rw [e, e, e]
    have e3 : keepB [] true x = true := rfl
    rw [if_pos e3]
    unfold keepB
    cases inS ns x.nm <;> simp <;> omega
theorem piecesL_bound (l : List UInt8) (ns : List ByteArray) (but : Bool) (fs : List Fld) (h : inF l fs) : (piecesL l ns but fs).length ≤ fs.length * (l.length + 2) := by
  induction fs with
  | nil => simp [piecesL]
  | cons x r ih =>
    have ih' := ih (fun y hy => h y (List.mem_cons_of_mem _ hy))
    have hx := h x (List.mem_cons_self ..)
    have hp : (pieceL l x).length ≤ l.length + 2 := by
      unfold pieceL
      rw [List.length_append, partS_len l hx.2]
      split <;> simp <;> omega
    have e : (piecesL l ns but (x :: r)).length ≤ (pieceL l x).length + (piecesL l ns but r).length := by
      rw [show x :: r = [x] ++ r from rfl, piecesL_app, List.length_append]
      have : (piecesL l ns but [x]).length ≤ (pieceL l x).length := by
        unfold piecesL
        by_cases hk : keepB ns but x = true
        · rw [List.filter_cons_of_pos hk]
          simp
        · rw [List.filter_cons_of_neg hk]
          simp
      omega
    rw [List.length_cons, Nat.add_mul]
    omega
theorem trimS_len (l : List UInt8) : (trimS l).length ≤ l.length := by
  obtain ⟨a, b, e, _⟩ := trim_parts l
  have := congrArg List.length e
  simp only [List.length_append] at this
  omega
theorem textsL_bound (l : List UInt8) : ∀ ls : List Ln, (∀ x ∈ ls, x.t ≤ l.length) → (textsL l ls).length ≤ ls.length * l.length
  | [], _ => by simp [textsL]
  | x :: r, h => by
    have ih := textsL_bound l r (fun y hy => h y (List.mem_cons_of_mem _ hy))
    have hx := textOf_len (h x (List.mem_cons_self ..))
    have hx2 := h x (List.mem_cons_self ..)
    have e : (textsL l (x :: r)).length = (textOf l x).length + (textsL l r).length := by simp [textsL]
    rw [e, List.length_cons, Nat.add_mul]
    omega
theorem bodyS_len (l : List UInt8) (b t : Int) : (bodyS l b t).length ≤ l.length * l.length := by
  have h1 := trimS_len (textsL l (linesZ l b t))
  have h2 := textsL_bound l (linesZ l b t) (fun x hx => by have := linesZ_bounds hx; omega)
  have h3 := Nat.mul_le_mul_right l.length (linesZ_len l b t)
  unfold bodyS
  omega
end Go.Proofs.YtjgbcfecgbkefaaDoor
