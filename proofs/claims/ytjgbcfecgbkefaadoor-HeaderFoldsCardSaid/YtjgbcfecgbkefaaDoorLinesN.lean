/- Lines that are put together, in plain words. -/
import Derived.Test.YtjgbcfecgbkefaaDoorLinesM
namespace Go.Proofs.YtjgbcfecgbkefaaDoor
open Go Go.RowKit

def plainB (c : UInt8) : Bool := c != 10 && c != 13
theorem plainB_iff (c : UInt8) : plainB c = true ↔ c ≠ 10 ∧ c ≠ 13 := by simp [plainB]
def textOf (b : List UInt8) (x : Ln) : List UInt8 := partS b x.f x.t
/-- Whatever stands behind these bytes, ahead of it are just the lines with these texts. -/
def Joined (b : List UInt8) (want : List (List UInt8)) : Prop :=
  ∃ xs : List Ln, ∀ s, linesS (b ++ s) 0 (b ++ s).length = xs ++ linesS (b ++ s) b.length (b ++ s).length ∧ xs.map (textOf (b ++ s)) = want
theorem Joined.start : Joined [] [] := ⟨[], fun _ => ⟨rfl, rfl⟩⟩
theorem feedI_here {r s : List UInt8} (h : ∀ c ∈ r, c ≠ 10) : feedI (r ++ 10 :: s) = r.length := by
  unfold feedI
  induction r with
  | nil => rfl
  | cons c r ih =>
    rw [List.cons_append, List.findIdx_cons]
    have hc : (c == 10) = false := by simpa using h c (List.mem_cons_self ..)
    rw [hc]
    simp only [cond_false, List.length_cons]
    rw [ih (fun d hd => h d (List.mem_cons_of_mem _ hd))]
theorem feedI_none {r : List UInt8} (h : ∀ c ∈ r, c ≠ 10) : feedI r = r.length := by
  unfold feedI
  induction r with
  | nil => rfl
  | cons c r ih =>
    rw [List.findIdx_cons]
    have hc : (c == 10) = false := by simpa using h c (List.mem_cons_self ..)
    rw [hc]
    simp only [cond_false, List.length_cons]
    rw [ih (fun d hd => h d (List.mem_cons_of_mem _ hd))]
theorem partS_behind (p r : List UInt8) : partS (p ++ r) p.length (p ++ r).length = r := by
  unfold partS
  rw [List.drop_left, List.length_append, Nat.add_sub_cancel_left, List.take_length]
theorem partS_mid (p t s : List UInt8) : partS (p ++ (t ++ s)) p.length (p.length + t.length) = t := by
  unfold partS
  rw [List.drop_left, Nat.add_sub_cancel_left, List.take_left]
theorem getD_mid (p r : List UInt8) (i : Nat) : (p ++ r).getD (p.length + i) 0 = r.getD i 0 := by
  rw [List.getD_eq_getElem?_getD, List.getD_eq_getElem?_getD, List.getElem?_append_right (by omega), Nat.add_sub_cancel_left]
/-- One line with its end. -/
theorem line_here (p t s : List UInt8) (cr : Bool) (ht : ∀ c ∈ t, plainB c = true) :
    linesS (p ++ (t ++ (if cr then [13, 10] else [10]) ++ s)) p.length (p ++ (t ++ (if cr then [13, 10] else [10]) ++ s)).length =
      ⟨p.length, p.length + t.length, p.length + t.length + (if cr then 2 else 1)⟩ :: linesS (p ++ (t ++ (if cr then [13, 10] else [10]) ++ s)) (p.length + t.length + (if cr then 2 else 1)) (p ++ (t ++ (if cr then [13, 10] else [10]) ++ s)).length := by
  have h10 : ∀ c ∈ t, c ≠ 10 := fun c hc => ((plainB_iff c).1 (ht c hc)).1
  have h13 : ∀ c ∈ t, c ≠ 13 := fun c hc => ((plainB_iff c).1 (ht c hc)).2
  obtain ⟨B, hB⟩ : ∃ B, B = p ++ (t ++ (if cr then [13, 10] else [10]) ++ s) := ⟨_, rfl⟩
  have hlt : p.length < B.length := by rw [hB]; cases cr <;> simp <;> omega
  have hF : firstS B p.length B.length = ⟨p.length, p.length + t.length, p.length + t.length + (if cr then 2 else 1)⟩ := by
    have hp : partS B p.length B.length = t ++ (if cr then [13, 10] else [10]) ++ s := by rw [hB]; exact partS_behind _ _
    cases cr
    · have hfeed : feedI (partS B p.length B.length) = t.length := by
        rw [hp]
        have := feedI_here (r := t) (s := s) h10
        simpa using this
      unfold firstS
      rw [hfeed, if_pos (by rw [hB]; simp)]
      congr 1
      unfold endA
      rw [if_neg]
      rintro ⟨h1, h2⟩
      rw [hB, show p.length + t.length - 1 = p.length + (t.length - 1) by omega, getD_mid, List.getD_eq_getElem?_getD, List.append_assoc, List.getElem?_append_left (by omega), List.getElem?_eq_getElem (by omega)] at h2
      exact h13 _ (List.getElem_mem (by omega)) h2
    · have hfeed : feedI (partS B p.length B.length) = t.length + 1 := by
        rw [hp]
        have := feedI_here (r := t ++ [13]) (s := s) (by
          intro c hc
          rcases List.mem_append.1 hc with h | h
          · exact h10 c h
          · simp at h; subst h; decide)
        simpa using this
      unfold firstS
      rw [hfeed, if_pos (by rw [hB]; simp)]
      congr 1
      unfold endA
      rw [if_pos]
      · omega
      · refine ⟨by omega, ?_⟩
        rw [hB, show p.length + (t.length + 1) - 1 = p.length + t.length by omega, getD_mid, List.getD_eq_getElem?_getD, List.append_assoc, List.getElem?_append_right (by omega), Nat.sub_self]
        rfl
  rw [← hB, linesS_step B hlt (Nat.le_refl _), hF]
theorem Joined.step {b : List UInt8} {want : List (List UInt8)} (h : Joined b want) {t : List UInt8} (ht : ∀ c ∈ t, plainB c = true) (cr : Bool) : Joined (b ++ t ++ (if cr then [13, 10] else [10])) (want ++ [t]) := by
  obtain ⟨xs, hx⟩ := h
  refine ⟨xs ++ [⟨b.length, b.length + t.length, b.length + t.length + (if cr then 2 else 1)⟩], fun s => ?_⟩
  have e : b ++ t ++ (if cr then [13, 10] else [10]) ++ s = b ++ (t ++ (if cr then [13, 10] else [10]) ++ s) := by simp
  have el : (b ++ t ++ (if cr then [13, 10] else [10])).length = b.length + t.length + (if cr then 2 else 1) := by cases cr <;> simp <;> omega
  obtain ⟨h1, h2⟩ := hx (t ++ (if cr then [13, 10] else [10]) ++ s)
  rw [el, e]
  refine ⟨?_, ?_⟩
  · rw [h1, line_here b t s cr ht]
    simp
  · rw [List.map_append, h2]
    congr 1
    show [textOf _ _] = [t]
    congr 1
    unfold textOf
    rw [List.append_assoc]
    exact partS_mid b t _
theorem Joined.whole {b : List UInt8} {want : List (List UInt8)} (h : Joined b want) : (linesS b 0 b.length).map (textOf b) = want := by
  obtain ⟨xs, hx⟩ := h
  obtain ⟨h1, h2⟩ := hx []
  rw [List.append_nil] at h1 h2
  rw [h1, linesS_nil b (Nat.lt_irrefl _), List.append_nil]
  exact h2
theorem Joined.left {b : List UInt8} {want : List (List UInt8)} (h : Joined b want) {r : List UInt8} (hr : ∀ c ∈ r, plainB c = true) (h0 : r ≠ []) : (linesS (b ++ r) 0 (b ++ r).length).map (textOf (b ++ r)) = want ++ [r] := by
  obtain ⟨xs, hx⟩ := h
  obtain ⟨h1, h2⟩ := hx r
  have hpos := List.length_pos_iff.2 h0
  have hlt : b.length < (b ++ r).length := by rw [List.length_append]; omega
  have hF : firstS (b ++ r) b.length (b ++ r).length = ⟨b.length, (b ++ r).length, (b ++ r).length⟩ := by
    unfold firstS
    rw [partS_behind, feedI_none (fun c hc => ((plainB_iff c).1 (hr c hc)).1), if_neg (by rw [List.length_append]; omega)]
  rw [h1, linesS_step _ hlt (Nat.le_refl _), hF, linesS_nil _ (Nat.lt_irrefl _), List.map_append, h2]
  congr 1
  show [textOf _ _] = [r]
  congr 1
  exact partS_behind b r
end Go.Proofs.YtjgbcfecgbkefaaDoor
