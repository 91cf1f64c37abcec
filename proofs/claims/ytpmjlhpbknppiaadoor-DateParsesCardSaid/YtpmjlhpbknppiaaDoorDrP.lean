/- The document's parts of a text without comments are what stands between blanks and comments. No program. -/
import Derived.Test.YtpmjlhpbknppiaaDoorDtH
namespace Go.Proofs.YtpmjlhpbknppiaaDoor
open Go Go.RowKit

/-- A text with comments as blanks, so deep within them. -/
def bareR : Bool → Nat → List UInt8 → List UInt8
  | _, _, [] => []
  | true, d, _ :: r => bareR false d r
  | false, d, c :: r => if c = 40 then 32 :: bareR false (d + 1) r else if d = 0 then c :: bareR false 0 r else if c = 92 then bareR true d r else if c = 41 then bareR false (d - 1) r else bareR false d r
/-- The parts between blanks, one of them begun. -/
def partsR : List UInt8 → List UInt8 → List (List UInt8)
  | now, [] => if now = [] then [] else [now]
  | now, c :: r => if blk c = true then (if now = [] then partsR [] r else now :: partsR [] r) else partsR (now ++ [c]) r
theorem partsR_front : ∀ (p now x : List UInt8), (∀ c ∈ p, blk c = false) → partsR now (p ++ x) = partsR (now ++ p) x
  | [], now, x, _ => by rw [List.nil_append, List.append_nil]
  | c :: p, now, x, h => by
    have hc := h c (List.mem_cons_self ..)
    show partsR now (c :: (p ++ x)) = _
    rw [partsR, hc]
    simp only [Bool.false_eq_true, if_false]
    rw [partsR_front p (now ++ [c]) x (fun d hd => h d (List.mem_cons_of_mem _ hd)), List.append_assoc]
    rfl
theorem bareR_front : ∀ (p x : List UInt8), (∀ c ∈ p, partB' c = true) → bareR false 0 (p ++ x) = p ++ bareR false 0 x
  | [], _, _ => rfl
  | c :: p, x, h => by
    have hc := h c (List.mem_cons_self ..)
    have hne : c ≠ 40 := by
      intro e
      subst e
      revert hc
      decide
    show bareR false 0 (c :: (p ++ x)) = c :: (p ++ bareR false 0 x)
    rw [bareR, if_neg hne, if_pos rfl, bareR_front p x (fun d hd => h d (List.mem_cons_of_mem _ hd))]
theorem partsR_blank {c : UInt8} (h : blk c = true) (r : List UInt8) : partsR [] (c :: r) = partsR [] r := by
  rw [partsR, if_pos h, if_pos rfl]
theorem bareR_in : ∀ (r : List UInt8) (e : Bool) (d : Nat), 1 ≤ d → partsR [] (bareR e d r) = partsR [] (bareR false 0 (cmt e d r))
  | [], e, d, _ => by cases e <;> rfl
  | c :: r, true, d, hd => by
    rw [bareR, cmt]
    exact bareR_in r false d hd
  | c :: r, false, d, hd => by
    rw [bareR, cmt]
    by_cases h40 : c = 40
    · have h92 : ¬ c = 92 := by rw [h40]; decide
      rw [if_pos h40, if_neg h92, if_pos h40, partsR_blank (by decide)]
      exact bareR_in r false (d + 1) (by omega)
    · rw [if_neg h40, if_neg (by omega)]
      by_cases h92 : c = 92
      · rw [if_pos h92, if_pos h92]
        exact bareR_in r true d hd
      · rw [if_neg h92, if_neg h92, if_neg h40]
        by_cases h41 : c = 41
        · rw [if_pos h41, if_pos h41]
          by_cases hd1 : d = 1
          · subst hd1
            rw [if_pos rfl]
          · rw [if_neg hd1]
            exact bareR_in r false (d - 1) (by omega)
        · rw [if_neg h41, if_neg h41]
          exact bareR_in r false d hd
theorem dropTW (p : UInt8 → Bool) : ∀ l : List UInt8, l.drop (l.takeWhile p).length = l.dropWhile p
  | [] => rfl
  | a :: r => by
    by_cases h : p a = true
    · simp [h, dropTW p r]
    · simp [h]
theorem dw_head (p : UInt8 → Bool) : ∀ (l : List UInt8) (c : UInt8) (r : List UInt8), l.dropWhile p = c :: r → p c = false
  | [], _, _, h => by cases h
  | a :: l, c, r, h => by
    by_cases ha : p a = true
    · rw [List.dropWhile_cons, if_pos ha] at h
      exact dw_head p l c r h
    · rw [List.dropWhile_cons, if_neg ha] at h
      cases h
      simpa using ha
theorem tw_mem (p : UInt8 → Bool) (l : List UInt8) : ∀ c ∈ l.takeWhile p, p c = true := fun c hc => by
  induction l with
  | nil => cases hc
  | cons a r ih =>
    rw [List.takeWhile_cons] at hc
    by_cases ha : p a = true
    · rw [if_pos ha] at hc
      rcases List.mem_cons.1 hc with rfl | hc
      · exact ha
      · exact ih hc
    · rw [if_neg ha] at hc
      cases hc
theorem parts_bet : ∀ (n : Nat) (l : List UInt8), l.length ≤ n → partsR [] (bareR false 0 l) = betL n l
  | 0, l, h => by
    obtain rfl : l = [] := List.eq_nil_of_length_eq_zero (by omega)
    rfl
  | n + 1, l, h => by
    rw [betL]
    by_cases hl : l = []
    · subst hl
      rw [if_pos rfl]
      rfl
    · rw [if_neg hl, dropTW]
      have hall := tw_mem partB' l
      have hspl : l = l.takeWhile partB' ++ l.dropWhile partB' := (List.takeWhile_append_dropWhile).symm
      have hlen : (l.takeWhile partB').length + (l.dropWhile partB').length = l.length := by
        have := congrArg List.length hspl
        rw [List.length_append] at this
        exact this.symm
      have hbl : ∀ c ∈ l.takeWhile partB', blk c = false := fun c hc => by
        have := hall c hc
        unfold partB' at this
        simp only [Bool.and_eq_true] at this
        simpa using this.1
      have h1 : partsR [] (bareR false 0 l) = partsR (l.takeWhile partB') (bareR false 0 (l.dropWhile partB')) := by
        conv => lhs; rw [hspl]
        rw [bareR_front _ _ hall, partsR_front _ _ _ hbl, List.nil_append]
      rw [h1]
      obtain ⟨t, ht⟩ : ∃ t, t = l.takeWhile partB' := ⟨_, rfl⟩
      rw [← ht] at hlen ⊢
      cases hx : l.dropWhile partB' with
      | nil =>
        have hb : betL n (beh 0 []) = [] := by
          cases n <;> rfl
        rw [hb]
        show partsR t [] = _
        rw [partsR, List.append_nil]
      | cons c r =>
        rw [hx] at hlen
        simp only [List.length_cons] at hlen
        have hpc := dw_head partB' l c r hx
        have hpush : ∀ y, blk y = true → ∀ z, partsR t (y :: z) = (if t = [] then [] else [t]) ++ partsR [] z := fun y hy z => by
          rw [partsR, if_pos hy]
          by_cases ht0 : t = []
          · rw [if_pos ht0, if_pos ht0]; rfl
          · rw [if_neg ht0, if_neg ht0]; rfl
        by_cases h40 : c = 40
        · have hbr : bareR false 0 (c :: r) = 32 :: bareR false 1 r := by rw [bareR, if_pos h40]
          have hbe : beh 0 (c :: r) = cmt false 1 r := by unfold beh; rw [if_pos rfl]; simp only; rw [if_pos h40]
          have hcl := cmt_len r false 1
          rw [hbr, hpush 32 (by decide), bareR_in r false 1 (Nat.le_refl _), hbe, parts_bet n _ (by omega)]
        · have hcb : blk c = true := by
            unfold partB' at hpc
            have hne : (c != 40) = true := by simpa using h40
            rw [hne, Bool.and_true] at hpc
            simpa using hpc
          have hbr : bareR false 0 (c :: r) = c :: bareR false 0 r := by rw [bareR, if_neg h40, if_pos rfl]
          have hbe : beh 0 (c :: r) = r := by unfold beh; rw [if_pos rfl]; simp only; rw [if_neg h40]
          rw [hbr, hpush c hcb, hbe, parts_bet n _ (by omega)]
theorem parts_all (l : List UInt8) : partsR [] (bareR false 0 l) = bet l := parts_bet l.length l (Nat.le_refl _)
end Go.Proofs.YtpmjlhpbknppiaaDoor
