/- Plain words of layer 11: a day's text, with or without quotes. -/
import Derived.Test.YtpmjlhpbknppiaaDoorDtR
namespace Go.Proofs.YtpmjlhpbknppiaaDoor

def bareC (l : List UInt8) : Prop := (digOk 2 l ∨ digOk 1 l) ∧ (l.drop (nD l)).head? = some 45 ∧ monI (l.drop (nD l + 1)) < 12 ∧ (l.drop (nD l + 4)).head? = some 45 ∧ digOk 4 (l.drop (nD l + 5))
def dayV (l : List UInt8) : Nat × Nat × Nat := (numOf ((l.drop (nD l + 5)).take 4), monI (l.drop (nD l + 1)), numOf (l.take (nD l)))
theorem dayK_some {l : List UInt8} (h : bareC l) (hl : l.length = nD l + 9) : dayK l = some (dayV l) := by
  unfold dayK
  rw [if_pos ⟨h.1, h.2.1, h.2.2.1, h.2.2.2.1, h.2.2.2.2, hl⟩]
  rfl
theorem dayK_inv {l : List UInt8} {p : Nat × Nat × Nat} (h : dayK l = some p) : bareC l ∧ l.length = nD l + 9 ∧ p = dayV l := by
  unfold dayK at h
  split at h
  · next hc => exact ⟨⟨hc.1, hc.2.1, hc.2.2.1, hc.2.2.2.1, hc.2.2.2.2.1⟩, hc.2.2.2.2.2, (Option.some.inj h).symm⟩
  · cases h
theorem bareC_len {l : List UInt8} (h : bareC l) : nD l + 9 ≤ l.length := by
  have := h.2.2.2.2.1
  rw [List.length_drop] at this
  omega
theorem nD_two (l : List UInt8) : nD l ≤ 2 := by unfold nD; split <;> omega
theorem nD_one (l : List UInt8) : 1 ≤ nD l := by unfold nD; split <;> omega
theorem take_drop_take (l : List UInt8) {N j k : Nat} (h : j + k ≤ N) : ((l.take N).drop j).take k = (l.drop j).take k := by
  rw [List.drop_take, List.take_take, Nat.min_eq_left (by omega)]
theorem digOk_take (l : List UInt8) {N j k : Nat} (h : j + k ≤ N) : digOk k ((l.take N).drop j) ↔ digOk k (l.drop j) := by
  unfold digOk
  rw [take_drop_take l h, List.length_drop, List.length_drop, List.length_take]
  constructor
  · rintro ⟨h1, h2⟩
    exact ⟨by omega, h2⟩
  · rintro ⟨h1, h2⟩
    exact ⟨by omega, h2⟩
theorem head_take (l : List UInt8) {N j : Nat} (h : j < N) : ((l.take N).drop j).head? = (l.drop j).head? := by
  rw [List.head?_drop, List.head?_drop, List.getElem?_take, if_pos h]
theorem monI_take (l : List UInt8) {N j : Nat} (h : j + 3 ≤ N) (hN : N ≤ l.length) : monI ((l.take N).drop j) = monI (l.drop j) := by
  unfold monI
  rw [take_drop_take l h]
  rw [List.length_drop, List.length_drop, List.length_take, Nat.min_eq_left hN]
  have e : decide (3 ≤ N - j) = decide (3 ≤ l.length - j) := by
    rw [decide_eq_true (by omega), decide_eq_true (by omega)]
  rw [e]
theorem nD_take (l : List UInt8) {N : Nat} (h : 2 ≤ N) : nD (l.take N) = nD l := by
  unfold nD
  have := digOk_take l (N := N) (j := 0) (k := 2) (by omega)
  rw [List.drop_zero, List.drop_zero] at this
  by_cases h2 : digOk 2 l
  · rw [if_pos h2, if_pos (this.2 h2)]
  · rw [if_neg h2, if_neg (fun e => h2 (this.1 e))]
theorem bare_take (l : List UInt8) {N : Nat} (hN : N ≤ l.length) (h : nD l + 9 = N) : (bareC (l.take N) ↔ bareC l) ∧ dayV (l.take N) = dayV l := by
  have h1 := nD_one l
  have hn := nD_take l (N := N) (by omega)
  have t2 := digOk_take l (N := N) (j := 0) (k := 2) (by omega)
  have t1 := digOk_take l (N := N) (j := 0) (k := 1) (by omega)
  rw [List.drop_zero, List.drop_zero] at t2 t1
  have t4 := digOk_take l (N := N) (j := nD l + 5) (k := 4) (by omega)
  have a0 := head_take l (N := N) (j := nD l) (by omega)
  have a4 := head_take l (N := N) (j := nD l + 4) (by omega)
  have m := monI_take l (N := N) (j := nD l + 1) (by omega) hN
  constructor
  · unfold bareC
    rw [hn, t2, t1, t4, a0, a4, m]
  · unfold dayV
    rw [hn, m, take_drop_take l (N := N) (j := nD l + 5) (k := 4) (by omega), List.take_take, Nat.min_eq_left (by omega)]
/-- Is a text between quotes? -/
def quotD (l : List UInt8) : Bool := decide (2 ≤ l.length ∧ l.head? = some 34 ∧ (l.drop (l.length - 1)).head? = some 34)
def innD (l : List UInt8) : List UInt8 := (l.drop 1).take (l.length - 2)
def dayQ (l : List UInt8) : Option (Nat × Nat × Nat) := if quotD l = true then dayK (innD l) else dayK l
def FldD (P : Nat) (σ : Sg) (p : Nat × Nat × Nat) : Prop := σ (P, 0) = (p.1 : Int) ∧ σ (P, 1) = (p.2.1 : Int) ∧ σ (P, 2) = (p.2.2 : Int)
theorem bare_flds (P : Nat) (σ : Sg) (l : List UInt8) : FldD P (endS (bareS P) σ l) (dayV l) := bare_endS P σ l
theorem bare_allC (P : Nat) (l : List UInt8) : (allC (bareS P) l = true) ↔ bareC l := by
  rw [bare_all]
  exact decide_eq_true_iff
theorem one_whole (P : Nat) (σ : Sg) (l : List UInt8) :
    ((wholeF [rowF (bareP P)] σ l).1 = true ∧ bareC l ∧ l.length = nD l + 9 ∧ FldD P (wholeF [rowF (bareP P)] σ l).2 (dayV l)) ∨ ((wholeF [rowF (bareP P)] σ l).1 = false ∧ dayK l = none) := by
  obtain ⟨h1, h2⟩ := whole_steps [bareT P] (by intro s hs; obtain rfl : s = bareT P := by simpa using hs
                                               exact bareT_is P) σ l
  have e : [bareT P].map (·.f) = [rowF (bareP P)] := rfl
  rw [e] at h1 h2
  have e2 : endL [bareT P] l = l.drop (nD l + 9) := by
    show l.drop (l.length - (endL (bareS P) l).length) = _
    rw [← endL_drop, bare_endL]
  have e3 : allC [bareT P] l = allC (bareS P) l := by
    show (allC (bareS P) l && true) = _
    rw [Bool.and_true]
  rw [e2, e3] at h1
  rw [e3] at h2
  by_cases hc : bareC l
  · have ha := (bare_allC P l).2 hc
    have hl := bareC_len hc
    by_cases hx : l.length = nD l + 9
    · left
      rw [h2 ha]
      refine ⟨?_, hc, hx, bare_flds P σ l⟩
      rw [h1, ha, List.drop_of_length_le (by omega)]
      rfl
    · right
      constructor
      · rw [h1, decide_eq_false]
        · simp
        · rw [List.drop_eq_nil_iff]
          omega
      · cases hk : dayK l with
        | none => rfl
        | some p => exact absurd (dayK_inv hk).2.1 hx
  · right
    have ha : allC (bareS P) l = false := by
      cases hx : allC (bareS P) l with
      | false => rfl
      | true => exact absurd ((bare_allC P l).1 hx) hc
    constructor
    · rw [h1, ha]
      rfl
    · cases hk : dayK l with
      | none => rfl
      | some p => exact absurd (dayK_inv hk).1 hc
def threeP (P : Nat) : List Pf := [markF [34], rowF (bareP P), markF [34]]
theorem three_whole (P : Nat) (σ : Sg) (l : List UInt8) :
    ((wholeF (threeP P) σ l).1 = true ∧ quotD l = true ∧ dayK (innD l) = some (dayV (l.drop 1)) ∧ FldD P (wholeF (threeP P) σ l).2 (dayV (l.drop 1))) ∨ ((wholeF (threeP P) σ l).1 = false ∧ (quotD l = true → dayK (innD l) = none)) := by
  obtain ⟨h1, h2⟩ := whole_steps [markS 34, bareT P, markS 34] (by
    intro s hs
    simp only [List.mem_cons, List.not_mem_nil, or_false] at hs
    rcases hs with rfl | rfl | rfl
    · exact markS_is _
    · exact bareT_is P
    · exact markS_is _) σ l
  have e : [markS 34, bareT P, markS 34].map (·.f) = threeP P := rfl
  rw [e] at h1 h2
  have e0 : (l.drop 1).drop ((bareT P).n (l.drop 1)) = l.drop (nD (l.drop 1) + 10) := by
    show (l.drop 1).drop ((l.drop 1).length - (endL (bareS P) (l.drop 1)).length) = _
    rw [← endL_drop, bare_endL, List.drop_drop]
    congr 1
    omega
  have e2 : endL [markS 34, bareT P, markS 34] l = l.drop (nD (l.drop 1) + 11) := by
    show ((l.drop 1).drop ((bareT P).n (l.drop 1))).drop 1 = _
    rw [e0, List.drop_drop]
  have e3 : (allC [markS 34, bareT P, markS 34] l = true) ↔ (l.head? = some 34 ∧ bareC (l.drop 1) ∧ (l.drop (nD (l.drop 1) + 10)).head? = some 34) := by
    show ((decide (l.head? = some 34) && (allC (bareS P) (l.drop 1) && (decide (((l.drop 1).drop ((bareT P).n (l.drop 1))).head? = some 34) && true))) = true) ↔ _
    rw [e0]
    simp only [Bool.and_true, Bool.and_eq_true, decide_eq_true_eq]
    rw [bare_allC]
  have e4 : endS [markS 34, bareT P, markS 34] σ l = endS (bareS P) σ (l.drop 1) := rfl
  rw [e2] at h1
  rw [e4] at h2
  by_cases hc : l.head? = some 34 ∧ bareC (l.drop 1) ∧ (l.drop (nD (l.drop 1) + 10)).head? = some 34
  · have ha := e3.2 hc
    have hl := bareC_len hc.2.1
    rw [List.length_drop] at hl
    have h10 : nD (l.drop 1) + 10 < l.length := by
      rcases Nat.lt_or_ge (nD (l.drop 1) + 10) l.length with h | h
      · exact h
      · have := hc.2.2
        rw [List.drop_of_length_le h] at this
        cases this
    by_cases hx : l.length = nD (l.drop 1) + 11
    · left
      rw [h2 ha]
      have hin : innD l = (l.drop 1).take (nD (l.drop 1) + 9) := by
        unfold innD
        congr 1
        omega
      have hN : nD (l.drop 1) + 9 ≤ (l.drop 1).length := by rw [List.length_drop]; omega
      obtain ⟨b1, b2⟩ := bare_take (l.drop 1) hN rfl
      refine ⟨?_, ?_, ?_, bare_flds P σ _⟩
      · rw [h1, ha, List.drop_of_length_le (by omega)]
        rfl
      · unfold quotD
        refine decide_eq_true ⟨by omega, hc.1, ?_⟩
        rw [show l.length - 1 = nD (l.drop 1) + 10 by omega]
        exact hc.2.2
      · rw [hin, ← b2]
        refine dayK_some (b1.2 hc.2.1) ?_
        rw [nD_take _ (by have := nD_one (l.drop 1); omega), List.length_take, Nat.min_eq_left hN]
    · right
      constructor
      · rw [h1, decide_eq_false]
        · simp
        · rw [List.drop_eq_nil_iff]
          omega
      · intro hq
        cases hk : dayK (innD l) with
        | none => rfl
        | some p =>
          exfalso
          obtain ⟨k1, k2, k3⟩ := dayK_inv hk
          have hql := (of_decide_eq_true hq).1
          have hle : (innD l).length = l.length - 2 := by
            unfold innD
            rw [List.length_take, List.length_drop]
            omega
          rw [hle] at k2
          have hn : nD (innD l) = nD (l.drop 1) := nD_take _ (by have := nD_one (innD l); omega)
          rw [hn] at k2
          omega
  · right
    have ha : allC [markS 34, bareT P, markS 34] l = false := by
      cases hx : allC [markS 34, bareT P, markS 34] l with
      | false => rfl
      | true => exact absurd (e3.1 hx) hc
    constructor
    · rw [h1, ha]
      rfl
    · intro hq
      cases hk : dayK (innD l) with
      | none => rfl
      | some p =>
        exfalso
        obtain ⟨k1, k2, k3⟩ := dayK_inv hk
        have hq' := of_decide_eq_true hq
        obtain ⟨hq1, hq2, hq3⟩ := hq'
        have hle : (innD l).length = l.length - 2 := by
          unfold innD
          rw [List.length_take, List.length_drop]
          omega
        rw [hle] at k2
        have h9 := nD_one (innD l)
        have hn : nD (innD l) = nD (l.drop 1) := nD_take _ (by omega)
        rw [hn] at k2
        have hN : l.length - 2 ≤ (l.drop 1).length := by rw [List.length_drop]; omega
        obtain ⟨b1, b2⟩ := bare_take (l.drop 1) hN (by omega)
        apply hc
        refine ⟨hq2, b1.1 k1, ?_⟩
        rw [show nD (l.drop 1) + 10 = l.length - 1 by omega]
        exact hq3
theorem digit_no34 {l : List UInt8} (h : bareC l) : l.head? ≠ some 34 := by
  intro e
  have h1 : digOk 1 l := by
    rcases h.1 with h2 | h1
    · exact ((digOk_app (n := 1) (m := 1)).1 h2).1
    · exact h1
  cases l with
  | nil => cases e
  | cons c r =>
    obtain rfl : c = 34 := by simpa using e
    have := h1.2
    simp [isDig] at this
theorem day_cases (P : Nat) (σ : Sg) (l : List UInt8) :
    ((wholeF [rowF (bareP P)] σ l).1 = true ∧ ∃ p, dayQ l = some p ∧ FldD P (wholeF [rowF (bareP P)] σ l).2 p) ∨
    ((wholeF [rowF (bareP P)] σ l).1 = false ∧
      (((wholeF (threeP P) (wholeF [rowF (bareP P)] σ l).2 l).1 = true ∧ ∃ p, dayQ l = some p ∧ FldD P (wholeF (threeP P) (wholeF [rowF (bareP P)] σ l).2 l).2 p) ∨
       ((wholeF (threeP P) (wholeF [rowF (bareP P)] σ l).2 l).1 = false ∧ dayQ l = none))) := by
  rcases one_whole P σ l with ⟨h1, hc, hl, hf⟩ | ⟨h1, hk⟩
  · left
    refine ⟨h1, _, ?_, hf⟩
    unfold dayQ
    rw [if_neg]
    · exact dayK_some hc hl
    · intro hq
      exact digit_no34 hc (of_decide_eq_true hq).2.1
  · right
    refine ⟨h1, ?_⟩
    rcases three_whole P (wholeF [rowF (bareP P)] σ l).2 l with ⟨h2, hq, hi, hf⟩ | ⟨h2, hn⟩
    · left
      refine ⟨h2, _, ?_, hf⟩
      unfold dayQ
      rw [if_pos hq]
      exact hi
    · right
      refine ⟨h2, ?_⟩
      unfold dayQ
      split
      · next hq => exact hn hq
      · exact hk
theorem dayQ_le {l : List UInt8} {p : Nat × Nat × Nat} (h : dayQ l = some p) : p.1 ≤ 9999 ∧ p.2.1 < 12 ∧ p.2.2 ≤ 99 := by
  unfold dayQ at h
  split at h <;> exact dayK_le h
/-- The number of a day's text. -/
def parseDayK (l : List UInt8) : Option Int := match dayQ l with
  | some p => numberK p.1 p.2.1 p.2.2
  | none => none
end Go.Proofs.YtpmjlhpbknppiaaDoor
