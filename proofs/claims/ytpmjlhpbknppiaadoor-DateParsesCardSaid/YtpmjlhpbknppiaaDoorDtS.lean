/- Plain words of layer 11: a moment as IMAP tells it. -/
import Derived.Test.YtpmjlhpbknppiaaDoorDtR
namespace Go.Proofs.YtpmjlhpbknppiaaDoor

def intS (P : Nat) : List St := [markS 34, twoS (P, 2), markS 45, monS (P, 1), markS 45, digS 4 (P, 0), markS 32, digS 2 (P, 3), markS 58, digS 2 (P, 4), markS 58, digS 2 (P, 5), markS 32, awayS (P, 6), markS 34]
def intP (P : Nat) : List Pf := [markF [34], eitherF [digF 2 (P, 2), rowF [markF [32], digF 1 (P, 2)]], markF [45], monF (P, 1), markF [45], digF 4 (P, 0), markF [32], digF 2 (P, 3), markF [58], digF 2 (P, 4), markF [58], digF 2 (P, 5), markF [32], awayF (P, 6), markF [34]]
theorem intS_is (P : Nat) : ∀ s ∈ intS P, IsSt s := by
  intro s hs
  simp only [intS, List.mem_cons, List.not_mem_nil, or_false] at hs
  rcases hs with rfl | rfl | rfl | rfl | rfl | rfl | rfl | rfl | rfl | rfl | rfl | rfl | rfl | rfl | rfl
  all_goals first | exact markS_is _ | exact twoS_is _ | exact monS_is _ | exact digS_is _ _ | exact awayS_is _
/-- The form of such a text. -/
def intC (l : List UInt8) : Prop :=
  l.head? = some 34 ∧ (twoD (l.drop 1)).isSome = true ∧ (l.drop 3).head? = some 45 ∧ monI (l.drop 4) < 12 ∧ (l.drop 7).head? = some 45 ∧ digOk 4 (l.drop 8) ∧ (l.drop 12).head? = some 32 ∧ digOk 2 (l.drop 13) ∧ (l.drop 15).head? = some 58 ∧ digOk 2 (l.drop 16) ∧ (l.drop 18).head? = some 58 ∧ digOk 2 (l.drop 19) ∧ (l.drop 21).head? = some 32 ∧ (zonK (l.drop 22)).isSome = true ∧ (l.drop 27).head? = some 34
theorem int_all (P : Nat) (l : List UInt8) : (allC (intS P) l = true) ↔ intC l := by
  unfold intS intC
  simp only [allC, twoS, markS, monS, digS, awayS, List.drop_drop, Bool.and_true, Bool.and_eq_true, decide_eq_true_eq]
theorem int_endL (P : Nat) (l : List UInt8) : endL (intS P) l = l.drop 28 := by
  unfold intS
  simp only [endL, twoS, markS, monS, digS, awayS, List.drop_drop]
def intY (l : List UInt8) : Nat := numOf ((l.drop 8).take 4)
def intM (l : List UInt8) : Nat := monI (l.drop 4)
def intD (l : List UInt8) : Nat := (twoD (l.drop 1)).getD 0
def intH (l : List UInt8) : Nat := numOf ((l.drop 13).take 2)
def intI (l : List UInt8) : Nat := numOf ((l.drop 16).take 2)
def intX (l : List UInt8) : Nat := numOf ((l.drop 19).take 2)
def intZ (l : List UInt8) : Int := (zonK (l.drop 22)).getD 0
theorem int_endS (P : Nat) (σ : Sg) (l : List UInt8) : Flds P (endS (intS P) σ l) (intY l) (intM l) (intD l) (intH l) (intI l) (intX l) (intZ l) := by
  unfold intS Flds intY intM intD intH intI intX intZ
  simp only [endS, twoS, markS, monS, digS, awayS, List.drop_drop]
  refine ⟨?_, ?_, ?_, ?_, ?_, ?_, ?_⟩ <;> simp [upd]
theorem twoD_le {l : List UInt8} {n : Nat} (h : twoD l = some n) : n ≤ 99 := by
  unfold twoD at h
  split at h
  · next hc =>
    have := numOf_two hc
    cases h
    exact this
  · split at h
    · next hc =>
      have n2 := numOf_lt _ hc.2.2
      rw [List.length_take, Nat.min_eq_left hc.2.1] at n2
      cases h
      omega
    · cases h
theorem zonK_le {l : List UInt8} {z : Int} (h : zonK l = some z) : -1500 ≤ z ∧ z ≤ 1500 := by
  unfold zonK at h
  split at h
  · split at h
    · next hc =>
      cases h
      unfold awayM
      split <;> omega
    · cases h
  · cases h
theorem int_small {l : List UInt8} (h : intC l) : Smal (intY l) (intM l) (intD l) (intH l) (intI l) (intX l) (intZ l) := by
  obtain ⟨h0, h1, h2, h3, h4, h5, h6, h7, h8, h9, h10, h11, h12, h13, h14⟩ := h
  obtain ⟨d, hd⟩ := Option.isSome_iff_exists.1 h1
  obtain ⟨z, hz⟩ := Option.isSome_iff_exists.1 h13
  have hz' := zonK_le hz
  have hd' := twoD_le hd
  refine ⟨four_le h5, h3, ?_, numOf_two h7, numOf_two h9, numOf_two h11, ?_, ?_⟩
  · unfold intD
    rw [hd]
    exact hd'
  · unfold intZ
    rw [hz]
    exact hz'.1
  · unfold intZ
    rw [hz]
    exact hz'.2
theorem intC_len {l : List UInt8} (h : intC l) : 28 ≤ l.length := by
  obtain ⟨h0, h1, h2, h3, h4, h5, h6, h7, h8, h9, h10, h11, h12, h13, h14⟩ := h
  by_cases hl : 28 ≤ l.length
  · exact hl
  · rw [List.drop_of_length_le (by omega)] at h14
    cases h14
instance (l : List UInt8) : Decidable (intC l) := by unfold intC; exact inferInstance
/-- The moment of such a text. -/
def intK (l : List UInt8) : Option (Int × Int) := if intC l ∧ l.length = 28 ∧ intX l ≤ 59 then momentK (intY l) (intM l) (intD l) (intH l) (intI l) (intX l) (intZ l) else none
theorem int_whole (P : Nat) (σ : Sg) (l : List UInt8) :
    ((wholeF (intP P) σ l).1 = true ∧ intC l ∧ l.length = 28 ∧ Flds P (wholeF (intP P) σ l).2 (intY l) (intM l) (intD l) (intH l) (intI l) (intX l) (intZ l)) ∨ ((wholeF (intP P) σ l).1 = false ∧ intK l = none) := by
  obtain ⟨h1, h2⟩ := whole_steps (intS P) (intS_is P) σ l
  have e : (intS P).map (·.f) = intP P := rfl
  rw [e] at h1 h2
  rw [int_endL] at h1
  by_cases hc : intC l
  · have ha := (int_all P l).2 hc
    have hl := intC_len hc
    by_cases h28 : l.length = 28
    · left
      rw [h2 ha]
      refine ⟨?_, hc, h28, int_endS P σ l⟩
      rw [h1, ha, List.drop_of_length_le (by omega)]
      rfl
    · right
      constructor
      · rw [h1, decide_eq_false]
        · simp
        · rw [List.drop_eq_nil_iff]
          omega
      · unfold intK
        exact if_neg (fun h => h28 h.2.1)
  · right
    have ha : allC (intS P) l = false := by
      cases hx : allC (intS P) l with
      | false => rfl
      | true => exact absurd ((int_all P l).1 hx) hc
    constructor
    · rw [h1, ha]
      rfl
    · unfold intK
      exact if_neg (fun h => hc h.1)
end Go.Proofs.YtpmjlhpbknppiaaDoor
