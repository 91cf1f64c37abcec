/- Contracts of package b64: Decode. -/
import Derived.Test.YtolkjaebhhbilaaDoorB64G
import Derived.Outline
namespace Go.Proofs.YtolkjaebhhbilaaDoor
open Go Go.RowKit

theorem bytesOf_none {a b c d : UInt8} {bl off cap B : Nat} {t : TypeId} {w : World} (hs : sliceAt w (some ⟨bl, off, none⟩) [a, b, c, d]) (hcap : 4 ≤ cap) (hrow : rowAt w B t (bhL 64)) (h : dec4 a b c d = none) :
    Calls Tryd.prog 36 #[.slice (some ⟨bl, off, none⟩) 4 cap, .func (.func 43) #[] #[.pointer (some ⟨B, 0, none⟩)]] w fun e w' => e = .returned (.tuple #[.slice none 0 0, .bool false]) ∧ Below w.heap.size w w' := by
  unfold dec4 at h
  by_cases v0 : valB a < 64
  · by_cases v1 : valB b < 64
    · by_cases q3 : d = 61
      · by_cases q2 : c = 61
        · rw [if_pos q3, if_pos q2] at h
          refine bo_2_bad a b c d bl off cap B t w hs hcap hrow (by unfold fillN; rw [if_pos q3, if_pos q2]) v0 v1 fun hz => ?_
          rw [if_pos ⟨v0, v1, hz⟩] at h
          cases h
        · rw [if_pos q3, if_neg q2] at h
          have hf : fillN c d = 3 := by unfold fillN; rw [if_pos q3, if_neg q2]
          by_cases v2 : valB c < 64
          · refine bo_3_bad a b c d bl off cap B t w hs hcap hrow hf v0 v1 v2 fun hz => ?_
            rw [if_pos ⟨v0, v1, v2, hz⟩] at h
            cases h
          · exact bo_3_2 a b c d bl off cap B t w hs hcap hrow hf v0 v1 v2
      · rw [if_neg q3] at h
        have hf : fillN c d = 4 := by unfold fillN; rw [if_neg q3]
        by_cases v2 : valB c < 64
        · by_cases v3 : valB d < 64
          · rw [if_pos ⟨v0, v1, v2, v3⟩] at h
            cases h
          · exact bo_4_3 a b c d bl off cap B t w hs hcap hrow hf v0 v1 v2 v3
        · exact bo_4_2 a b c d bl off cap B t w hs hcap hrow hf v0 v1 v2
    · have hf : fillN c d = 2 ∨ fillN c d = 3 ∨ fillN c d = 4 := by unfold fillN; split <;> (try split) <;> simp
      rcases hf with hf | hf | hf
      · exact bo_2_1 a b c d bl off cap B t w hs hcap hrow hf v0 v1
      · exact bo_3_1 a b c d bl off cap B t w hs hcap hrow hf v0 v1
      · exact bo_4_1 a b c d bl off cap B t w hs hcap hrow hf v0 v1
  · have hf : fillN c d = 2 ∨ fillN c d = 3 ∨ fillN c d = 4 := by unfold fillN; split <;> (try split) <;> simp
    rcases hf with hf | hf | hf
    · exact bo_2_0 a b c d bl off cap B t w hs hcap hrow hf v0
    · exact bo_3_0 a b c d bl off cap B t w hs hcap hrow hf v0
    · exact bo_4_0 a b c d bl off cap B t w hs hcap hrow hf v0
/-- What a call of bytesOf gives where the four letters are of xs. -/
def BytesGot (w : World) (k : Nat) (xs : List UInt8) (e : Ending) (w' : World) : Prop :=
  e = .returned (.tuple #[.slice (some ⟨w.heap.size, 0, none⟩) k 3, .bool true]) ∧ sliceAt w' (some ⟨w.heap.size, 0, none⟩) xs ∧ Below w.heap.size w w'
set_option maxRecDepth 100000 in
theorem bytesOf_some {a b c d : UInt8} {bl off cap B : Nat} {t : TypeId} {w : World} {xs : List UInt8} (hs : sliceAt w (some ⟨bl, off, none⟩) [a, b, c, d]) (hcap : 4 ≤ cap) (hrow : rowAt w B t (bhL 64)) (h : dec4 a b c d = some xs) :
    ∃ k, k = xs.length ∧ (k = 1 ∨ k = 2 ∨ k = 3) ∧ Calls Tryd.prog 36 #[.slice (some ⟨bl, off, none⟩) 4 cap, .func (.func 43) #[] #[.pointer (some ⟨B, 0, none⟩)]] w (BytesGot w k xs) := by
  unfold dec4 at h
  by_cases q3 : d = 61
  · rw [if_pos q3] at h
    by_cases q2 : c = 61
    · rw [if_pos q2] at h
      have hf : fillN c d = 2 := by unfold fillN; rw [if_pos q3, if_pos q2]
      split at h
      · rename_i hv
        cases h
        exact ⟨1, rfl, .inl rfl, bo_2_ok a b c d bl off cap B t w hs hcap hrow hf hv.1 hv.2.1 hv.2.2⟩
      · cases h
    · rw [if_neg q2] at h
      have hf : fillN c d = 3 := by unfold fillN; rw [if_pos q3, if_neg q2]
      split at h
      · rename_i hv
        cases h
        exact ⟨2, rfl, .inr (.inl rfl), bo_3_ok a b c d bl off cap B t w hs hcap hrow hf hv.1 hv.2.1 hv.2.2.1 hv.2.2.2⟩
      · cases h
  · rw [if_neg q3] at h
    have hf : fillN c d = 4 := by unfold fillN; rw [if_neg q3]
    split at h
    · rename_i hv
      cases h
      exact ⟨3, rfl, .inr (.inr rfl), bo_4_ok a b c d bl off cap B t w hs hcap hrow hf hv.1 hv.2.1 hv.2.2.1 hv.2.2.2⟩
    · cases h
end Go.Proofs.YtolkjaebhhbilaaDoor
