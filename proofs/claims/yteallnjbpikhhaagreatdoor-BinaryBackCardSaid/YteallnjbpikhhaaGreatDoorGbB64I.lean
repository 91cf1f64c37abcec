/- Contracts of package b64: four letters of which one is none. -/
import Derived.Test.YteallnjbpikhhaaGreatDoorGbB64F
import Derived.Outline
namespace Go.Proofs.YteallnjbpikhhaaGreatDoor
open Go Go.RowKit

theorem bo_2_0 (a b c d : UInt8) (bl off cap B : Nat) (t : TypeId) (w : World) (hs : sliceAt w (some ⟨bl, off, none⟩) [a, b, c, d]) (hcap : 4 ≤ cap) (hrow : rowAt w B t (bhL 64)) (hf : fillN c d = 2) (v0 : ¬ valB a < 64) :
    Calls Tryz.prog 78 #[.slice (some ⟨bl, off, none⟩) 4 cap, .func (.func 101) #[] #[.pointer (some ⟨B, 0, none⟩)]] w fun e w' => e = .returned (.tuple #[.slice none 0 0, .bool false]) ∧ Below w.heap.size w w' := by
  have HF := Lib.hid (filled_to a b c d bl off cap 2 w hs hf)
  obtain ⟨c0, c1, c2, c3⟩ := four_cells hs
  have H0 := Lib.hid (find_no' hrow v0)
  clear hf hs hrow v0
  go_enter Tryz.func78, Tryz.ntmps78
  go_wp2_with fail
  refine HF.out.mono ?_
  rintro e w1 ⟨rfl, rfl⟩
  go_wp2_with fail
  refine wp_loop_rounds 3 ?_
  rw [rounds_succ]; go_wp2_with fail
  refine H0.out.mono ?_
  rintro e w1 ⟨rfl, rfl⟩
  go_wp2_with fail
  go_ret2
  exact ⟨rfl, Below.refl _ _⟩

theorem bo_2_1 (a b c d : UInt8) (bl off cap B : Nat) (t : TypeId) (w : World) (hs : sliceAt w (some ⟨bl, off, none⟩) [a, b, c, d]) (hcap : 4 ≤ cap) (hrow : rowAt w B t (bhL 64)) (hf : fillN c d = 2) (v0 : valB a < 64) (v1 : ¬ valB b < 64) :
    Calls Tryz.prog 78 #[.slice (some ⟨bl, off, none⟩) 4 cap, .func (.func 101) #[] #[.pointer (some ⟨B, 0, none⟩)]] w fun e w' => e = .returned (.tuple #[.slice none 0 0, .bool false]) ∧ Below w.heap.size w w' := by
  have HF := Lib.hid (filled_to a b c d bl off cap 2 w hs hf)
  obtain ⟨c0, c1, c2, c3⟩ := four_cells hs
  obtain ⟨n0, e0⟩ : ∃ n, n = valB a := ⟨_, rfl⟩
  rw [← e0] at v0
  have H0 := Lib.hid (find_yes' hrow v0 e0)
  have H1 := Lib.hid (find_no' hrow v1)
  clear hf hs hrow e0 v1
  go_enter Tryz.func78, Tryz.ntmps78
  go_wp2_with fail
  refine HF.out.mono ?_
  rintro e w1 ⟨rfl, rfl⟩
  go_wp2_with fail
  refine wp_loop_rounds 3 ?_
  rw [rounds_succ]; go_wp2_with fail
  refine H0.out.mono ?_
  rintro e w1 ⟨rfl, rfl⟩
  go_wp2_with fail
  rw [rounds_succ]; go_wp2_with fail
  refine H1.out.mono ?_
  rintro e w1 ⟨rfl, rfl⟩
  go_wp2_with fail
  go_ret2
  exact ⟨rfl, Below.refl _ _⟩

theorem bo_3_0 (a b c d : UInt8) (bl off cap B : Nat) (t : TypeId) (w : World) (hs : sliceAt w (some ⟨bl, off, none⟩) [a, b, c, d]) (hcap : 4 ≤ cap) (hrow : rowAt w B t (bhL 64)) (hf : fillN c d = 3) (v0 : ¬ valB a < 64) :
    Calls Tryz.prog 78 #[.slice (some ⟨bl, off, none⟩) 4 cap, .func (.func 101) #[] #[.pointer (some ⟨B, 0, none⟩)]] w fun e w' => e = .returned (.tuple #[.slice none 0 0, .bool false]) ∧ Below w.heap.size w w' := by
  have HF := Lib.hid (filled_to a b c d bl off cap 3 w hs hf)
  obtain ⟨c0, c1, c2, c3⟩ := four_cells hs
  have H0 := Lib.hid (find_no' hrow v0)
  clear hf hs hrow v0
  go_enter Tryz.func78, Tryz.ntmps78
  go_wp2_with fail
  refine HF.out.mono ?_
  rintro e w1 ⟨rfl, rfl⟩
  go_wp2_with fail
  refine wp_loop_rounds 4 ?_
  rw [rounds_succ]; go_wp2_with fail
  refine H0.out.mono ?_
  rintro e w1 ⟨rfl, rfl⟩
  go_wp2_with fail
  go_ret2
  exact ⟨rfl, Below.refl _ _⟩

theorem bo_3_1 (a b c d : UInt8) (bl off cap B : Nat) (t : TypeId) (w : World) (hs : sliceAt w (some ⟨bl, off, none⟩) [a, b, c, d]) (hcap : 4 ≤ cap) (hrow : rowAt w B t (bhL 64)) (hf : fillN c d = 3) (v0 : valB a < 64) (v1 : ¬ valB b < 64) :
    Calls Tryz.prog 78 #[.slice (some ⟨bl, off, none⟩) 4 cap, .func (.func 101) #[] #[.pointer (some ⟨B, 0, none⟩)]] w fun e w' => e = .returned (.tuple #[.slice none 0 0, .bool false]) ∧ Below w.heap.size w w' := by
  have HF := Lib.hid (filled_to a b c d bl off cap 3 w hs hf)
  obtain ⟨c0, c1, c2, c3⟩ := four_cells hs
  obtain ⟨n0, e0⟩ : ∃ n, n = valB a := ⟨_, rfl⟩
  rw [← e0] at v0
  have H0 := Lib.hid (find_yes' hrow v0 e0)
  have H1 := Lib.hid (find_no' hrow v1)
  clear hf hs hrow e0 v1
  go_enter Tryz.func78, Tryz.ntmps78
  go_wp2_with fail
  refine HF.out.mono ?_
  rintro e w1 ⟨rfl, rfl⟩
  go_wp2_with fail
  refine wp_loop_rounds 4 ?_
  rw [rounds_succ]; go_wp2_with fail
  refine H0.out.mono ?_
  rintro e w1 ⟨rfl, rfl⟩
  go_wp2_with fail
  rw [rounds_succ]; go_wp2_with fail
  refine H1.out.mono ?_
  rintro e w1 ⟨rfl, rfl⟩
  go_wp2_with fail
  go_ret2
  exact ⟨rfl, Below.refl _ _⟩

theorem bo_3_2 (a b c d : UInt8) (bl off cap B : Nat) (t : TypeId) (w : World) (hs : sliceAt w (some ⟨bl, off, none⟩) [a, b, c, d]) (hcap : 4 ≤ cap) (hrow : rowAt w B t (bhL 64)) (hf : fillN c d = 3) (v0 : valB a < 64) (v1 : valB b < 64) (v2 : ¬ valB c < 64) :
    Calls Tryz.prog 78 #[.slice (some ⟨bl, off, none⟩) 4 cap, .func (.func 101) #[] #[.pointer (some ⟨B, 0, none⟩)]] w fun e w' => e = .returned (.tuple #[.slice none 0 0, .bool false]) ∧ Below w.heap.size w w' := by
  have HF := Lib.hid (filled_to a b c d bl off cap 3 w hs hf)
  obtain ⟨c0, c1, c2, c3⟩ := four_cells hs
  obtain ⟨n0, e0⟩ : ∃ n, n = valB a := ⟨_, rfl⟩
  rw [← e0] at v0
  have H0 := Lib.hid (find_yes' hrow v0 e0)
  obtain ⟨n1, e1⟩ : ∃ n, n = valB b := ⟨_, rfl⟩
  rw [← e1] at v1
  have H1 := Lib.hid (find_yes' hrow v1 e1)
  have H2 := Lib.hid (find_no' hrow v2)
  clear hf hs hrow e0 e1 v2
  go_enter Tryz.func78, Tryz.ntmps78
  go_wp2_with fail
  refine HF.out.mono ?_
  rintro e w1 ⟨rfl, rfl⟩
  go_wp2_with fail
  refine wp_loop_rounds 4 ?_
  rw [rounds_succ]; go_wp2_with fail
  refine H0.out.mono ?_
  rintro e w1 ⟨rfl, rfl⟩
  go_wp2_with fail
  rw [rounds_succ]; go_wp2_with fail
  refine H1.out.mono ?_
  rintro e w1 ⟨rfl, rfl⟩
  go_wp2_with fail
  rw [rounds_succ]; go_wp2_with fail
  refine H2.out.mono ?_
  rintro e w1 ⟨rfl, rfl⟩
  go_wp2_with fail
  go_ret2
  exact ⟨rfl, Below.refl _ _⟩

theorem bo_4_0 (a b c d : UInt8) (bl off cap B : Nat) (t : TypeId) (w : World) (hs : sliceAt w (some ⟨bl, off, none⟩) [a, b, c, d]) (hcap : 4 ≤ cap) (hrow : rowAt w B t (bhL 64)) (hf : fillN c d = 4) (v0 : ¬ valB a < 64) :
    Calls Tryz.prog 78 #[.slice (some ⟨bl, off, none⟩) 4 cap, .func (.func 101) #[] #[.pointer (some ⟨B, 0, none⟩)]] w fun e w' => e = .returned (.tuple #[.slice none 0 0, .bool false]) ∧ Below w.heap.size w w' := by
  have HF := Lib.hid (filled_to a b c d bl off cap 4 w hs hf)
  obtain ⟨c0, c1, c2, c3⟩ := four_cells hs
  have H0 := Lib.hid (find_no' hrow v0)
  clear hf hs hrow v0
  go_enter Tryz.func78, Tryz.ntmps78
  go_wp2_with fail
  refine HF.out.mono ?_
  rintro e w1 ⟨rfl, rfl⟩
  go_wp2_with fail
  refine wp_loop_rounds 5 ?_
  rw [rounds_succ]; go_wp2_with fail
  refine H0.out.mono ?_
  rintro e w1 ⟨rfl, rfl⟩
  go_wp2_with fail
  go_ret2
  exact ⟨rfl, Below.refl _ _⟩

theorem bo_4_1 (a b c d : UInt8) (bl off cap B : Nat) (t : TypeId) (w : World) (hs : sliceAt w (some ⟨bl, off, none⟩) [a, b, c, d]) (hcap : 4 ≤ cap) (hrow : rowAt w B t (bhL 64)) (hf : fillN c d = 4) (v0 : valB a < 64) (v1 : ¬ valB b < 64) :
    Calls Tryz.prog 78 #[.slice (some ⟨bl, off, none⟩) 4 cap, .func (.func 101) #[] #[.pointer (some ⟨B, 0, none⟩)]] w fun e w' => e = .returned (.tuple #[.slice none 0 0, .bool false]) ∧ Below w.heap.size w w' := by
  have HF := Lib.hid (filled_to a b c d bl off cap 4 w hs hf)
  obtain ⟨c0, c1, c2, c3⟩ := four_cells hs
  obtain ⟨n0, e0⟩ : ∃ n, n = valB a := ⟨_, rfl⟩
  rw [← e0] at v0
  have H0 := Lib.hid (find_yes' hrow v0 e0)
  have H1 := Lib.hid (find_no' hrow v1)
  clear hf hs hrow e0 v1
  go_enter Tryz.func78, Tryz.ntmps78
  go_wp2_with fail
  refine HF.out.mono ?_
  rintro e w1 ⟨rfl, rfl⟩
  go_wp2_with fail
  refine wp_loop_rounds 5 ?_
  rw [rounds_succ]; go_wp2_with fail
  refine H0.out.mono ?_
  rintro e w1 ⟨rfl, rfl⟩
  go_wp2_with fail
  rw [rounds_succ]; go_wp2_with fail
  refine H1.out.mono ?_
  rintro e w1 ⟨rfl, rfl⟩
  go_wp2_with fail
  go_ret2
  exact ⟨rfl, Below.refl _ _⟩

theorem bo_4_2 (a b c d : UInt8) (bl off cap B : Nat) (t : TypeId) (w : World) (hs : sliceAt w (some ⟨bl, off, none⟩) [a, b, c, d]) (hcap : 4 ≤ cap) (hrow : rowAt w B t (bhL 64)) (hf : fillN c d = 4) (v0 : valB a < 64) (v1 : valB b < 64) (v2 : ¬ valB c < 64) :
    Calls Tryz.prog 78 #[.slice (some ⟨bl, off, none⟩) 4 cap, .func (.func 101) #[] #[.pointer (some ⟨B, 0, none⟩)]] w fun e w' => e = .returned (.tuple #[.slice none 0 0, .bool false]) ∧ Below w.heap.size w w' := by
  have HF := Lib.hid (filled_to a b c d bl off cap 4 w hs hf)
  obtain ⟨c0, c1, c2, c3⟩ := four_cells hs
  obtain ⟨n0, e0⟩ : ∃ n, n = valB a := ⟨_, rfl⟩
  rw [← e0] at v0
  have H0 := Lib.hid (find_yes' hrow v0 e0)
  obtain ⟨n1, e1⟩ : ∃ n, n = valB b := ⟨_, rfl⟩
  rw [← e1] at v1
  have H1 := Lib.hid (find_yes' hrow v1 e1)
  have H2 := Lib.hid (find_no' hrow v2)
  clear hf hs hrow e0 e1 v2
  go_enter Tryz.func78, Tryz.ntmps78
  go_wp2_with fail
  refine HF.out.mono ?_
  rintro e w1 ⟨rfl, rfl⟩
  go_wp2_with fail
  refine wp_loop_rounds 5 ?_
  rw [rounds_succ]; go_wp2_with fail
  refine H0.out.mono ?_
  rintro e w1 ⟨rfl, rfl⟩
  go_wp2_with fail
  rw [rounds_succ]; go_wp2_with fail
  refine H1.out.mono ?_
  rintro e w1 ⟨rfl, rfl⟩
  go_wp2_with fail
  rw [rounds_succ]; go_wp2_with fail
  refine H2.out.mono ?_
  rintro e w1 ⟨rfl, rfl⟩
  go_wp2_with fail
  go_ret2
  exact ⟨rfl, Below.refl _ _⟩

theorem bo_4_3 (a b c d : UInt8) (bl off cap B : Nat) (t : TypeId) (w : World) (hs : sliceAt w (some ⟨bl, off, none⟩) [a, b, c, d]) (hcap : 4 ≤ cap) (hrow : rowAt w B t (bhL 64)) (hf : fillN c d = 4) (v0 : valB a < 64) (v1 : valB b < 64) (v2 : valB c < 64) (v3 : ¬ valB d < 64) :
    Calls Tryz.prog 78 #[.slice (some ⟨bl, off, none⟩) 4 cap, .func (.func 101) #[] #[.pointer (some ⟨B, 0, none⟩)]] w fun e w' => e = .returned (.tuple #[.slice none 0 0, .bool false]) ∧ Below w.heap.size w w' := by
  have HF := Lib.hid (filled_to a b c d bl off cap 4 w hs hf)
  obtain ⟨c0, c1, c2, c3⟩ := four_cells hs
  obtain ⟨n0, e0⟩ : ∃ n, n = valB a := ⟨_, rfl⟩
  rw [← e0] at v0
  have H0 := Lib.hid (find_yes' hrow v0 e0)
  obtain ⟨n1, e1⟩ : ∃ n, n = valB b := ⟨_, rfl⟩
  rw [← e1] at v1
  have H1 := Lib.hid (find_yes' hrow v1 e1)
  obtain ⟨n2, e2⟩ : ∃ n, n = valB c := ⟨_, rfl⟩
  rw [← e2] at v2
  have H2 := Lib.hid (find_yes' hrow v2 e2)
  have H3 := Lib.hid (find_no' hrow v3)
  clear hf hs hrow e0 e1 e2 v3
  go_enter Tryz.func78, Tryz.ntmps78
  go_wp2_with fail
  refine HF.out.mono ?_
  rintro e w1 ⟨rfl, rfl⟩
  go_wp2_with fail
  refine wp_loop_rounds 5 ?_
  rw [rounds_succ]; go_wp2_with fail
  refine H0.out.mono ?_
  rintro e w1 ⟨rfl, rfl⟩
  go_wp2_with fail
  rw [rounds_succ]; go_wp2_with fail
  refine H1.out.mono ?_
  rintro e w1 ⟨rfl, rfl⟩
  go_wp2_with fail
  rw [rounds_succ]; go_wp2_with fail
  refine H2.out.mono ?_
  rintro e w1 ⟨rfl, rfl⟩
  go_wp2_with fail
  rw [rounds_succ]; go_wp2_with fail
  refine H3.out.mono ?_
  rintro e w1 ⟨rfl, rfl⟩
  go_wp2_with fail
  go_ret2
  exact ⟨rfl, Below.refl _ _⟩
end Go.Proofs.YteallnjbpikhhaaGreatDoor

/- Contracts of package b64: Decode. -/
namespace Go.Proofs.YteallnjbpikhhaaGreatDoor
open Go Go.RowKit

theorem bytesOf_none {a b c d : UInt8} {bl off cap B : Nat} {t : TypeId} {w : World} (hs : sliceAt w (some ⟨bl, off, none⟩) [a, b, c, d]) (hcap : 4 ≤ cap) (hrow : rowAt w B t (bhL 64)) (h : dec4 a b c d = none) :
    Calls Tryz.prog 78 #[.slice (some ⟨bl, off, none⟩) 4 cap, .func (.func 101) #[] #[.pointer (some ⟨B, 0, none⟩)]] w fun e w' => e = .returned (.tuple #[.slice none 0 0, .bool false]) ∧ Below w.heap.size w w' := by
  unfold dec4 at h
  by_cases v0 : valB a < 64
  · by_cases v1 : valB b < 64
    · by_cases q3 : d = 61
      · by_cases q2 : c = 61
        · rw [if_pos q3, if_pos q2] at h
          refine bo_2_bad a b c d bl off cap B t w hs hcap hrow (by unfold fillN; rw [if_pos q3, if_pos q2]) v0 v1 fun hz => ?_
          rw [if_pos ⟨v0, v1, hz⟩] at h
          cases h
        · rw [if_pos q3, if_neg q2] at h
          have hf : fillN c d = 3 := by unfold fillN; rw [if_pos q3, if_neg q2]
          by_cases v2 : valB c < 64
          · refine bo_3_bad a b c d bl off cap B t w hs hcap hrow hf v0 v1 v2 fun hz => ?_
            rw [if_pos ⟨v0, v1, v2, hz⟩] at h
            cases h
          · exact bo_3_2 a b c d bl off cap B t w hs hcap hrow hf v0 v1 v2
      · rw [if_neg q3] at h
        have hf : fillN c d = 4 := by unfold fillN; rw [if_neg q3]
        by_cases v2 : valB c < 64
        · by_cases v3 : valB d < 64
          · rw [if_pos ⟨v0, v1, v2, v3⟩] at h
            cases h
          · exact bo_4_3 a b c d bl off cap B t w hs hcap hrow hf v0 v1 v2 v3
        · exact bo_4_2 a b c d bl off cap B t w hs hcap hrow hf v0 v1 v2
    · have hf : fillN c d = 2 ∨ fillN c d = 3 ∨ fillN c d = 4 := by unfold fillN; split <;> (try split) <;> simp
      rcases hf with hf | hf | hf
      · exact bo_2_1 a b c d bl off cap B t w hs hcap hrow hf v0 v1
      · exact bo_3_1 a b c d bl off cap B t w hs hcap hrow hf v0 v1
      · exact bo_4_1 a b c d bl off cap B t w hs hcap hrow hf v0 v1
  · have hf : fillN c d = 2 ∨ fillN c d = 3 ∨ fillN c d = 4 := by unfold fillN; split <;> (try split) <;> simp
    rcases hf with hf | hf | hf
    · exact bo_2_0 a b c d bl off cap B t w hs hcap hrow hf v0
    · exact bo_3_0 a b c d bl off cap B t w hs hcap hrow hf v0
    · exact bo_4_0 a b c d bl off cap B t w hs hcap hrow hf v0
/-- What a call of bytesOf gives where the four letters are of xs. -/
def BytesGot (w : World) (k : Nat) (xs : List UInt8) (e : Ending) (w' : World) : Prop :=
  e = .returned (.tuple #[.slice (some ⟨w.heap.size, 0, none⟩) k 3, .bool true]) ∧ sliceAt w' (some ⟨w.heap.size, 0, none⟩) xs ∧ Below w.heap.size w w'
set_option maxRecDepth 100000 in
theorem bytesOf_some {a b c d : UInt8} {bl off cap B : Nat} {t : TypeId} {w : World} {xs : List UInt8} (hs : sliceAt w (some ⟨bl, off, none⟩) [a, b, c, d]) (hcap : 4 ≤ cap) (hrow : rowAt w B t (bhL 64)) (h : dec4 a b c d = some xs) :
    ∃ k, k = xs.length ∧ (k = 1 ∨ k = 2 ∨ k = 3) ∧ Calls Tryz.prog 78 #[.slice (some ⟨bl, off, none⟩) 4 cap, .func (.func 101) #[] #[.pointer (some ⟨B, 0, none⟩)]] w (BytesGot w k xs) := by
  unfold dec4 at h
  by_cases q3 : d = 61
  · rw [if_pos q3] at h
    by_cases q2 : c = 61
    · rw [if_pos q2] at h
      have hf : fillN c d = 2 := by unfold fillN; rw [if_pos q3, if_pos q2]
      split at h
      · rename_i hv
        cases h
        exact ⟨1, rfl, .inl rfl, bo_2_ok a b c d bl off cap B t w hs hcap hrow hf hv.1 hv.2.1 hv.2.2⟩
      · cases h
    · rw [if_neg q2] at h
      have hf : fillN c d = 3 := by unfold fillN; rw [if_pos q3, if_neg q2]
      split at h
      · rename_i hv
        cases h
        exact ⟨2, rfl, .inr (.inl rfl), bo_3_ok a b c d bl off cap B t w hs hcap hrow hf hv.1 hv.2.1 hv.2.2.1 hv.2.2.2⟩
      · cases h
  · rw [if_neg q3] at h
    have hf : fillN c d = 4 := by unfold fillN; rw [if_neg q3]
    split at h
    · rename_i hv
      cases h
      exact ⟨3, rfl, .inr (.inr rfl), bo_4_ok a b c d bl off cap B t w hs hcap hrow hf hv.1 hv.2.1 hv.2.2.1 hv.2.2.2⟩
    · cases h
end Go.Proofs.YteallnjbpikhhaaGreatDoor

/- Contracts of package b64: Decode. -/
namespace Go.Proofs.YteallnjbpikhhaaGreatDoor
open Go Go.RowKit

theorem dec_len : ∀ (t l : List UInt8), decS t = some l → t.length % 4 = 0
  | [], _, _ => rfl
  | [_], _, h => by simp [decS] at h
  | [_, _], _, h => by simp [decS] at h
  | [_, _, _], _, h => by simp [decS] at h
  | a :: b :: c :: d :: r, l, h => by
    unfold decS at h
    split at h
    · cases h
    · split at h
      · cases h
      · obtain ⟨r', hr', _⟩ := Option.map_eq_some_iff.1 h
        have := dec_len r r' hr'
        simp
        omega
theorem dec_none_len {t : List UInt8} (h : ¬ t.length % 4 = 0) : decS t = none := by
  rcases ho : decS t with _ | l
  · rfl
  · exact absurd (dec_len t l ho) h

/-- What Decode answers. -/
def DecGot (w : World) (o : Option (List UInt8)) (e : Ending) (w' : World) : Prop :=
  ∃ u, e = .returned (.tuple #[u, .bool o.isSome]) ∧ w'.ownsRow w.heap.size 5 1 u (o.getD []).length ((o.getD []).map byteV) ∧ Below w.heap.size w w'
theorem DecGot.no {w w' : World} {o : Option (List UInt8)} (h : o = none) (hb : Below w.heap.size w w') : DecGot w o (.returned (.tuple #[.slice none 0 0, .bool false])) w' := by
  subst h
  exact ⟨_, rfl, World.ownsRow_nil _ _ _ _, hb⟩
theorem DecGot.yes {w w' : World} {o : Option (List UInt8)} {l : List UInt8} {u : Value} (h : o = some l) (hu : w'.ownsRow w.heap.size 5 1 u l.length (l.map byteV)) (hb : Below w.heap.size w w') : DecGot w o (.returned (.tuple #[u, .bool true])) w' := by
  subst h
  exact ⟨_, rfl, hu, hb⟩

theorem four_front {r : List UInt8} (h : 0 < r.length) (hm : r.length % 4 = 0) : ∃ a b c d r', r = a :: b :: c :: d :: r' := by
  match r, h, hm with
  | [_], _, hm => simp at hm
  | [_, _], _, hm => simp at hm
  | [_, _, _], _, hm => simp at hm
  | a :: b :: c :: d :: r', _, _ => exact ⟨a, b, c, d, r', rfl⟩
theorem decS_none {a b c d : UInt8} (r : List UInt8) (h : dec4 a b c d = none) : decS (a :: b :: c :: d :: r) = none := by simp [decS, h]
theorem decS_short {a b c d : UInt8} {r xs : List UInt8} (h : dec4 a b c d = some xs) (h1 : xs.length < 3) (h2 : r ≠ []) : decS (a :: b :: c :: d :: r) = none := by
  simp only [decS, h]
  rw [if_pos ⟨h1, h2⟩]
theorem decS_more {a b c d : UInt8} {r xs : List UInt8} (h : dec4 a b c d = some xs) (h1 : 3 ≤ xs.length ∨ r = []) : decS (a :: b :: c :: d :: r) = (decS r).map (xs ++ ·) := by
  simp only [decS, h]
  rw [if_neg]
  rintro ⟨h2, h3⟩
  rcases h1 with h1 | h1
  · omega
  · exact h3 h1

set_option maxRecDepth 100000 in
set_option maxHeartbeats 4000000 in
theorem decode_any (v : Value) (l : List UInt8) (w : World) (hv : bytesArg w v l) (hl : l.length ≤ 1000000) (ht : lets w) :
    Calls Tryz.prog 50 #[v] w (DecGot w (decS (bareSG l))) := by
  obtain ⟨i0, hi, hz0, hz1, hz2⟩ := info_parts Tryz.infoB
  have HBare := Lib.hid (bare_any v l w hv hl)
  have HT := Lib.hid ht
  clear hv ht
  have hbl := bareS_len l
  obtain ⟨T, hT⟩ : ∃ T, T = bareSG l := ⟨_, rfl⟩
  rw [← hT] at HBare hbl ⊢
  have hTl : T.length ≤ 1000000 := by omega
  clear hT hbl hl
  go_enter Tryz.func50, Tryz.ntmps50
  go_wp2_with fail
  refine HBare.out.mono ?_
  rintro e w1 ⟨u, rfl, hown1, hb1⟩
  have hA := bytesArg_owned hown1
  obtain ⟨au, cu, rfl, hcu, hcm, hsl⟩ := hA
  unfold maxLen at hcm
  have HB1 := Lib.hid hb1
  have HS1 := Lib.hid hsl
  clear hown1 hb1 hsl HBare
  by_cases h4 : T.length % 4 = 0
  · have ht4 : ((T.length : Int) % 4 != 0) = false := bne_no (by omega)
    have H4 := Lib.hid h4
    clear h4
    go_wp2_with fail
    refine (finder_any _ (HT.out.below HB1.out)).mono ?_
    rintro e w2 ⟨rfl, hrow2, hb2⟩
    unfold findV
    have HR2 := Lib.hid hrow2
    have HB2 : Hid (Below w.heap.size w w2) := HB1.out.trans (hb2.mono HB1.out.size)
    have HS2 : Hid (sliceAt w2 au T) := sliceAt.below HS1.out hb2
    obtain ⟨B, hB⟩ : ∃ B, B = w1.heap.size := ⟨_, rfl⟩
    rw [← hB] at HR2 ⊢
    have hBlt : B < w2.heap.size := HR2.out.lt
    clear hrow2 hb2 hB HS1 HB1 ht4
    go_wp2_with fail
    go_loopg [4, 6] T.length (fun g t o wr => ∃ (r out : List UInt8) (ar : Option Addr) (cr : Nat), r.length ≤ T.length ∧ g = r.length ∧ t = .slice ar r.length cr ∧ r.length ≤ cr ∧ cr ≤ 9223372036854775807 ∧ Hid (sliceAt w2 ar r) ∧ out.length + r.length ≤ T.length ∧ wr.ownsRow w2.heap.size 5 1 o out.length (out.map byteV) ∧ Hid ((decS r).map (out ++ ·) = decS T) ∧ Hid (Below w2.heap.size w2 wr) ∧ Hid (r.length % 4 = 0))
    case atStart => exact ⟨T, [], au, cu, by omega, rfl, rfl, hcu, by omega, HS2, by simp, World.ownsRow_nil _ _ _ _, by unfold Hid; simp, Below.refl _ _, H4⟩
    case round =>
      obtain ⟨r, out, ar, cr, hrl, rfl, rfl, hrc, hcr, HR, hout, hown, HE, HB, HM⟩ := hrel
      have HO := Lib.hid hown
      clear hown
      by_cases h0 : 0 < r.length
      · rcases HR.out with e | ⟨b, off, rfl, hb, hcell⟩
        · rw [e] at h0
          simp at h0
        clear hcell
        obtain ⟨a, b', c, d, r', hr⟩ := four_front h0 HM.out
        have H4c : Hid (sliceAt wr (some ⟨b, off, none⟩) [a, b', c, d]) := by
          have := (sliceAt.below HR.out HB.out).take 4
          rw [hr] at this
          exact this
        have HRR := Lib.hid hr
        have HL : Hid (r.length = r'.length + 4) := by
          unfold Hid
          rw [hr]
          simp
        have hge : 4 ≤ r.length := by have := HL.out; omega
        have HRW := Lib.hid (HR2.out.below (HB.out.block _ hBlt))
        clear hr h0
        by_cases hcap : cr = 4
        · subst hcap
          have hr4 : r.length ≤ 4 := by omega
          rcases hd : dec4 a b' c d with _ | xs
          · have HX : Hid (decS T = none) := by
              unfold Hid
              rw [← HE.out, HRR.out, decS_none _ hd]
              rfl
            clear hrl
            go_wp2_with fail
            refine (bytesOf_none H4c.out (by omega) HRW.out hd).mono ?_
            rintro e w3 ⟨rfl, hb3⟩
            have HB3 := Lib.hid hb3
            clear hb3 hd
            go_wp2
            go_ret2
            exact DecGot.no HX.out (HB2.out.trans ((HB.out.trans (HB3.out.mono HB.out.size)).mono HB2.out.size))
          · obtain ⟨k, hk, hk3, hc⟩ := bytesOf_some (cap := 4) H4c.out (by omega) HRW.out hd
            have HC := Lib.hid hc
            have HK := Lib.hid hk
            have hd' := Lib.hid hd
            clear hk hc hd
            rcases hk3 with rfl | rfl | rfl
            · by_cases hnil : r.length = 4
              · have hn1 : r.length ≤ 4 := by omega
                have HNil : Hid (r' = []) := by
                  have := HL.out
                  exact List.eq_nil_of_length_eq_zero (by omega)
                clear hnil
                go_wp2_with fail
                refine HC.out.mono ?_
                rintro e w3 ⟨rfl, hs3, hb3⟩
                have HB3 := Lib.hid hb3
                have HS3 := Lib.hid hs3
                clear hb3 hs3
                have HO3 := Lib.hid (ownsRow_below HO.out HB3.out)
                go_wp2_with (at_builtin; refine wpList_append_own _ rfl _ _ 22 rfl w2.heap.size 5 i0 (.int .u8 0) 1 1 Tryz.underlying22 hi hz0 hz1 hz2 rfl (by decide) _ _ _ rfl HO3.out ⟨wr.heap.size, 0, none⟩ 1 3 (xs.map byteV) rfl (by rw [List.length_map, ← HK.out]) ?c1 ?c2 ?c3 ?c4 ?c5 ?_)
                case c1 => exact HS3.out.news
                case c2 => exact news_one _
                case c3 => unfold maxLen; omega
                case c4 => omega
                case c5 => exact (HB.out.trans (HB3.out.mono HB.out.size)).size
                intro v4 w4 hown4 hgrow4 _
                have HO4 := Lib.hid hown4
                have HB4 : Hid (Below w2.heap.size w2 w4) := (HB.out.trans (HB3.out.mono HB.out.size)).grown hgrow4 (HB.out.trans (HB3.out.mono HB.out.size)).size (fun q hq => (HO3.out.lt q hq).1)
                clear hown4 hgrow4
                go_wp2
                go_roundg (r.length - 4)
                case measure => omega
                case rel =>
                  refine ⟨r.drop 4, out ++ xs, some ⟨b, off, none⟩, 0, by simp; omega, by simp, by (simp <;> omega), by simp; omega, by omega, .inl (List.drop_eq_nil_of_le (by omega)), by have := HK.out; simp; omega, ?_, ?_, HB4, ?_⟩
                  · exact own_cast HO4.out (by have := HK.out; simp; omega) (by simp)
                  · unfold Hid
                    rw [← HE.out, HRR.out, decS_more hd'.out (.inr HNil.out)]
                    simp [Function.comp_def]
                  · have := HM.out
                    unfold Hid
                    rw [List.length_drop]
                    omega
              · omega
            · by_cases hnil : r.length = 4
              · have hn1 : r.length ≤ 4 := by omega
                have HNil : Hid (r' = []) := by
                  have := HL.out
                  exact List.eq_nil_of_length_eq_zero (by omega)
                clear hnil
                go_wp2_with fail
                refine HC.out.mono ?_
                rintro e w3 ⟨rfl, hs3, hb3⟩
                have HB3 := Lib.hid hb3
                have HS3 := Lib.hid hs3
                clear hb3 hs3
                have HO3 := Lib.hid (ownsRow_below HO.out HB3.out)
                go_wp2_with (at_builtin; refine wpList_append_own _ rfl _ _ 22 rfl w2.heap.size 5 i0 (.int .u8 0) 1 1 Tryz.underlying22 hi hz0 hz1 hz2 rfl (by decide) _ _ _ rfl HO3.out ⟨wr.heap.size, 0, none⟩ 2 3 (xs.map byteV) rfl (by rw [List.length_map, ← HK.out]) ?c1 ?c2 ?c3 ?c4 ?c5 ?_)
                case c1 => exact HS3.out.news
                case c2 => exact news_one _
                case c3 => unfold maxLen; omega
                case c4 => omega
                case c5 => exact (HB.out.trans (HB3.out.mono HB.out.size)).size
                intro v4 w4 hown4 hgrow4 _
                have HO4 := Lib.hid hown4
                have HB4 : Hid (Below w2.heap.size w2 w4) := (HB.out.trans (HB3.out.mono HB.out.size)).grown hgrow4 (HB.out.trans (HB3.out.mono HB.out.size)).size (fun q hq => (HO3.out.lt q hq).1)
                clear hown4 hgrow4
                go_wp2
                go_roundg (r.length - 4)
                case measure => omega
                case rel =>
                  refine ⟨r.drop 4, out ++ xs, some ⟨b, off, none⟩, 0, by simp; omega, by simp, by (simp <;> omega), by simp; omega, by omega, .inl (List.drop_eq_nil_of_le (by omega)), by have := HK.out; simp; omega, ?_, ?_, HB4, ?_⟩
                  · exact own_cast HO4.out (by have := HK.out; simp; omega) (by simp)
                  · unfold Hid
                    rw [← HE.out, HRR.out, decS_more hd'.out (.inr HNil.out)]
                    simp [Function.comp_def]
                  · have := HM.out
                    unfold Hid
                    rw [List.length_drop]
                    omega
              · omega
            · go_wp2_with fail
              refine HC.out.mono ?_
              rintro e w3 ⟨rfl, hs3, hb3⟩
              have HB3 := Lib.hid hb3
              have HS3 := Lib.hid hs3
              clear hb3 hs3
              have HO3 := Lib.hid (ownsRow_below HO.out HB3.out)
              go_wp2_with (at_builtin; refine wpList_append_own _ rfl _ _ 22 rfl w2.heap.size 5 i0 (.int .u8 0) 1 1 Tryz.underlying22 hi hz0 hz1 hz2 rfl (by decide) _ _ _ rfl HO3.out ⟨wr.heap.size, 0, none⟩ 3 3 (xs.map byteV) rfl (by rw [List.length_map, ← HK.out]) ?c1 ?c2 ?c3 ?c4 ?c5 ?_)
              case c1 => exact HS3.out.news
              case c2 => exact news_one _
              case c3 => unfold maxLen; omega
              case c4 => omega
              case c5 => exact (HB.out.trans (HB3.out.mono HB.out.size)).size
              intro v4 w4 hown4 hgrow4 _
              have HO4 := Lib.hid hown4
              have HB4 : Hid (Below w2.heap.size w2 w4) := (HB.out.trans (HB3.out.mono HB.out.size)).grown hgrow4 (HB.out.trans (HB3.out.mono HB.out.size)).size (fun q hq => (HO3.out.lt q hq).1)
              clear hown4 hgrow4
              go_wp2
              go_roundg (r.length - 4)
              case measure => omega
              case rel =>
                refine ⟨r.drop 4, out ++ xs, some ⟨b, off, none⟩, 0, by simp; omega, by simp, by (simp <;> omega), by simp; omega, by omega, .inl (List.drop_eq_nil_of_le (by omega)), by have := HK.out; simp; omega, ?_, ?_, HB4, ?_⟩
                · exact own_cast HO4.out (by have := HK.out; simp; omega) (by simp)
                · unfold Hid
                  rw [← HE.out, HRR.out, decS_more hd'.out (.inl (by have := HK.out; omega))]
                  simp [Function.comp_def]
                · have := HM.out
                  unfold Hid
                  rw [List.length_drop]
                  omega
        · rcases hd : dec4 a b' c d with _ | xs
          · have HX : Hid (decS T = none) := by
              unfold Hid
              rw [← HE.out, HRR.out, decS_none _ hd]
              rfl
            clear hrl
            go_wp2_with fail
            refine (bytesOf_none H4c.out (by omega) HRW.out hd).mono ?_
            rintro e w3 ⟨rfl, hb3⟩
            have HB3 := Lib.hid hb3
            clear hb3 hd
            go_wp2
            go_ret2
            exact DecGot.no HX.out (HB2.out.trans ((HB.out.trans (HB3.out.mono HB.out.size)).mono HB2.out.size))
          · obtain ⟨k, hk, hk3, hc⟩ := bytesOf_some (cap := cr) H4c.out (by omega) HRW.out hd
            have HC := Lib.hid hc
            have HK := Lib.hid hk
            have hd' := Lib.hid hd
            clear hk hc hd
            rcases hk3 with rfl | rfl | rfl
            · by_cases hnil : r.length = 4
              · have hn1 : r.length ≤ 4 := by omega
                have HNil : Hid (r' = []) := by
                  have := HL.out
                  exact List.eq_nil_of_length_eq_zero (by omega)
                clear hnil
                go_wp2_with fail
                refine HC.out.mono ?_
                rintro e w3 ⟨rfl, hs3, hb3⟩
                have HB3 := Lib.hid hb3
                have HS3 := Lib.hid hs3
                clear hb3 hs3
                have HO3 := Lib.hid (ownsRow_below HO.out HB3.out)
                go_wp2_with (at_builtin; refine wpList_append_own _ rfl _ _ 22 rfl w2.heap.size 5 i0 (.int .u8 0) 1 1 Tryz.underlying22 hi hz0 hz1 hz2 rfl (by decide) _ _ _ rfl HO3.out ⟨wr.heap.size, 0, none⟩ 1 3 (xs.map byteV) rfl (by rw [List.length_map, ← HK.out]) ?c1 ?c2 ?c3 ?c4 ?c5 ?_)
                case c1 => exact HS3.out.news
                case c2 => exact news_one _
                case c3 => unfold maxLen; omega
                case c4 => omega
                case c5 => exact (HB.out.trans (HB3.out.mono HB.out.size)).size
                intro v4 w4 hown4 hgrow4 _
                have HO4 := Lib.hid hown4
                have HB4 : Hid (Below w2.heap.size w2 w4) := (HB.out.trans (HB3.out.mono HB.out.size)).grown hgrow4 (HB.out.trans (HB3.out.mono HB.out.size)).size (fun q hq => (HO3.out.lt q hq).1)
                clear hown4 hgrow4
                go_wp2
                go_roundg (r.length - 4)
                case measure => omega
                case rel =>
                  refine ⟨r.drop 4, out ++ xs, some ⟨b, off + 4, none⟩, cr - 4, by simp; omega, by simp, by (simp <;> omega), by simp; omega, by omega, HR.out.drop, by have := HK.out; simp; omega, ?_, ?_, HB4, ?_⟩
                  · exact own_cast HO4.out (by have := HK.out; simp; omega) (by simp)
                  · unfold Hid
                    rw [← HE.out, HRR.out, decS_more hd'.out (.inr HNil.out)]
                    simp [Function.comp_def]
                  · have := HM.out
                    unfold Hid
                    rw [List.length_drop]
                    omega
              · have hn1 : 4 < r.length := by have := HM.out; omega
                have HNil : Hid (r' ≠ []) := by
                  have := HL.out
                  rintro rfl
                  simp at this
                  omega
                clear hnil
                have HX : Hid (decS T = none) := by
                  unfold Hid
                  rw [← HE.out, HRR.out, decS_short hd'.out (by have := HK.out; omega) HNil.out]
                  rfl
                clear hrl
                go_wp2_with fail
                refine HC.out.mono ?_
                rintro e w3 ⟨rfl, hs3, hb3⟩
                have HB3 := Lib.hid hb3
                have HS3 := Lib.hid hs3
                clear hb3 hs3
                go_wp2
                go_ret2
                exact DecGot.no HX.out (HB2.out.trans ((HB.out.trans (HB3.out.mono HB.out.size)).mono HB2.out.size))
            · by_cases hnil : r.length = 4
              · have hn1 : r.length ≤ 4 := by omega
                have HNil : Hid (r' = []) := by
                  have := HL.out
                  exact List.eq_nil_of_length_eq_zero (by omega)
                clear hnil
                go_wp2_with fail
                refine HC.out.mono ?_
                rintro e w3 ⟨rfl, hs3, hb3⟩
                have HB3 := Lib.hid hb3
                have HS3 := Lib.hid hs3
                clear hb3 hs3
                have HO3 := Lib.hid (ownsRow_below HO.out HB3.out)
                go_wp2_with (at_builtin; refine wpList_append_own _ rfl _ _ 22 rfl w2.heap.size 5 i0 (.int .u8 0) 1 1 Tryz.underlying22 hi hz0 hz1 hz2 rfl (by decide) _ _ _ rfl HO3.out ⟨wr.heap.size, 0, none⟩ 2 3 (xs.map byteV) rfl (by rw [List.length_map, ← HK.out]) ?c1 ?c2 ?c3 ?c4 ?c5 ?_)
                case c1 => exact HS3.out.news
                case c2 => exact news_one _
                case c3 => unfold maxLen; omega
                case c4 => omega
                case c5 => exact (HB.out.trans (HB3.out.mono HB.out.size)).size
                intro v4 w4 hown4 hgrow4 _
                have HO4 := Lib.hid hown4
                have HB4 : Hid (Below w2.heap.size w2 w4) := (HB.out.trans (HB3.out.mono HB.out.size)).grown hgrow4 (HB.out.trans (HB3.out.mono HB.out.size)).size (fun q hq => (HO3.out.lt q hq).1)
                clear hown4 hgrow4
                go_wp2
                go_roundg (r.length - 4)
                case measure => omega
                case rel =>
                  refine ⟨r.drop 4, out ++ xs, some ⟨b, off + 4, none⟩, cr - 4, by simp; omega, by simp, by (simp <;> omega), by simp; omega, by omega, HR.out.drop, by have := HK.out; simp; omega, ?_, ?_, HB4, ?_⟩
                  · exact own_cast HO4.out (by have := HK.out; simp; omega) (by simp)
                  · unfold Hid
                    rw [← HE.out, HRR.out, decS_more hd'.out (.inr HNil.out)]
                    simp [Function.comp_def]
                  · have := HM.out
                    unfold Hid
                    rw [List.length_drop]
                    omega
              · have hn1 : 4 < r.length := by have := HM.out; omega
                have HNil : Hid (r' ≠ []) := by
                  have := HL.out
                  rintro rfl
                  simp at this
                  omega
                clear hnil
                have HX : Hid (decS T = none) := by
                  unfold Hid
                  rw [← HE.out, HRR.out, decS_short hd'.out (by have := HK.out; omega) HNil.out]
                  rfl
                clear hrl
                go_wp2_with fail
                refine HC.out.mono ?_
                rintro e w3 ⟨rfl, hs3, hb3⟩
                have HB3 := Lib.hid hb3
                have HS3 := Lib.hid hs3
                clear hb3 hs3
                go_wp2
                go_ret2
                exact DecGot.no HX.out (HB2.out.trans ((HB.out.trans (HB3.out.mono HB.out.size)).mono HB2.out.size))
            · go_wp2_with fail
              refine HC.out.mono ?_
              rintro e w3 ⟨rfl, hs3, hb3⟩
              have HB3 := Lib.hid hb3
              have HS3 := Lib.hid hs3
              clear hb3 hs3
              have HO3 := Lib.hid (ownsRow_below HO.out HB3.out)
              go_wp2_with (at_builtin; refine wpList_append_own _ rfl _ _ 22 rfl w2.heap.size 5 i0 (.int .u8 0) 1 1 Tryz.underlying22 hi hz0 hz1 hz2 rfl (by decide) _ _ _ rfl HO3.out ⟨wr.heap.size, 0, none⟩ 3 3 (xs.map byteV) rfl (by rw [List.length_map, ← HK.out]) ?c1 ?c2 ?c3 ?c4 ?c5 ?_)
              case c1 => exact HS3.out.news
              case c2 => exact news_one _
              case c3 => unfold maxLen; omega
              case c4 => omega
              case c5 => exact (HB.out.trans (HB3.out.mono HB.out.size)).size
              intro v4 w4 hown4 hgrow4 _
              have HO4 := Lib.hid hown4
              have HB4 : Hid (Below w2.heap.size w2 w4) := (HB.out.trans (HB3.out.mono HB.out.size)).grown hgrow4 (HB.out.trans (HB3.out.mono HB.out.size)).size (fun q hq => (HO3.out.lt q hq).1)
              clear hown4 hgrow4
              go_wp2
              go_roundg (r.length - 4)
              case measure => omega
              case rel =>
                refine ⟨r.drop 4, out ++ xs, some ⟨b, off + 4, none⟩, cr - 4, by simp; omega, by simp, by (simp <;> omega), by simp; omega, by omega, HR.out.drop, by have := HK.out; simp; omega, ?_, ?_, HB4, ?_⟩
                · exact own_cast HO4.out (by have := HK.out; simp; omega) (by simp)
                · unfold Hid
                  rw [← HE.out, HRR.out, decS_more hd'.out (.inl (by have := HK.out; omega))]
                  simp [Function.comp_def]
                · have := HM.out
                  unfold Hid
                  rw [List.length_drop]
                  omega
      · have hr0 : r = [] := List.eq_nil_of_length_eq_zero (by omega)
        have he := HE.out
        rw [hr0] at he
        have HX : Hid (decS T = some out) := by unfold Hid; rw [← he]; simp [decS]
        clear he hr0
        go_wp2
        go_ret2
        exact DecGot.yes HX.out (own_base HO.out HB2.out.size) (HB2.out.trans (HB.out.mono HB2.out.size))
  · have ht4 : ((T.length : Int) % 4 != 0) = true := bne_yes (by omega)
    have HX := Lib.hid (dec_none_len h4)
    clear h4
    go_wp2
    go_ret2
    exact DecGot.no HX.out HB1.out
end Go.Proofs.YteallnjbpikhhaaGreatDoor
