/- Contracts of package b64: four letters of which one is none. -/
import Derived.Test.YtolkjaebhhbilaaDoorB64F
namespace Go.Proofs.YtolkjaebhhbilaaDoor
open Go Go.RowKit

theorem bo_2_0 (a b c d : UInt8) (bl off cap B : Nat) (t : TypeId) (w : World) (hs : sliceAt w (some ⟨bl, off, none⟩) [a, b, c, d]) (hcap : 4 ≤ cap) (hrow : rowAt w B t (bhL 64)) (hf : fillN c d = 2) (v0 : ¬ valB a < 64) :
    Calls Tryd.prog 36 #[.slice (some ⟨bl, off, none⟩) 4 cap, .func (.func 43) #[] #[.pointer (some ⟨B, 0, none⟩)]] w fun e w' => e = .returned (.tuple #[.slice none 0 0, .bool false]) ∧ Below w.heap.size w w' := by
  have HF := Lib.hid (filled_to a b c d bl off cap 2 w hs hf)
  obtain ⟨c0, c1, c2, c3⟩ := four_cells hs
  have H0 := Lib.hid (find_no' hrow v0)
  clear hf hs hrow v0
  go_enter Tryd.func36, Tryd.ntmps36
  go_wp2_with fail
  refine HF.out.mono ?_
  rintro e w1 ⟨rfl, rfl⟩
  go_wp2_with fail
  refine wp_loop_rounds 3 ?_
  rw [rounds_succ]; go_wp2_with fail
  refine H0.out.mono ?_
  rintro e w1 ⟨rfl, rfl⟩
  go_wp2_with fail
  go_ret2
  exact ⟨rfl, Below.refl _ _⟩

theorem bo_2_1 (a b c d : UInt8) (bl off cap B : Nat) (t : TypeId) (w : World) (hs : sliceAt w (some ⟨bl, off, none⟩) [a, b, c, d]) (hcap : 4 ≤ cap) (hrow : rowAt w B t (bhL 64)) (hf : fillN c d = 2) (v0 : valB a < 64) (v1 : ¬ valB b < 64) :
    Calls Tryd.prog 36 #[.slice (some ⟨bl, off, none⟩) 4 cap, .func (.func 43) #[] #[.pointer (some ⟨B, 0, none⟩)]] w fun e w' => e = .returned (.tuple #[.slice none 0 0, .bool false]) ∧ Below w.heap.size w w' := by
  have HF := Lib.hid (filled_to a b c d bl off cap 2 w hs hf)
  obtain ⟨c0, c1, c2, c3⟩ := four_cells hs
  obtain ⟨n0, e0⟩ : ∃ n, n = valB a := ⟨_, rfl⟩
  rw [← e0] at v0
  have H0 := Lib.hid (find_yes' hrow v0 e0)
  have H1 := Lib.hid (find_no' hrow v1)
  clear hf hs hrow e0 v1
  go_enter Tryd.func36, Tryd.ntmps36
  go_wp2_with fail
  refine HF.out.mono ?_
  rintro e w1 ⟨rfl, rfl⟩
  go_wp2_with fail
  refine wp_loop_rounds 3 ?_
  rw [rounds_succ]; go_wp2_with fail
  refine H0.out.mono ?_
  rintro e w1 ⟨rfl, rfl⟩
  go_wp2_with fail
  rw [rounds_succ]; go_wp2_with fail
  refine H1.out.mono ?_
  rintro e w1 ⟨rfl, rfl⟩
  go_wp2_with fail
  go_ret2
  exact ⟨rfl, Below.refl _ _⟩

theorem bo_3_0 (a b c d : UInt8) (bl off cap B : Nat) (t : TypeId) (w : World) (hs : sliceAt w (some ⟨bl, off, none⟩) [a, b, c, d]) (hcap : 4 ≤ cap) (hrow : rowAt w B t (bhL 64)) (hf : fillN c d = 3) (v0 : ¬ valB a < 64) :
    Calls Tryd.prog 36 #[.slice (some ⟨bl, off, none⟩) 4 cap, .func (.func 43) #[] #[.pointer (some ⟨B, 0, none⟩)]] w fun e w' => e = .returned (.tuple #[.slice none 0 0, .bool false]) ∧ Below w.heap.size w w' := by
  have HF := Lib.hid (filled_to a b c d bl off cap 3 w hs hf)
  obtain ⟨c0, c1, c2, c3⟩ := four_cells hs
  have H0 := Lib.hid (find_no' hrow v0)
  clear hf hs hrow v0
  go_enter Tryd.func36, Tryd.ntmps36
  go_wp2_with fail
  refine HF.out.mono ?_
  rintro e w1 ⟨rfl, rfl⟩
  go_wp2_with fail
  refine wp_loop_rounds 4 ?_
  rw [rounds_succ]; go_wp2_with fail
  refine H0.out.mono ?_
  rintro e w1 ⟨rfl, rfl⟩
  go_wp2_with fail
  go_ret2
  exact ⟨rfl, Below.refl _ _⟩

theorem bo_3_1 (a b c d : UInt8) (bl off cap B : Nat) (t : TypeId) (w : World) (hs : sliceAt w (some ⟨bl, off, none⟩) [a, b, c, d]) (hcap : 4 ≤ cap) (hrow : rowAt w B t (bhL 64)) (hf : fillN c d = 3) (v0 : valB a < 64) (v1 : ¬ valB b < 64) :
    Calls Tryd.prog 36 #[.slice (some ⟨bl, off, none⟩) 4 cap, .func (.func 43) #[] #[.pointer (some ⟨B, 0, none⟩)]] w fun e w' => e = .returned (.tuple #[.slice none 0 0, .bool false]) ∧ Below w.heap.size w w' := by
  have HF := Lib.hid (filled_to a b c d bl off cap 3 w hs hf)
  obtain ⟨c0, c1, c2, c3⟩ := four_cells hs
  obtain ⟨n0, e0⟩ : ∃ n, n = valB a := ⟨_, rfl⟩
  rw [← e0] at v0
  have H0 := Lib.hid (find_yes' hrow v0 e0)
  have H1 := Lib.hid (find_no' hrow v1)
  clear hf hs hrow e0 v1
  go_enter Tryd.func36, Tryd.ntmps36
  go_wp2_with fail
  refine HF.out.mono ?_
  rintro e w1 ⟨rfl, rfl⟩
  go_wp2_with fail
  refine wp_loop_rounds 4 ?_
  rw [rounds_succ]; go_wp2_with fail
  refine H0.out.mono ?_
  rintro e w1 ⟨rfl, rfl⟩
  go_wp2_with fail
  rw [rounds_succ]; go_wp2_with fail
  refine H1.out.mono ?_
  rintro e w1 ⟨rfl, rfl⟩
  go_wp2_with fail
  go_ret2
  exact ⟨rfl, Below.refl _ _⟩

theorem bo_3_2 (a b c d : UInt8) (bl off cap B : Nat) (t : TypeId) (w : World) (hs : sliceAt w (some ⟨bl, off, none⟩) [a, b, c, d]) (hcap : 4 ≤ cap) (hrow : rowAt w B t (bhL 64)) (hf : fillN c d = 3) (v0 : valB a < 64) (v1 : valB b < 64) (v2 : ¬ valB c < 64) :
    Calls Tryd.prog 36 #[.slice (some ⟨bl, off, none⟩) 4 cap, .func (.func 43) #[] #[.pointer (some ⟨B, 0, none⟩)]] w fun e w' => e = .returned (.tuple #[.slice none 0 0, .bool false]) ∧ Below w.heap.size w w' := by
  have HF := Lib.hid (filled_to a b c d bl off cap 3 w hs hf)
  obtain ⟨c0, c1, c2, c3⟩ := four_cells hs
  obtain ⟨n0, e0⟩ : ∃ n, n = valB a := ⟨_, rfl⟩
  rw [← e0] at v0
  have H0 := Lib.hid (find_yes' hrow v0 e0)
  obtain ⟨n1, e1⟩ : ∃ n, n = valB b := ⟨_, rfl⟩
  rw [← e1] at v1
  have H1 := Lib.hid (find_yes' hrow v1 e1)
  have H2 := Lib.hid (find_no' hrow v2)
  clear hf hs hrow e0 e1 v2
  go_enter Tryd.func36, Tryd.ntmps36
  go_wp2_with fail
  refine HF.out.mono ?_
  rintro e w1 ⟨rfl, rfl⟩
  go_wp2_with fail
  refine wp_loop_rounds 4 ?_
  rw [rounds_succ]; go_wp2_with fail
  refine H0.out.mono ?_
  rintro e w1 ⟨rfl, rfl⟩
  go_wp2_with fail
  rw [rounds_succ]; go_wp2_with fail
  refine H1.out.mono ?_
  rintro e w1 ⟨rfl, rfl⟩
  go_wp2_with fail
  rw [rounds_succ]; go_wp2_with fail
  refine H2.out.mono ?_
  rintro e w1 ⟨rfl, rfl⟩
  go_wp2_with fail
  go_ret2
  exact ⟨rfl, Below.refl _ _⟩

theorem bo_4_0 (a b c d : UInt8) (bl off cap B : Nat) (t : TypeId) (w : World) (hs : sliceAt w (some ⟨bl, off, none⟩) [a, b, c, d]) (hcap : 4 ≤ cap) (hrow : rowAt w B t (bhL 64)) (hf : fillN c d = 4) (v0 : ¬ valB a < 64) :
    Calls Tryd.prog 36 #[.slice (some ⟨bl, off, none⟩) 4 cap, .func (.func 43) #[] #[.pointer (some ⟨B, 0, none⟩)]] w fun e w' => e = .returned (.tuple #[.slice none 0 0, .bool false]) ∧ Below w.heap.size w w' := by
  have HF := Lib.hid (filled_to a b c d bl off cap 4 w hs hf)
  obtain ⟨c0, c1, c2, c3⟩ := four_cells hs
  have H0 := Lib.hid (find_no' hrow v0)
  clear hf hs hrow v0
  go_enter Tryd.func36, Tryd.ntmps36
  go_wp2_with fail
  refine HF.out.mono ?_
  rintro e w1 ⟨rfl, rfl⟩
  go_wp2_with fail
  refine wp_loop_rounds 5 ?_
  rw [rounds_succ]; go_wp2_with fail
  refine H0.out.mono ?_
  rintro e w1 ⟨rfl, rfl⟩
  go_wp2_with fail
  go_ret2
  exact ⟨rfl, Below.refl _ _⟩

theorem bo_4_1 (a b c d : UInt8) (bl off cap B : Nat) (t : TypeId) (w : World) (hs : sliceAt w (some ⟨bl, off, none⟩) [a, b, c, d]) (hcap : 4 ≤ cap) (hrow : rowAt w B t (bhL 64)) (hf : fillN c d = 4) (v0 : valB a < 64) (v1 : ¬ valB b < 64) :
    Calls Tryd.prog 36 #[.slice (some ⟨bl, off, none⟩) 4 cap, .func (.func 43) #[] #[.pointer (some ⟨B, 0, none⟩)]] w fun e w' => e = .returned (.tuple #[.slice none 0 0, .bool false]) ∧ Below w.heap.size w w' := by
  have HF := Lib.hid (filled_to a b c d bl off cap 4 w hs hf)
  obtain ⟨c0, c1, c2, c3⟩ := four_cells hs
  obtain ⟨n0, e0⟩ : ∃ n, n = valB a := ⟨_, rfl⟩
  rw [← e0] at v0
  have H0 := Lib.hid (find_yes' hrow v0 e0)
  have H1 := Lib.hid (find_no' hrow v1)
  clear hf hs hrow e0 v1
  go_enter Tryd.func36, Tryd.ntmps36
  go_wp2_with fail
  refine HF.out.mono ?_
  rintro e w1 ⟨rfl, rfl⟩
  go_wp2_with fail
  refine wp_loop_rounds 5 ?_
  rw [rounds_succ]; go_wp2_with fail
  refine H0.out.mono ?_
  rintro e w1 ⟨rfl, rfl⟩
  go_wp2_with fail
  rw [rounds_succ]; go_wp2_with fail
  refine H1.out.mono ?_
  rintro e w1 ⟨rfl, rfl⟩
  go_wp2_with fail
  go_ret2
  exact ⟨rfl, Below.refl _ _⟩

theorem bo_4_2 (a b c d : UInt8) (bl off cap B : Nat) (t : TypeId) (w : World) (hs : sliceAt w (some ⟨bl, off, none⟩) [a, b, c, d]) (hcap : 4 ≤ cap) (hrow : rowAt w B t (bhL 64)) (hf : fillN c d = 4) (v0 : valB a < 64) (v1 : valB b < 64) (v2 : ¬ valB c < 64) :
    Calls Tryd.prog 36 #[.slice (some ⟨bl, off, none⟩) 4 cap, .func (.func 43) #[] #[.pointer (some ⟨B, 0, none⟩)]] w fun e w' => e = .returned (.tuple #[.slice none 0 0, .bool false]) ∧ Below w.heap.size w w' := by
  have HF := Lib.hid (filled_to a b c d bl off cap 4 w hs hf)
  obtain ⟨c0, c1, c2, c3⟩ := four_cells hs
  obtain ⟨n0, e0⟩ : ∃ n, n = valB a := ⟨_, rfl⟩
  rw [← e0] at v0
  have H0 := Lib.hid (find_yes' hrow v0 e0)
  obtain ⟨n1, e1⟩ : ∃ n, n = valB b := ⟨_, rfl⟩
  rw [← e1] at v1
  have H1 := Lib.hid (find_yes' hrow v1 e1)
  have H2 := Lib.hid (find_no' hrow v2)
  clear hf hs hrow e0 e1 v2
  go_enter Tryd.func36, Tryd.ntmps36
  go_wp2_with fail
  refine HF.out.mono ?_
  rintro e w1 ⟨rfl, rfl⟩
  go_wp2_with fail
  refine wp_loop_rounds 5 ?_
  rw [rounds_succ]; go_wp2_with fail
  refine H0.out.mono ?_
  rintro e w1 ⟨rfl, rfl⟩
  go_wp2_with fail
  rw [rounds_succ]; go_wp2_with fail
  refine H1.out.mono ?_
  rintro e w1 ⟨rfl, rfl⟩
  go_wp2_with fail
  rw [rounds_succ]; go_wp2_with fail
  refine H2.out.mono ?_
  rintro e w1 ⟨rfl, rfl⟩
  go_wp2_with fail
  go_ret2
  exact ⟨rfl, Below.refl _ _⟩

theorem bo_4_3 (a b c d : UInt8) (bl off cap B : Nat) (t : TypeId) (w : World) (hs : sliceAt w (some ⟨bl, off, none⟩) [a, b, c, d]) (hcap : 4 ≤ cap) (hrow : rowAt w B t (bhL 64)) (hf : fillN c d = 4) (v0 : valB a < 64) (v1 : valB b < 64) (v2 : valB c < 64) (v3 : ¬ valB d < 64) :
    Calls Tryd.prog 36 #[.slice (some ⟨bl, off, none⟩) 4 cap, .func (.func 43) #[] #[.pointer (some ⟨B, 0, none⟩)]] w fun e w' => e = .returned (.tuple #[.slice none 0 0, .bool false]) ∧ Below w.heap.size w w' := by
  have HF := Lib.hid (filled_to a b c d bl off cap 4 w hs hf)
  obtain ⟨c0, c1, c2, c3⟩ := four_cells hs
  obtain ⟨n0, e0⟩ : ∃ n, n = valB a := ⟨_, rfl⟩
  rw [← e0] at v0
  have H0 := Lib.hid (find_yes' hrow v0 e0)
  obtain ⟨n1, e1⟩ : ∃ n, n = valB b := ⟨_, rfl⟩
  rw [← e1] at v1
  have H1 := Lib.hid (find_yes' hrow v1 e1)
  obtain ⟨n2, e2⟩ : ∃ n, n = valB c := ⟨_, rfl⟩
  rw [← e2] at v2
  have H2 := Lib.hid (find_yes' hrow v2 e2)
  have H3 := Lib.hid (find_no' hrow v3)
  clear hf hs hrow e0 e1 e2 v3
  go_enter Tryd.func36, Tryd.ntmps36
  go_wp2_with fail
  refine HF.out.mono ?_
  rintro e w1 ⟨rfl, rfl⟩
  go_wp2_with fail
  refine wp_loop_rounds 5 ?_
  rw [rounds_succ]; go_wp2_with fail
  refine H0.out.mono ?_
  rintro e w1 ⟨rfl, rfl⟩
  go_wp2_with fail
  rw [rounds_succ]; go_wp2_with fail
  refine H1.out.mono ?_
  rintro e w1 ⟨rfl, rfl⟩
  go_wp2_with fail
  rw [rounds_succ]; go_wp2_with fail
  refine H2.out.mono ?_
  rintro e w1 ⟨rfl, rfl⟩
  go_wp2_with fail
  rw [rounds_succ]; go_wp2_with fail
  refine H3.out.mono ?_
  rintro e w1 ⟨rfl, rfl⟩
  go_wp2_with fail
  go_ret2
  exact ⟨rfl, Below.refl _ _⟩
end Go.Proofs.YtolkjaebhhbilaaDoor
