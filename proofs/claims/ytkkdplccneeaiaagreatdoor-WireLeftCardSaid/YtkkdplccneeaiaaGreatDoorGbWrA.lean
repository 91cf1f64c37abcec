/- Layer 18: contracts of package wire: kinds of bytes, and a piece taken off the front. -/
import Derived.Test.YtkkdplccneeaiaaGreatDoorKit2
import Derived.Test.YtkkdplccneeaiaaGreatDoorQB
import Derived.Test.YtkkdplccneeaiaaGreatDoorGbChars7
import Derived.Test.YtkkdplccneeaiaaGreatDoorShelf
import Derived.Test.YtkkdplccneeaiaaGreatDoorLt
import Derived.Test.YtkkdplccneeaiaaGreatDoorGbWiM
import Derived.RegionCalls
import Derived.Deep.RegionWith
import Derived.Lib.BufferOwn
namespace Go.Proofs.YtkkdplccneeaiaaGreatDoor
open Go Go.RowKit

/-- A byte of a number as the program asks for it. -/
theorem wdigit_any (c : UInt8) (w : World) : Calls Tryz.prog 68 #[.int .u8 (c.toNat : Int)] w fun e w' => e = .returned (.bool (isDig c)) ∧ w = w' := by
  have e : isDig c = decide (48 ≤ (c.toNat : Int) ∧ (c.toNat : Int) ≤ 57) := by
    rw [Bool.eq_iff_iff, isDig_iff, decide_eq_true_iff]
    omega
  rw [e]
  generalize (c.toNat : Int) = x
  by_cases a : 48 ≤ x
  · go_enter Tryz.func68, Tryz.ntmps68
    go_wp2
    go_ret
    exact ⟨ret_bool (by simp [a]), rfl⟩
  · go_enter Tryz.func68, Tryz.ntmps68
    go_wp2
    go_ret
    exact ⟨ret_bool (by simp; omega), rfl⟩
theorem wplain_any (c : UInt8) (w : World) : Calls Tryz.prog 19 #[.int .u8 (c.toNat : Int)] w fun e w' => e = .returned (.bool (prB c)) ∧ w = w' := by
  have e : prB c = decide (32 ≤ (c.toNat : Int) ∧ (c.toNat : Int) ≤ 126) := by
    unfold prB
    rw [decide_eq_decide]
    omega
  rw [e]
  generalize (c.toNat : Int) = x
  by_cases a : 32 ≤ x
  · go_enter Tryz.func19, Tryz.ntmps19
    go_wp2
    go_ret
    exact ⟨ret_bool (by simp [a]), rfl⟩
  · go_enter Tryz.func19, Tryz.ntmps19
    go_wp2
    go_ret
    exact ⟨ret_bool (by simp; omega), rfl⟩
def unmB (c : UInt8) : Bool := c != 34 && c != 92
theorem wunmarked_any (c : UInt8) (w : World) : Calls Tryz.prog 53 #[.int .u8 (c.toNat : Int)] w fun e w' => e = .returned (.bool (unmB c)) ∧ w = w' := by
  by_cases a : c = 34
  · subst a
    go_enter Tryz.func53, Tryz.ntmps53
    go_wp2
    go_ret
    exact ⟨rfl, rfl⟩
  · have h1 : ¬ (c.toNat : Int) = 34 := fun e => a (toNat_eq (by show c.toNat = _; exact Int.ofNat.inj e))
    have b1 : ((c.toNat : Int) != 34) = true := by simpa using h1
    by_cases a2 : c = 92
    · subst a2
      go_enter Tryz.func53, Tryz.ntmps53
      go_wp2
      go_ret
      exact ⟨rfl, rfl⟩
    · have h2 : ¬ (c.toNat : Int) = 92 := fun e => a2 (toNat_eq (by show c.toNat = _; exact Int.ofNat.inj e))
      have b2 : ((c.toNat : Int) != 92) = true := by simpa using h2
      have e : unmB c = true := by unfold unmB; simp [a, a2]
      rw [e]
      clear e a a2
      go_enter Tryz.func53, Tryz.ntmps53
      go_wp2
      go_ret
      exact ⟨rfl, rfl⟩
theorem watom_any (c : UInt8) (w : World) : Calls Tryz.prog 26 #[.int .u8 (c.toNat : Int)] w fun e w' => e = .returned (.bool (atomW c && c != 91)) ∧ Below w.heap.size w w' := by
  have HA := Lib.hid (fun W => atom_any (c.toNat : Int) W (by omega) (by have := c.toNat_lt; omega))
  unfold atomW
  rcases Bool.eq_false_or_eq_true (atomI (c.toNat : Int)) with h | h
  · rw [h] at HA ⊢
    by_cases a : c = 91
    · have b2 : ((c.toNat : Int) != 91) = false := by rw [a]; rfl
      have e : (c != 91) = false := by rw [a]; rfl
      rw [e]
      clear e a
      go_enter Tryz.func26, Tryz.ntmps26
      go_wp2_with fail
      with_reducible refine (HA.out _).mono ?_
      rintro e w1 ⟨rfl, hb⟩
      go_wp2_with fail
      go_ret
      exact ⟨rfl, hb⟩
    · have h2 : ¬ (c.toNat : Int) = 91 := fun e => a (toNat_eq (by show c.toNat = _; exact Int.ofNat.inj e))
      have b2 : ((c.toNat : Int) != 91) = true := by simpa using h2
      have e : (c != 91) = true := by simpa using a
      rw [e]
      clear e a
      go_enter Tryz.func26, Tryz.ntmps26
      go_wp2_with fail
      with_reducible refine (HA.out _).mono ?_
      rintro e w1 ⟨rfl, hb⟩
      go_wp2_with fail
      go_ret
      exact ⟨rfl, hb⟩
  · rw [h] at HA ⊢
    rw [Bool.false_and]
    go_enter Tryz.func26, Tryz.ntmps26
    go_wp2_with fail
    with_reducible refine (HA.out _).mono ?_
    rintro e w1 ⟨rfl, hb⟩
    go_wp2_with fail
    go_ret
    exact ⟨rfl, hb⟩
/-- May a byte stand in a word? -/
def wordB (c : UInt8) : Bool := prB c && c != 32 && c != 40 && c != 41 && c != 34
theorem wword_any (c : UInt8) (w : World) : Calls Tryz.prog 57 #[.int .u8 (c.toNat : Int)] w fun e w' => e = .returned (.bool (wordB c)) ∧ w = w' := by
  have HP := Lib.hid (wplain_any c)
  unfold wordB
  rcases Bool.eq_false_or_eq_true (prB c) with h | h
  · rw [h] at HP ⊢
    rw [Bool.true_and]
    have bb : ∀ (d : UInt8) (z : Int), (d.toNat : Int) = z → ((c.toNat : Int) != z) = (c != d) := by
      intro d z hz
      subst hz
      rw [Bool.eq_iff_iff, bne_iff_ne, bne_iff_ne]
      exact ⟨fun h e => h (by rw [e]), fun h e => h (toNat_eq (by omega))⟩
    have e1 := bb 32 32 rfl
    have e2 := bb 40 40 rfl
    have e3 := bb 41 41 rfl
    have e4 := bb 34 34 rfl
    clear bb
    generalize (c != 32) = b1 at *
    generalize (c != 40) = b2 at *
    generalize (c != 41) = b3 at *
    generalize (c != 34) = b4 at *
    cases b1 <;> cases b2 <;> cases b3 <;> cases b4 <;>
    · go_enter Tryz.func57, Tryz.ntmps57
      go_wp2_with fail
      with_reducible refine (HP.out _).mono ?_
      rintro e w1 ⟨rfl, rfl⟩
      go_wp2_with fail
      go_ret
      exact ⟨rfl, rfl⟩
  · rw [h] at HP ⊢
    simp only [Bool.false_and]
    go_enter Tryz.func57, Tryz.ntmps57
    go_wp2_with fail
    with_reducible refine (HP.out _).mono ?_
    rintro e w1 ⟨rfl, rfl⟩
    go_wp2_with fail
    go_ret
    exact ⟨rfl, rfl⟩
end Go.Proofs.YtkkdplccneeaiaaGreatDoor
