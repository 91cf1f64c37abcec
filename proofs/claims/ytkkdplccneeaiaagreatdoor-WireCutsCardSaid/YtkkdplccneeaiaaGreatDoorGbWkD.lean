/- Layer 18: the laws: WireLeft. -/
import Derived.Test.YtkkdplccneeaiaaGreatDoorGbWkA
import Derived.Test.YtkkdplccneeaiaaGreatDoorGbWfP
namespace Go.Proofs.YtkkdplccneeaiaaGreatDoor
open Go Go.RowKit

set_option maxRecDepth 100000 in
set_option maxHeartbeats 4000000 in
theorem digits18_low (m : Nat) (h : m < 10) (w : World) : Calls Tryz.prog 17 #[.int .i64 (m : Int)] w fun e w' => e = .returned (.string ⟨(Lib.itoa (m : Int)).toArray⟩) ∧ Below w.heap.size w w' := by
  have hT : (⟨#[48, 49, 50, 51, 52, 53, 54, 55, 56, 57]⟩ : ByteArray).extract m (m + 1) = ⟨(Lib.itoa (m : Int)).toArray⟩ := by
    have h2 : ∀ m : Fin 10, (⟨#[48, 49, 50, 51, 52, 53, 54, 55, 56, 57]⟩ : ByteArray).extract m.val (m.val + 1) = ⟨(Lib.itoa (m.val : Int)).toArray⟩ := by decide +kernel
    exact h2 ⟨m, h⟩
  have h1 : (m : Int) < 10 := by omega
  have h3 : (m : Int) + 1 ≤ 10 := by omega
  obtain ⟨T, hTT⟩ : ∃ T : ByteArray, T = ⟨(Lib.itoa (m : Int)).toArray⟩ := ⟨_, rfl⟩
  rw [← hTT] at hT ⊢
  have HT := Lib.hid hT
  clear hT hTT
  go_enter Tryz.func17, Tryz.ntmps17
  go_wp2
  go_ret
  exact ⟨congrArg (fun z => Ending.returned (Value.string z)) HT.out, Below.refl _ _⟩
set_option maxRecDepth 100000 in
set_option maxHeartbeats 4000000 in
theorem digits18_high (m : Nat) (h0 : ¬ m < 10) (h : m < 40) (w : World) : Calls Tryz.prog 17 #[.int .i64 (m : Int)] w fun e w' => e = .returned (.string ⟨(Lib.itoa (m : Int)).toArray⟩) ∧ Below w.heap.size w w' := by
  obtain ⟨a, ha⟩ : ∃ a, a = m / 10 := ⟨_, rfl⟩
  obtain ⟨b, hb⟩ : ∃ b, b = m % 10 := ⟨_, rfl⟩
  have ha9 : a < 10 := by omega
  have hb9 : b < 10 := by omega
  have hm : m = a * 10 + b := by omega
  have hT : (⟨#[48, 49, 50, 51, 52, 53, 54, 55, 56, 57]⟩ : ByteArray).extract a (a + 1) ++ (⟨#[48, 49, 50, 51, 52, 53, 54, 55, 56, 57]⟩ : ByteArray).extract b (b + 1) = ⟨(Lib.itoa (m : Int)).toArray⟩ := by
    have h2 : ∀ (a b : Fin 10), 0 < a.val → (⟨#[48, 49, 50, 51, 52, 53, 54, 55, 56, 57]⟩ : ByteArray).extract a.val (a.val + 1) ++ (⟨#[48, 49, 50, 51, 52, 53, 54, 55, 56, 57]⟩ : ByteArray).extract b.val (b.val + 1) = ⟨(Lib.itoa ((a.val * 10 + b.val : Nat) : Int)).toArray⟩ := by decide +kernel
    rw [hm]
    exact h2 ⟨a, ha9⟩ ⟨b, hb9⟩ (by show 0 < a; omega)
  have h1 : ¬ (m : Int) < 10 := by omega
  have q1 : (m : Int) / 10 = (a : Int) := by omega
  have q2 : (m : Int).tdiv 10 = (a : Int) := by rw [Int.tdiv_eq_ediv_of_nonneg (by omega)]; exact q1
  have q3 : (m : Int) % 10 = (b : Int) := by omega
  have q4 : (m : Int).tmod 10 = (b : Int) := by rw [Int.tmod_eq_emod_of_nonneg (by omega)]; exact q3
  have h3 : (a : Int) + 1 ≤ 10 := by omega
  have h4 : (b : Int) + 1 ≤ 10 := by omega
  obtain ⟨T, hTT⟩ : ∃ T : ByteArray, T = ⟨(Lib.itoa (m : Int)).toArray⟩ := ⟨_, rfl⟩
  rw [← hTT] at hT ⊢
  have HT := Lib.hid hT
  clear hT hTT ha hb hm
  go_enter Tryz.func17, Tryz.ntmps17
  go_wp2_with fail
  go_quiet (fail)
  go_wp2
  go_ret
  exact ⟨congrArg (fun z => Ending.returned (Value.string z)) HT.out, below_drewN' _⟩
theorem digits18_any (m : Nat) (h : m < 40) (w : World) : Calls Tryz.prog 17 #[.int .i64 (m : Int)] w fun e w' => e = .returned (.string ⟨(Lib.itoa (m : Int)).toArray⟩) ∧ Below w.heap.size w w' := by
  by_cases h0 : m < 10
  · exact digits18_low m h0 w
  · exact digits18_high m h0 h w
end Go.Proofs.YtkkdplccneeaiaaGreatDoor
