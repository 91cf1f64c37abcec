/- Contracts of the functions of package chars and of the document's answers to them: single bytes. -/
import Derived.Test.YtpmjlhpbknppiaaDoorProg
import Derived.Test.YtpmjlhpbknppiaaDoorKit
import Derived.WalkKit
import Derived.WalkSpells
import Derived.BigQuiet
import Derived.Deep.QuietTactic
import Derived.Deep.LoopGhost
import Derived.Lib.Hide
namespace Go.Proofs.YtpmjlhpbknppiaaDoor
open Go Go.RowKit

/-- A letter's small one. -/
def lowI (c : Int) : Int := if 65 ≤ c ∧ c ≤ 90 then c + 32 else c

theorem lower_any (c : Int) (w : World) (h0 : 0 ≤ c) (h1 : c ≤ 255) :
    Calls Tryd.prog 66 #[.int .u8 c] w fun e w' => e = .returned (.int .u8 (lowI c)) ∧ w = w' := by
  by_cases a : 65 ≤ c
  · by_cases b : c ≤ 90
    · go_enter Tryd.func66, Tryd.ntmps66
      go_wp2
      go_ret
      exact ⟨ret_int (by unfold lowI; rw [if_pos ⟨a, b⟩]; omega), rfl⟩
    · go_enter Tryd.func66, Tryd.ntmps66
      go_wp2
      go_ret
      exact ⟨ret_int (by unfold lowI; rw [if_neg (by omega)]), rfl⟩
  · go_enter Tryd.func66, Tryd.ntmps66
    go_wp2
    go_ret
    exact ⟨ret_int (by unfold lowI; rw [if_neg (by omega)]), rfl⟩

theorem up_at : ∀ k, (h : k < 26) → (((⟨#[65, 66, 67, 68, 69, 70, 71, 72, 73, 74, 75, 76, 77, 78, 79, 80, 81, 82, 83, 84, 85, 86, 87, 88, 89, 90]⟩ : ByteArray)[k]'h).toNat) = 65 + k := by decide
theorem low_at : ∀ k, (h : k < 26) → (((⟨#[97, 98, 99, 100, 101, 102, 103, 104, 105, 106, 107, 108, 109, 110, 111, 112, 113, 114, 115, 116, 117, 118, 119, 120, 121, 122]⟩ : ByteArray)[k]'h).toNat) = 97 + k := by decide

theorem refLower_any (c : Int) (w : World) (h0 : 0 ≤ c) (h1 : c ≤ 255) :
    Calls Tryd.prog 68 #[.int .u8 c] w fun e w' => e = .returned (.int .u8 (lowI c)) ∧ w = w' := by
  go_enter Tryd.func68, Tryd.ntmps68
  go_wp2
  go_loop [5] (fun i => ∃ k : Nat, k ≤ 26 ∧ i = .int .i64 k ∧ (c < 65 ∨ 65 + k ≤ c)) (fun i => 26 - (intOf i).toNat)
  case atStart => exact ⟨0, by omega, rfl, by omega⟩
  case round =>
    obtain ⟨k, hk, rfl, hc⟩ := hrel
    by_cases hlt : k < 26
    · have e1 := up_at k hlt
      have e2 := low_at k hlt
      by_cases hq : c = 65 + k
      · have ht : (((⟨#[65, 66, 67, 68, 69, 70, 71, 72, 73, 74, 75, 76, 77, 78, 79, 80, 81, 82, 83, 84, 85, 86, 87, 88, 89, 90]⟩ : ByteArray)[k].toNat : Int) == c) = true := by rw [e1]; simp; omega
        go_wp2
        go_ret
        exact ⟨ret_int (by unfold lowI; rw [if_pos (by omega)]; omega), rfl⟩
      · have ht : (((⟨#[65, 66, 67, 68, 69, 70, 71, 72, 73, 74, 75, 76, 77, 78, 79, 80, 81, 82, 83, 84, 85, 86, 87, 88, 89, 90]⟩ : ByteArray)[k].toNat : Int) == c) = false := by rw [e1]; simp; omega
        go_wp2
        go_round
        case rel => exact ⟨k + 1, by omega, by go_num, by omega⟩
        case measure => simp [intOf]; omega
    · go_wp2
      go_ret
      exact ⟨ret_int (by unfold lowI; rw [if_neg (by omega)]), rfl⟩

theorem blank_any (c : Int) (w : World) :
    Calls Tryd.prog 65 #[.int .u8 c] w fun e w' => e = .returned (.bool (decide (c = 32 ∨ c = 9))) ∧ w = w' := by
  by_cases a : c = 32
  · have ha : (c == 32) = true := by simp [a]
    clear a
    go_enter Tryd.func65, Tryd.ntmps65
    go_wp2
    go_ret
    exact ⟨ret_bool (by simp at ha; simp [ha]), rfl⟩
  · have ha : (c == 32) = false := by simp [a]
    clear a
    go_enter Tryd.func65, Tryd.ntmps65
    go_wp2
    go_ret
    exact ⟨ret_bool (by simp at ha; simp [ha]; rfl), rfl⟩

/-- Is a byte among those of a text? -/
def hasI (s : ByteArray) (c : Int) : Bool := s.data.toList.any fun b => (b.toNat : Int) == c

theorem hasI_at {s : ByteArray} {c : Int} {k : Nat} (h : k < s.size) (e : (s[k].toNat : Int) = c) : hasI s c = true := by
  unfold hasI
  rw [List.any_eq_true]
  exact ⟨s[k], by simp [ByteArray.getElem_eq_getElem_data], by simpa using e⟩

theorem hasI_not {s : ByteArray} {c : Int} (h : ∀ k, (hk : k < s.size) → (s[k].toNat : Int) ≠ c) : hasI s c = false := by
  unfold hasI
  rw [List.any_eq_false]
  intro b hb
  obtain ⟨k, hk, rfl⟩ := List.getElem_of_mem hb
  have := h k (by simpa using hk)
  simpa [ByteArray.getElem_eq_getElem_data] using this

end Go.Proofs.YtpmjlhpbknppiaaDoor
