/- Contracts of the functions of package chars and of the document's answers to them: single bytes. -/
import Derived.Test.YthcleaflhljdlaaGreatDoorProg
import Derived.Test.YthcleaflhljdlaaGreatDoorKit
import Derived.WalkKit
import Derived.WalkSpells
import Derived.BigQuiet
import Derived.Deep.QuietTactic
import Derived.Deep.LoopGhost
import Derived.Lib.Hide
namespace Go.Proofs.YthcleaflhljdlaaGreatDoor
open Go Go.RowKit

/-- A letter's small one. -/
def lowI (c : Int) : Int := if 65 ≤ c ∧ c ≤ 90 then c + 32 else c

theorem lower_any (c : Int) (w : World) (h0 : 0 ≤ c) (h1 : c ≤ 255) :
    Calls Tryz.prog 71 #[.int .u8 c] w fun e w' => e = .returned (.int .u8 (lowI c)) ∧ w = w' := by
  by_cases a : 65 ≤ c
  · by_cases b : c ≤ 90
    · go_enter Tryz.func71, Tryz.ntmps71
      go_wp2
      go_ret
      exact ⟨ret_int (by unfold lowI; rw [if_pos ⟨a, b⟩]; omega), rfl⟩
    · go_enter Tryz.func71, Tryz.ntmps71
      go_wp2
      go_ret
      exact ⟨ret_int (by unfold lowI; rw [if_neg (by omega)]), rfl⟩
  · go_enter Tryz.func71, Tryz.ntmps71
    go_wp2
    go_ret
    exact ⟨ret_int (by unfold lowI; rw [if_neg (by omega)]), rfl⟩

theorem up_at : ∀ k, (h : k < 26) → (((⟨#[65, 66, 67, 68, 69, 70, 71, 72, 73, 74, 75, 76, 77, 78, 79, 80, 81, 82, 83, 84, 85, 86, 87, 88, 89, 90]⟩ : ByteArray)[k]'h).toNat) = 65 + k := by decide
theorem low_at : ∀ k, (h : k < 26) → (((⟨#[97, 98, 99, 100, 101, 102, 103, 104, 105, 106, 107, 108, 109, 110, 111, 112, 113, 114, 115, 116, 117, 118, 119, 120, 121, 122]⟩ : ByteArray)[k]'h).toNat) = 97 + k := by decide

theorem refLower_any (c : Int) (w : World) (h0 : 0 ≤ c) (h1 : c ≤ 255) :
    Calls Tryz.prog 49 #[.int .u8 c] w fun e w' => e = .returned (.int .u8 (lowI c)) ∧ w = w' := by
  go_enter Tryz.func49, Tryz.ntmps49
  go_wp2
  go_loop [5] (fun i => ∃ k : Nat, k ≤ 26 ∧ i = .int .i64 k ∧ (c < 65 ∨ 65 + k ≤ c)) (fun i => 26 - (intOf i).toNat)
  case atStart => exact ⟨0, by omega, rfl, by omega⟩
  case round =>
    obtain ⟨k, hk, rfl, hc⟩ := hrel
    by_cases hlt : k < 26
    · have e1 := up_at k hlt
      have e2 := low_at k hlt
      by_cases hq : c = 65 + k
      · have ht : (((⟨#[65, 66, 67, 68, 69, 70, 71, 72, 73, 74, 75, 76, 77, 78, 79, 80, 81, 82, 83, 84, 85, 86, 87, 88, 89, 90]⟩ : ByteArray)[k].toNat : Int) == c) = true := by rw [e1]; simp; omega
        go_wp2
        go_ret
        exact ⟨ret_int (by unfold lowI; rw [if_pos (by omega)]; omega), rfl⟩
      · have ht : (((⟨#[65, 66, 67, 68, 69, 70, 71, 72, 73, 74, 75, 76, 77, 78, 79, 80, 81, 82, 83, 84, 85, 86, 87, 88, 89, 90]⟩ : ByteArray)[k].toNat : Int) == c) = false := by rw [e1]; simp; omega
        go_wp2
        go_round
        case rel => exact ⟨k + 1, by omega, by go_num, by omega⟩
        case measure => simp [intOf]; omega
    · go_wp2
      go_ret
      exact ⟨ret_int (by unfold lowI; rw [if_neg (by omega)]), rfl⟩

theorem seen_any (c : Int) (w : World) (h0 : 0 ≤ c) (h1 : c ≤ 255) :
    Calls Tryz.prog 74 #[.int .u8 c] w fun e w' => e = .returned (.bool (decide (33 ≤ c ∧ c ≤ 126))) ∧ w = w' := by
  by_cases a : 33 ≤ c
  · go_enter Tryz.func74, Tryz.ntmps74
    go_wp2
    go_ret
    exact ⟨ret_bool (by simp [a]), rfl⟩
  · go_enter Tryz.func74, Tryz.ntmps74
    go_wp2
    go_ret
    exact ⟨ret_bool (by simp; omega), rfl⟩

/-- Is a byte among those of a text? -/
def hasI (s : ByteArray) (c : Int) : Bool := s.data.toList.any fun b => (b.toNat : Int) == c

theorem hasI_at {s : ByteArray} {c : Int} {k : Nat} (h : k < s.size) (e : (s[k].toNat : Int) = c) : hasI s c = true := by
  unfold hasI
  rw [List.any_eq_true]
  exact ⟨s[k], by simp [ByteArray.getElem_eq_getElem_data], by simpa using e⟩

theorem hasI_not {s : ByteArray} {c : Int} (h : ∀ k, (hk : k < s.size) → (s[k].toNat : Int) ≠ c) : hasI s c = false := by
  unfold hasI
  rw [List.any_eq_false]
  intro b hb
  obtain ⟨k, hk, rfl⟩ := List.getElem_of_mem hb
  have := h k (by simpa using hk)
  simpa [ByteArray.getElem_eq_getElem_data] using this

theorem among_any (c : Int) (s : ByteArray) (w : World) (h0 : 0 ≤ c) (h1 : c ≤ 255) (hs : ∀ k, (h : k < s.size) → s[k].toNat < 128) (hl : s.size ≤ 9223372036854775807) :
    Calls Tryz.prog 75 #[.int .u8 c, .string s] w fun e w' => e = .returned (.bool (hasI s c)) ∧ ∃ p, w' = w.iter s p := by
  go_enter Tryz.func75, Tryz.ntmps75
  go_wp2
  go_loopg [6] s.size (fun g _ wr => ∃ k : Nat, k ≤ s.size ∧ g = s.size - k ∧ wr = w.iter s k ∧ Hid (∀ j, (h : j < s.size) → j < k → (s[j].toNat : Int) ≠ c))
  case atStart => exact ⟨0, by omega, by omega, rfl, fun j _ hj => by omega⟩
  case round =>
    obtain ⟨k, hk, rfl, rfl, HC⟩ := hrel
    by_cases hlt : k < s.size
    · have hnx : ∀ ty, (Instr.next (.pointer (some ⟨w.heap.size, 0, none⟩)) true ty).run Tryz.prog (w.iter s k) = _ := fun ty => run_next_ascii w s k ty hlt (hs k hlt)
      have hb := hs k hlt
      clear hs
      by_cases hq : (s[k].toNat : Int) = c
      · have ht : ((s[k].toNat : Int) == c) = true := by simpa using hq
        have H := Lib.hid hq; clear hq
        go_wp2
        go_ret
        exact ⟨ret_bool (hasI_at hlt H.out).symm, _, rfl⟩
      · have ht : ((s[k].toNat : Int) == c) = false := by simpa using hq
        have H := Lib.hid hq; clear hq
        go_wp2
        go_roundg (s.size - (k + 1))
        case measure => omega
        case rel =>
          refine ⟨k + 1, by omega, rfl, rfl, ?_⟩
          intro j hj hjk
          by_cases e : j = k
          · subst e; exact H.out
          · exact HC.out j hj (by omega)
    · have hnx : ∀ ty, (Instr.next (.pointer (some ⟨w.heap.size, 0, none⟩)) true ty).run Tryz.prog (w.iter s k) = _ := fun ty => run_next_end w s k ty hlt
      go_wp2
      go_ret
      exact ⟨ret_bool (hasI_not fun j hj => HC.out j hj (by omega)).symm, _, rfl⟩

theorem in_any (s : ByteArray) (c : Int) (w : World) (hl : s.size ≤ 9223372036854775807) :
    Calls Tryz.prog 57 #[.string s, .int .u8 c] w fun e w' => e = .returned (.bool (hasI s c)) ∧ w = w' := by
  go_enter Tryz.func57, Tryz.ntmps57
  go_wp2
  go_loopg [5] s.size (fun g i wr => ∃ k : Nat, k ≤ s.size ∧ g = s.size - k ∧ i = .int .i64 k ∧ w = wr ∧ Hid (∀ j, (h : j < s.size) → j < k → (s[j].toNat : Int) ≠ c))
  case atStart => exact ⟨0, by omega, by omega, rfl, rfl, fun j _ hj => by omega⟩
  case round =>
    obtain ⟨k, hk, rfl, rfl, rfl, HC⟩ := hrel
    by_cases hlt : k < s.size
    · by_cases hq : (s[k].toNat : Int) = c
      · have ht : ((s[k].toNat : Int) == c) = true := by simpa using hq
        have H := Lib.hid hq; clear hq
        go_wp2
        go_ret
        exact ⟨ret_bool (hasI_at hlt H.out).symm, rfl⟩
      · have ht : ((s[k].toNat : Int) == c) = false := by simpa using hq
        have H := Lib.hid hq; clear hq
        go_wp2
        go_roundg (s.size - (k + 1))
        case measure => omega
        case rel =>
          refine ⟨k + 1, by omega, rfl, by go_num, rfl, ?_⟩
          intro j hj hjk
          by_cases e : j = k
          · subst e; exact H.out
          · exact HC.out j hj (by omega)
    · go_wp2
      go_ret
      exact ⟨ret_bool (hasI_not fun j hj => HC.out j hj (by omega)).symm, rfl⟩

end Go.Proofs.YthcleaflhljdlaaGreatDoor
