/- Contracts of Token and Atom, and of the document's; the example that every statement asks first. -/
import Derived.Test.YthcleaflhljdlaaGreatDoorChars6
namespace Go.Proofs.YthcleaflhljdlaaGreatDoor
open Go Go.RowKit

def mimeB : ByteArray := ⟨#[40, 41, 60, 62, 64, 44, 59, 58, 92, 34, 47, 91, 93, 63, 61]⟩
def imapB : ByteArray := ⟨#[40, 41, 123, 37, 42, 34, 92, 93]⟩
def tokenI (c : Int) : Bool := decide (33 ≤ c ∧ c ≤ 126) && !(hasI mimeB c)
def atomI (c : Int) : Bool := decide (33 ≤ c ∧ c ≤ 126) && !(hasI imapB c)
theorem mime_low : ∀ k, (h : k < mimeB.size) → mimeB[k].toNat < 128 := by decide
theorem imap_low : ∀ k, (h : k < imapB.size) → imapB[k].toNat < 128 := by decide

theorem seen_yes (c : Int) (w : World) (h0 : 0 ≤ c) (h1 : c ≤ 255) (h : 33 ≤ c ∧ c ≤ 126) :
    Calls Tryz.prog 74 #[.int .u8 c] w fun e w' => e = .returned (.bool true) ∧ w = w' :=
  (seen_any c w h0 h1).mono fun _ _ ⟨he, hw⟩ => ⟨by rw [he, decide_eq_true h], hw⟩
theorem seen_no (c : Int) (w : World) (h0 : 0 ≤ c) (h1 : c ≤ 255) (h : ¬ (33 ≤ c ∧ c ≤ 126)) :
    Calls Tryz.prog 74 #[.int .u8 c] w fun e w' => e = .returned (.bool false) ∧ w = w' :=
  (seen_any c w h0 h1).mono fun _ _ ⟨he, hw⟩ => ⟨by rw [he, decide_eq_false h], hw⟩

theorem atom_any (c : Int) (w : World) (h0 : 0 ≤ c) (h1 : c ≤ 255) :
    Calls Tryz.prog 65 #[.int .u8 c] w fun e w' => e = .returned (.bool (atomI c)) ∧ Below w.heap.size w w' := by
  have HM := Lib.hid (fun w => among_any c imapB w h0 h1 imap_low (by decide))
  by_cases h : 33 ≤ c ∧ c ≤ 126
  · go_enter Tryz.func65, Tryz.ntmps65
    go_wp2_with (first | (go_at_call 74; refine (seen_yes _ _ h0 h1 h).mono ?_; rintro e w' ⟨rfl, rfl⟩) | (go_at_call 75; refine (HM.out _).mono ?_; rintro e w' ⟨rfl, k, rfl⟩))
    go_ret
    exact ⟨ret_bool (by unfold atomI; rw [decide_eq_true h]; rfl), (Below.refl _ _).alloc (Nat.le_refl _) _⟩
  · go_enter Tryz.func65, Tryz.ntmps65
    go_wp2_with (go_at_call 74; refine (seen_no _ _ h0 h1 h).mono ?_; rintro e w' ⟨rfl, rfl⟩)
    go_ret
    exact ⟨ret_bool (by unfold atomI; rw [decide_eq_false h]; rfl), Below.refl _ _⟩

theorem refAtom_any (c : Int) (w : World) :
    Calls Tryz.prog 44 #[.int .u8 c] w fun e w' => e = .returned (.bool (atomI c)) ∧ w = w' := by
  have HM := Lib.hid (fun w => in_any imapB c w (by decide))
  by_cases h1 : 32 < c
  · by_cases h2 : c < 127
    · go_enter Tryz.func44, Tryz.ntmps44
      go_wp2_with (go_at_call 57; refine (HM.out _).mono ?_; rintro e w' ⟨rfl, rfl⟩)
      go_ret
      exact ⟨ret_bool (by unfold atomI; rw [decide_eq_true (by omega)]; rfl), rfl⟩
    · go_enter Tryz.func44, Tryz.ntmps44
      go_wp2_with (go_at_call 57; refine (HM.out _).mono ?_; rintro e w' ⟨rfl, rfl⟩)
      go_ret
      exact ⟨ret_bool (by unfold atomI; rw [decide_eq_false (by omega)]; rfl), rfl⟩
  · go_enter Tryz.func44, Tryz.ntmps44
    go_wp2_with (go_at_call 57; refine (HM.out _).mono ?_; rintro e w' ⟨rfl, rfl⟩)
    go_ret
    exact ⟨ret_bool (by unfold atomI; rw [decide_eq_false (by omega)]; rfl), rfl⟩

theorem number_none {s : ByteArray} (w : World) (hl : s.size ≤ 9223372036854775807) (h : numSpec s.data.toList = none) :
    Calls Tryz.prog 59 #[.string s] w fun e w' => e = .returned (.tuple #[.int .i64 0, .bool false]) ∧ Below w.heap.size w w' :=
  (number_any s w hl).mono fun _ _ ⟨he, hw⟩ => ⟨by rw [he, h]; rfl, hw⟩
theorem number_some {s : ByteArray} (n : Nat) (w : World) (hl : s.size ≤ 9223372036854775807) (h : numSpec s.data.toList = some n) :
    Calls Tryz.prog 59 #[.string s] w fun e w' => e = .returned (.tuple #[.int .i64 n, .bool true]) ∧ Below w.heap.size w w' :=
  (number_any s w hl).mono fun _ _ ⟨he, hw⟩ => ⟨by rw [he, h]; rfl, hw⟩

end Go.Proofs.YthcleaflhljdlaaGreatDoor
