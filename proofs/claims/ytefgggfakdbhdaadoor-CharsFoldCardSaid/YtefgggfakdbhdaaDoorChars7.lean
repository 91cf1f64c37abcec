/- Contracts of Token and Atom, and of the document's; the example that every statement asks first. -/
import Derived.Test.YtefgggfakdbhdaaDoorChars6
namespace Go.Proofs.YtefgggfakdbhdaaDoor
open Go Go.RowKit

def mimeB : ByteArray := ⟨#[40, 41, 60, 62, 64, 44, 59, 58, 92, 34, 47, 91, 93, 63, 61]⟩
def imapB : ByteArray := ⟨#[40, 41, 123, 37, 42, 34, 92, 93]⟩
def tokenI (c : Int) : Bool := decide (33 ≤ c ∧ c ≤ 126) && !(hasI mimeB c)
def atomI (c : Int) : Bool := decide (33 ≤ c ∧ c ≤ 126) && !(hasI imapB c)
theorem mime_low : ∀ k, (h : k < mimeB.size) → mimeB[k].toNat < 128 := by decide
theorem imap_low : ∀ k, (h : k < imapB.size) → imapB[k].toNat < 128 := by decide

theorem seen_yes (c : Int) (w : World) (h0 : 0 ≤ c) (h1 : c ≤ 255) (h : 33 ≤ c ∧ c ≤ 126) :
    Calls Tryd.prog 28 #[.int .u8 c] w fun e w' => e = .returned (.bool true) ∧ w = w' :=
  (seen_any c w h0 h1).mono fun _ _ ⟨he, hw⟩ => ⟨by rw [he, decide_eq_true h], hw⟩
theorem seen_no (c : Int) (w : World) (h0 : 0 ≤ c) (h1 : c ≤ 255) (h : ¬ (33 ≤ c ∧ c ≤ 126)) :
    Calls Tryd.prog 28 #[.int .u8 c] w fun e w' => e = .returned (.bool false) ∧ w = w' :=
  (seen_any c w h0 h1).mono fun _ _ ⟨he, hw⟩ => ⟨by rw [he, decide_eq_false h], hw⟩

theorem token_any (c : Int) (w : World) (h0 : 0 ≤ c) (h1 : c ≤ 255) :
    Calls Tryd.prog 12 #[.int .u8 c] w fun e w' => e = .returned (.bool (tokenI c)) ∧ Below w.heap.size w w' := by
  have HM := Lib.hid (fun w => among_any c mimeB w h0 h1 mime_low (by decide))
  by_cases h : 33 ≤ c ∧ c ≤ 126
  · go_enter Tryd.func12, Tryd.ntmps12
    go_wp2_with (first | (go_at_call 28; refine (seen_yes _ _ h0 h1 h).mono ?_; rintro e w' ⟨rfl, rfl⟩) | (go_at_call 29; refine (HM.out _).mono ?_; rintro e w' ⟨rfl, k, rfl⟩))
    go_ret
    exact ⟨ret_bool (by unfold tokenI; rw [decide_eq_true h]; rfl), (Below.refl _ _).alloc (Nat.le_refl _) _⟩
  · go_enter Tryd.func12, Tryd.ntmps12
    go_wp2_with (go_at_call 28; refine (seen_no _ _ h0 h1 h).mono ?_; rintro e w' ⟨rfl, rfl⟩)
    go_ret
    exact ⟨ret_bool (by unfold tokenI; rw [decide_eq_false h]; rfl), Below.refl _ _⟩
theorem atom_any (c : Int) (w : World) (h0 : 0 ≤ c) (h1 : c ≤ 255) :
    Calls Tryd.prog 14 #[.int .u8 c] w fun e w' => e = .returned (.bool (atomI c)) ∧ Below w.heap.size w w' := by
  have HM := Lib.hid (fun w => among_any c imapB w h0 h1 imap_low (by decide))
  by_cases h : 33 ≤ c ∧ c ≤ 126
  · go_enter Tryd.func14, Tryd.ntmps14
    go_wp2_with (first | (go_at_call 28; refine (seen_yes _ _ h0 h1 h).mono ?_; rintro e w' ⟨rfl, rfl⟩) | (go_at_call 29; refine (HM.out _).mono ?_; rintro e w' ⟨rfl, k, rfl⟩))
    go_ret
    exact ⟨ret_bool (by unfold atomI; rw [decide_eq_true h]; rfl), (Below.refl _ _).alloc (Nat.le_refl _) _⟩
  · go_enter Tryd.func14, Tryd.ntmps14
    go_wp2_with (go_at_call 28; refine (seen_no _ _ h0 h1 h).mono ?_; rintro e w' ⟨rfl, rfl⟩)
    go_ret
    exact ⟨ret_bool (by unfold atomI; rw [decide_eq_false h]; rfl), Below.refl _ _⟩

theorem refToken_any (c : Int) (w : World) :
    Calls Tryd.prog 13 #[.int .u8 c] w fun e w' => e = .returned (.bool (tokenI c)) ∧ w = w' := by
  have HM := Lib.hid (fun w => in_any mimeB c w (by decide))
  by_cases h1 : 32 < c
  · by_cases h2 : c < 127
    · go_enter Tryd.func13, Tryd.ntmps13
      go_wp2_with (go_at_call 30; refine (HM.out _).mono ?_; rintro e w' ⟨rfl, rfl⟩)
      go_ret
      exact ⟨ret_bool (by unfold tokenI; rw [decide_eq_true (by omega)]; rfl), rfl⟩
    · go_enter Tryd.func13, Tryd.ntmps13
      go_wp2_with (go_at_call 30; refine (HM.out _).mono ?_; rintro e w' ⟨rfl, rfl⟩)
      go_ret
      exact ⟨ret_bool (by unfold tokenI; rw [decide_eq_false (by omega)]; rfl), rfl⟩
  · go_enter Tryd.func13, Tryd.ntmps13
    go_wp2_with (go_at_call 30; refine (HM.out _).mono ?_; rintro e w' ⟨rfl, rfl⟩)
    go_ret
    exact ⟨ret_bool (by unfold tokenI; rw [decide_eq_false (by omega)]; rfl), rfl⟩

theorem refAtom_any (c : Int) (w : World) :
    Calls Tryd.prog 15 #[.int .u8 c] w fun e w' => e = .returned (.bool (atomI c)) ∧ w = w' := by
  have HM := Lib.hid (fun w => in_any imapB c w (by decide))
  by_cases h1 : 32 < c
  · by_cases h2 : c < 127
    · go_enter Tryd.func15, Tryd.ntmps15
      go_wp2_with (go_at_call 30; refine (HM.out _).mono ?_; rintro e w' ⟨rfl, rfl⟩)
      go_ret
      exact ⟨ret_bool (by unfold atomI; rw [decide_eq_true (by omega)]; rfl), rfl⟩
    · go_enter Tryd.func15, Tryd.ntmps15
      go_wp2_with (go_at_call 30; refine (HM.out _).mono ?_; rintro e w' ⟨rfl, rfl⟩)
      go_ret
      exact ⟨ret_bool (by unfold atomI; rw [decide_eq_false (by omega)]; rfl), rfl⟩
  · go_enter Tryd.func15, Tryd.ntmps15
    go_wp2_with (go_at_call 30; refine (HM.out _).mono ?_; rintro e w' ⟨rfl, rfl⟩)
    go_ret
    exact ⟨ret_bool (by unfold atomI; rw [decide_eq_false (by omega)]; rfl), rfl⟩

theorem number_none {s : ByteArray} (w : World) (hl : s.size ≤ 9223372036854775807) (h : numSpec s.data.toList = none) :
    Calls Tryd.prog 17 #[.string s] w fun e w' => e = .returned (.tuple #[.int .i64 0, .bool false]) ∧ Below w.heap.size w w' :=
  (number_any s w hl).mono fun _ _ ⟨he, hw⟩ => ⟨by rw [he, h]; rfl, hw⟩
theorem number_some {s : ByteArray} (n : Nat) (w : World) (hl : s.size ≤ 9223372036854775807) (h : numSpec s.data.toList = some n) :
    Calls Tryd.prog 17 #[.string s] w fun e w' => e = .returned (.tuple #[.int .i64 n, .bool true]) ∧ Below w.heap.size w w' :=
  (number_any s w hl).mono fun _ _ ⟨he, hw⟩ => ⟨by rw [he, h]; rfl, hw⟩

theorem awake_any (w : World) (ht : tab w) :
    Calls Tryd.prog 9 #[] w fun e w' => e = .returned (.bool true) ∧ Below w.heap.size w w' := by
  go_enter Tryd.func9, Tryd.ntmps9
  go_wp2_with fail
  refine (number_none _ (by decide) (by decide)).mono ?_
  rintro e w1 ⟨rfl, hb1⟩
  have HB1 := Lib.hid hb1; clear hb1
  go_wp2_with fail
  refine (number_some 4294967295 _ (by decide) (by decide)).mono ?_
  rintro e w2 ⟨rfl, hb2⟩
  have HB2 := Lib.hid (HB1.out.trans (hb2.mono HB1.out.size)); clear hb2 HB1
  go_wp2_with fail
  refine (split_any ⟨#[97, 44, 98]⟩ 44 _ (by decide)).mono ?_
  rintro e w3 ⟨v, rfl, hown, hb3⟩
  have HO := Lib.hid hown; clear hown
  obtain ⟨g, cap, rfl, hcap, hcm, _, _⟩ := ownsRow_slice HO.out (by decide)
  have HB3 := Lib.hid (HB2.out.trans (hb3.mono HB2.out.size)); clear hb3 HB2
  go_wp2_with fail
  refine (digits_any (-12) (by decide) (by decide) _ (ht.below HB3.out)).mono ?_
  rintro e w4 ⟨rfl, hb4⟩
  have HO4 := Lib.hid (ownsRow_below HO.out hb4); clear HO
  have HB4 := Lib.hid (HB3.out.trans (hb4.mono HB3.out.size)); clear hb4 HB3
  have e12 : Lib.itoa (-12) = [45, 49, 50] := by
    rw [show (-12 : Int) = -((12 : Nat) : Int) from rfl, Lib.itoa_neg 12 (by decide), Lib.decDigits_two (by decide) (by decide)]
    rfl
  rw [e12]; clear e12
  go_wp2_with fail
  refine (same_any ⟨#[97, 66]⟩ ⟨#[65, 98]⟩ _ (by decide)).mono ?_
  rintro e w5 ⟨rfl, n5, rfl⟩
  rw [decide_eq_true (show foldS (⟨#[97, 66]⟩ : ByteArray).data.toList = foldS (⟨#[65, 98]⟩ : ByteArray).data.toList from by decide)]
  have HO5 := Lib.hid (ownsRow_below HO4.out (below_drewN (Below.refl _ _) n5)); clear HO4
  have HB5 := Lib.hid (below_drewN HB4.out n5); clear HB4
  go_wp2_with fail
  refine (token_any 97 _ (by decide) (by decide)).mono ?_
  rintro e w6 ⟨rfl, hb6⟩
  have HO6 := Lib.hid (ownsRow_below HO5.out hb6); clear HO5
  have HB6 := Lib.hid (HB5.out.trans (hb6.mono HB5.out.size)); clear hb6 HB5
  rw [show tokenI 97 = true from by decide]
  go_wp2_with fail
  refine (atom_any 40 _ (by decide) (by decide)).mono ?_
  rintro e w7 ⟨rfl, hb7⟩
  have HO7 := Lib.hid (ownsRow_below HO6.out hb7); clear HO6
  have HB7 := Lib.hid (HB6.out.trans (hb7.mono HB6.out.size)); clear hb7 HB6
  rw [show atomI 40 = false from by decide]
  have hcell : w7.cell? ⟨g, 1, none⟩ = some (.string ⟨#[98]⟩) := HO7.out.cellAt 1 (by decide)
  go_wp2
  go_ret
  exact ⟨rfl, HB7.out⟩
end Go.Proofs.YtefgggfakdbhdaaDoor
