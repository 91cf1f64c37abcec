/- Contracts of the document's answers for base64: a letter, a letter's value, letters in one row. -/
import Derived.Test.YtolkjaebhhbilaaDoorB64B
import Derived.Outline
import Derived.Deep.RegionWith
namespace Go.Proofs.YtolkjaebhhbilaaDoor
open Go Go.RowKit

def lettersS : ByteArray := ⟨#[65, 66, 67, 68, 69, 70, 71, 72, 73, 74, 75, 76, 77, 78, 79, 80, 81, 82, 83, 84, 85, 86, 87, 88, 89, 90, 97, 98, 99, 100, 101, 102, 103, 104, 105, 106, 107, 108, 109, 110, 111, 112, 113, 114, 115, 116, 117, 118, 119, 120, 121, 122, 48, 49, 50, 51, 52, 53, 54, 55, 56, 57, 43, 47]⟩
theorem piece_letters (n : Nat) (h : n < 64) : (lettersS.extract n (n + 1)).data.toList = [letB n] := by
  rw [extract_toList]
  show (tabL.drop n).take (n + 1 - n) = [letB n]
  have hl : n < tabL.length := h
  rw [List.drop_eq_getElem_cons hl, Nat.add_sub_cancel_left, List.take_succ_cons, List.take_zero]
  unfold letB
  rw [List.getD_eq_getElem?_getD, List.getElem?_eq_getElem hl]
  rfl

/-- What a call of letter gives. -/
def LetterGot (w : World) (n : Nat) (e : Ending) (w' : World) : Prop := ∃ T : ByteArray, e = .returned (.string T) ∧ T.size = 1 ∧ T.data.toList = [letB n] ∧ w = w'
theorem letter_nat (n : Nat) (w : World) (h1 : n < 64) : Calls Tryd.prog 23 #[.int .i64 (n : Int)] w (LetterGot w n) := by
  have HP := Lib.hid (piece_letters n h1)
  have HZ := Lib.hid (extract_size' lettersS n (n + 1) (by show n + 1 ≤ 64; omega))
  unfold lettersS at HP HZ
  go_enter Tryd.func23, Tryd.ntmps23
  go_wp2
  go_ret
  refine ⟨_, rfl, ?_, HP.out, rfl⟩
  rw [HZ.out]
  omega
theorem letter_int (n : Int) (w : World) (h0 : 0 ≤ n) (h1 : n < 64) : Calls Tryd.prog 23 #[.int .i64 n] w (LetterGot w n.toNat) := by
  obtain ⟨m, rfl⟩ : ∃ m : Nat, n = (m : Int) := ⟨n.toNat, by omega⟩
  exact letter_nat m w (by omega)

end Go.Proofs.YtolkjaebhhbilaaDoor
