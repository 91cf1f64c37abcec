/- Laws of layer 9: the document's examples. -/
import Derived.Test.YtolkjaebhhbilaaDoorWdG
namespace Go.Proofs.YtolkjaebhhbilaaDoor
open Go Go.RowKit

def txA : ByteArray := ⟨#[61, 63, 108, 97, 116, 105, 110, 49, 42, 101, 110, 63, 98, 63, 54, 81, 61, 61, 63, 61, 32, 120]⟩
def txB : ByteArray := ⟨#[61, 63, 117, 116, 102, 45, 56, 63, 81, 63, 97, 61, 53, 70, 95, 98, 63, 61]⟩
def txC : ByteArray := ⟨#[120, 32, 61, 63, 117, 116, 102, 45, 56, 63, 113, 63, 97, 63, 61, 32, 9, 61, 63, 117, 116, 102, 45, 56, 63, 113, 63, 98, 63, 61, 32, 121]⟩
theorem exA : ewL txA.data.toList = some ([195, 169], 20) := by kernel_rfl
theorem exB : decM none txB.data.toList = [97, 95, 32, 98] := by kernel_rfl
theorem exC : decM none txC.data.toList = [120, 32, 97, 98, 32, 121] := by kernel_rfl
theorem exD : encodeL [97] = [61, 63, 117, 116, 102, 45, 56, 63, 66, 63, 89, 81, 61, 61, 63, 61] := by kernel_rfl
set_option maxRecDepth 100000 in
set_option maxHeartbeats 4000000 in
theorem awake_any (w : World) (hE : env w) :
    Calls Tryd.prog 6 #[] w fun e w' => e = .returned (.bool true) ∧ Below w.heap.size w w' := by
  have HEn := Lib.hid hE
  have H1 : Hid (∀ W, Below w.heap.size w W → Calls Tryd.prog 11 #[.string ⟨#[61, 63, 108, 97, 116, 105, 110, 49, 42, 101, 110, 63, 98, 63, 54, 81, 61, 61, 63, 61, 32, 120]⟩] W fun e w' => e = .returned (.tuple #[.string ⟨#[195, 169]⟩, .int .i64 20]) ∧ Below W.heap.size W w') := fun W hb => by
    have h := Word_any txA W (by decide) (HEn.out.below hb)
    rw [exA] at h
    exact h
  have H2 : Hid (∀ W, Below w.heap.size w W → Calls Tryd.prog 10 #[.string ⟨#[61, 63, 117, 116, 102, 45, 56, 63, 81, 63, 97, 61, 53, 70, 95, 98, 63, 61]⟩] W fun e w' => e = .returned (.string ⟨#[97, 95, 32, 98]⟩) ∧ Below W.heap.size W w') := fun W hb => by
    have h := Decode_any txB W (by decide) (HEn.out.below hb)
    rw [exB] at h
    exact h
  have H3 : Hid (∀ W, Below w.heap.size w W → Calls Tryd.prog 10 #[.string ⟨#[120, 32, 61, 63, 117, 116, 102, 45, 56, 63, 113, 63, 97, 63, 61, 32, 9, 61, 63, 117, 116, 102, 45, 56, 63, 113, 63, 98, 63, 61, 32, 121]⟩] W fun e w' => e = .returned (.string ⟨#[120, 32, 97, 98, 32, 121]⟩) ∧ Below W.heap.size W w') := fun W hb => by
    have h := Decode_any txC W (by decide) (HEn.out.below hb)
    rw [exC] at h
    exact h
  have H4 : Hid (∀ W, Below w.heap.size w W → Calls Tryd.prog 7 #[.string ⟨#[97]⟩] W fun e w' => e = .returned (.string ⟨#[61, 63, 117, 116, 102, 45, 56, 63, 66, 63, 89, 81, 61, 61, 63, 61]⟩) ∧ Below W.heap.size W w') := fun W hb => by
    have h := Encode_any ⟨#[97]⟩ W (by decide) (HEn.out.below hb)
    rw [show (⟨#[97]⟩ : ByteArray).data.toList = [97] from rfl, exD] at h
    exact h
  have q1 : ((⟨#[195, 169]⟩ : ByteArray).toList == [195, 169]) = true := by kernel_rfl
  have q2 : ((⟨#[97, 95, 32, 98]⟩ : ByteArray).toList == [97, 95, 32, 98]) = true := by kernel_rfl
  have q3 : ((⟨#[120, 32, 97, 98, 32, 121]⟩ : ByteArray).toList == [120, 32, 97, 98, 32, 121]) = true := by kernel_rfl
  have q4 : ((⟨#[61, 63, 117, 116, 102, 45, 56, 63, 66, 63, 89, 81, 61, 61, 63, 61]⟩ : ByteArray).toList == [61, 63, 117, 116, 102, 45, 56, 63, 66, 63, 89, 81, 61, 61, 63, 61]) = true := by kernel_rfl
  clear hE
  go_enter Tryd.func6, Tryd.ntmps6
  go_wp2_with fail
  with_reducible refine (H1.out _ (Below.refl _ _)).mono ?_
  rintro e w1 ⟨rfl, hb1⟩
  have HB1 := Lib.hid hb1
  clear hb1
  go_wp2_with fail
  with_reducible refine (H2.out _ HB1.out).mono ?_
  rintro e w2 ⟨rfl, hb2⟩
  have HB2 := Lib.hid (HB1.out.trans (hb2.mono HB1.out.size))
  clear hb2
  go_wp2_with fail
  with_reducible refine (H3.out _ HB2.out).mono ?_
  rintro e w3 ⟨rfl, hb3⟩
  have HB3 := Lib.hid (HB2.out.trans (hb3.mono HB2.out.size))
  clear hb3
  go_wp2_with fail
  with_reducible refine (H4.out _ HB3.out).mono ?_
  rintro e w4 ⟨rfl, hb4⟩
  have HB4 := Lib.hid (HB3.out.trans (hb4.mono HB3.out.size))
  clear hb4
  go_wp2_with fail
  go_ret
  exact ⟨rfl, HB4.out⟩
end Go.Proofs.YtolkjaebhhbilaaDoor
