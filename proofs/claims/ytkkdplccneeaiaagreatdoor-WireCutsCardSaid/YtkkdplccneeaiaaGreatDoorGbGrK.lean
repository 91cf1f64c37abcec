/- Small words that the layers lines and params have of their own (LinesC2, ParG); where these are there, this text is left out. -/
import Derived.Test.YtkkdplccneeaiaaGreatDoorKit2
import Derived.Test.YtkkdplccneeaiaaGreatDoorGbParC
import Derived.Test.YtkkdplccneeaiaaGreatDoorShelf
namespace Go.Proofs.YtkkdplccneeaiaaGreatDoor
open Go Go.RowKit

def intsOf (l : List UInt8) : List Int := l.map fun b => (b.toNat : Int)
theorem intsOf_len (l : List UInt8) : (intsOf l).length = l.length := by simp [intsOf]
theorem bytesOf_ints (l : List UInt8) : Lib.bytesOf (intsOf l) = l := by
  unfold Lib.bytesOf intsOf
  rw [List.map_map]
  conv => rhs; rw [← List.map_id l]
  apply List.map_congr_left
  intro b _
  apply toNat_eq
  have := b.toNat_lt
  simp
theorem sliceAt.ints {w : World} {ao : Option Addr} {l : List UInt8} (h : sliceAt w ao l) : Lib.BytesIn w ao l.length (intsOf l) := by
  intro hn
  rcases h with rfl | ⟨b, off, rfl, hb, hc⟩
  · simp at hn
  · refine ⟨b, off, rfl, fun i hi => ?_⟩
    rw [hc i hi]
    simp [byteV, intsOf, List.getD, hi]
theorem suffix_13 (p : List UInt8) : Lib.hasSuffix p [13] = decide (0 < p.length ∧ p.getD (p.length - 1) 0 = 13) := by
  unfold Lib.hasSuffix
  rw [Bool.eq_iff_iff, List.isSuffixOf_iff_suffix, decide_eq_true_iff]
  constructor
  · rintro ⟨t, rfl⟩
    simp [List.getD]
  · rintro ⟨h1, h2⟩
    refine ⟨p.take (p.length - 1), ?_⟩
    rw [List.getD_eq_getElem?_getD, List.getElem?_eq_getElem (by omega)] at h2
    simp only [Option.getD_some] at h2
    have := List.take_succ_eq_append_getElem (l := p) (i := p.length - 1) (by omega)
    rw [h2, show p.length - 1 + 1 = p.length by omega, List.take_length] at this
    exact this.symm
theorem suffix_any (b o n c B : Nat) (p : List UInt8) (w : World) (hn : p.length = n) (hc : n ≤ c) (hm : c ≤ maxLen) (hs : sliceAt w (some ⟨b, o, none⟩) p) (hB : sliceAt w (some ⟨B, 0, none⟩) [13]) :
    Calls Tryz.prog 60 #[.slice (some ⟨b, o, none⟩) n c, .slice (some ⟨B, 0, none⟩) 1 1] w fun e w' =>
      e = .returned (.slice (some ⟨b, o, none⟩) (if 0 < n ∧ p.getD (n - 1) 0 = 13 then n - 1 else n) c) ∧ w = w' := by
  subst hn
  refine (Tryz.bytes_TrimSuffix_all (some ⟨b, o, none⟩) (some ⟨B, 0, none⟩) p.length c 1 1 (intsOf p) (intsOf [13]) w (intsOf_len p) (intsOf_len [13]) hc (by unfold maxLen at hm; omega) hs.ints hB.ints).mono ?_
  rintro e w' ⟨rfl, rfl⟩
  refine ⟨?_, rfl⟩
  show Ending.returned (Lib.bytesTrimSuffix b o p.length c (intsOf p) (intsOf [13])) = _
  unfold Lib.bytesTrimSuffix
  rw [bytesOf_ints, bytesOf_ints, suffix_13, intsOf_len]
  by_cases h : 0 < p.length ∧ p.getD (p.length - 1) 0 = 13
  · rw [if_pos h, decide_eq_true h, if_pos rfl]
    rfl
  · rw [if_neg h, decide_eq_false h]
    rfl

/-- All that lay lies as it lay, but for one block. -/
def Gr (B : Nat) (W W' : World) : Prop := W.grownBy W' (some B)
theorem Gr.refl (B : Nat) (W : World) : Gr B W W := ⟨rfl, rfl, rfl, Nat.le_refl _, fun _ _ _ => rfl⟩
theorem Gr.trans {B : Nat} {a b c : World} (h : Gr B a b) (k : Gr B b c) : Gr B a c := World.grownBy.trans h k
theorem Gr.below {B : Nat} {a b c : World} (h : Gr B a b) (k : Below b.heap.size b c) : Gr B a c := h.trans ⟨k.os, k.tape, k.output, k.size, fun i hi _ => k.block i hi⟩
theorem Gr.set {B : Nat} {a b : World} (h : Gr B a b) (j : Nat) (u : Value) : Gr B a (b.setCell ⟨B, j, none⟩ u) := h.trans (grownBy_setCell b ⟨B, j, none⟩ u)
theorem Gr.size {B : Nat} {a b : World} (h : Gr B a b) : a.heap.size ≤ b.heap.size := World.grownBy.size h
end Go.Proofs.YtkkdplccneeaiaaGreatDoor
