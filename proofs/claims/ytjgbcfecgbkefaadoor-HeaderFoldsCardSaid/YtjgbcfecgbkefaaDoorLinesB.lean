/- Contracts of package lines: Text. -/
import Derived.Test.YtjgbcfecgbkefaaDoorLinesA
namespace Go.Proofs.YtjgbcfecgbkefaaDoor
open Go Go.RowKit

def textS (l : List UInt8) (f t : Int) : List UInt8 := if withinB f t l.length = true then partS l f.toNat t.toNat else []
theorem textS_nat (l : List UInt8) {f t : Nat} (h1 : f ≤ t) (h2 : t ≤ l.length) : textS l f t = partS l f t := by
  unfold textS
  rw [withinB_yes (by omega), if_pos rfl]
  rfl
theorem textS_no (l : List UInt8) {f t : Int} (h : withinB f t l.length = false) : textS l f t = [] := by
  unfold textS
  rw [h]
  rfl

set_option maxHeartbeats 1000000 in
theorem text_any (v : Value) (l : List UInt8) (f t n : Int) (w : World) (hv : bytesArg w v l) :
    Calls Tryd.prog 15 #[v, .agg #[.int .i64 f, .int .i64 t, .int .i64 n]] w fun e w' => e = .returned (.string ⟨(textS l f t).toArray⟩) ∧ Below w.heap.size w w' := by
  obtain ⟨ao, cap, rfl, hc, hm, hs⟩ := hv
  rcases Bool.eq_false_or_eq_true (withinB f t l.length) with hw | hw
  · have hw' := of_decide_eq_true hw
    obtain ⟨F, rfl⟩ : ∃ F : Nat, f = F := ⟨f.toNat, by omega⟩
    obtain ⟨T, rfl⟩ : ∃ T : Nat, t = T := ⟨t.toNat, by omega⟩
    have hft : F ≤ T := by omega
    have htl : T ≤ l.length := by omega
    have HW := Lib.hid (within_any (F : Int) (T : Int) (l.length : Int))
    have HE := Lib.hid hw
    have HS : Hid (sliceAt w ao l) := hs
    clear hw hw' hs
    go_enter Tryd.func15, Tryd.ntmps15
    go_wp2_with fail
    with_reducible refine (HW.out _).mono ?_
    rintro e w1 ⟨rfl, hb1⟩
    rw [HE.out]
    have HB1 := Lib.hid hb1
    obtain ⟨c0, c1, _⟩ := box3_cells hb1
    clear hb1
    have HB : Hid (Below w.heap.size w w1) := ((Below.refl _ _).alloc (Nat.le_refl _) _).trans (HB1.out.mono (by simp))
    have HT : Hid (textS l (F : Int) (T : Int) = partS l F T) := textS_nat l hft htl
    by_cases hcF : cap = F
    · subst hcF
      have hcv := cut_string0 (W := w1) (ao := ao) hft htl hc
      go_wp2
      go_ret
      exact ⟨ret_str (by rw [HT.out]), HB.out⟩
    · have hcv := cut_string (sliceAt.below HS.out HB.out) hft htl hc hm
      go_wp2
      go_ret
      exact ⟨ret_str (by rw [HT.out]), HB.out⟩
  · have HW := Lib.hid (within_any f t (l.length : Int))
    have HE := Lib.hid hw
    have HT := Lib.hid (textS_no l hw)
    clear hw hs
    go_enter Tryd.func15, Tryd.ntmps15
    go_wp2_with fail
    with_reducible refine (HW.out _).mono ?_
    rintro e w1 ⟨rfl, hb1⟩
    rw [HE.out]
    have HB : Hid (Below w.heap.size w w1) := ((Below.refl _ _).alloc (Nat.le_refl _) _).trans (hb1.mono (by simp))
    obtain ⟨c0, c1, _⟩ := box3_cells hb1
    clear hb1
    go_wp2
    go_ret
    exact ⟨ret_str (by rw [HT.out]), HB.out⟩
end Go.Proofs.YtjgbcfecgbkefaaDoor
