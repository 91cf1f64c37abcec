/- Statement AddrParts, for any texts. -/
import Derived.Test.YtjlcphofkepajaaAdQ
import Derived.Test.YtjlcphofkepajaaAdP
namespace Go.Proofs.Ytjlcphofkepajaa
open Go Go.RowKit

def opensB (c : UInt8) : Bool := c == 40 || (c == 34 || c == 91)
theorem opens_step (o : Bool) (c : UInt8) (L : List UInt8) (h : L.any opensB = o) : (L ++ [c]).any opensB = (o || opensB c) := by
  rw [List.any_append, h]
  simp
theorem cat_comma (a b : ByteArray) : (a ++ ⟨#[44]⟩ ++ b).data.toList = a.data.toList ++ 44 :: b.data.toList := by
  rw [cat_toList, cat_toList, List.append_assoc]
  rfl
theorem cat_within (a : ByteArray) : ((⟨#[32, 40, 99, 40, 100, 41, 41, 32]⟩ : ByteArray) ++ a ++ ⟨#[9, 40, 101, 41]⟩).data.toList = [32, 40, 99, 40, 100, 41, 41, 32] ++ a.data.toList ++ [9, 40, 101, 41] := by
  rw [cat_toList, cat_toList]
set_option maxRecDepth 100000 in
set_option maxHeartbeats 4000000 in
theorem parts_none (a b : ByteArray) (w : World) (ha : a.size ≤ 150) (hb : b.size ≤ 150) (h : listA a.data.toList = none ∨ listA b.data.toList = none) :
    Calls Try.prog 3 #[.string a, .string b] w fun e w' => e = .returned (.bool true) ∧ Below w.heap.size w w' := by
  have HAw := Lib.hid (awake_any10 w)
  have h1 : ¬ (150 : Int) < (a.size : Int) := by omega
  have h2 : ¬ (150 : Int) < (b.size : Int) := by omega
  have HC := Lib.hid (fun W => list_any (a ++ ⟨#[44]⟩ ++ b) W (by simp only [ByteArray.size_append]; show a.size + 1 + b.size ≤ _; omega))
  rcases hla : listA a.data.toList with _ | la
  · have H1 := Lib.hid (fun W => list_none a W (by omega) hla)
    have H2 := Lib.hid (fun W => list_any b W (by omega))
    clear h hla
    go_enter Try.func3, Try.ntmps3
    go_wp2_with fail
    with_reducible refine HAw.out.mono ?_
    rintro e w1 ⟨rfl, hb1⟩
    have HB1 := Lib.hid hb1
    clear hb1
    go_wp2_with fail
    with_reducible refine (H1.out _).mono ?_
    rintro e w2 ⟨rfl, hb2⟩
    have HB2 := Lib.hid (HB1.out.trans (hb2.mono HB1.out.size))
    clear hb2
    go_wp2_with fail
    with_reducible refine (H2.out _).mono ?_
    rintro e w3 ⟨v3, q3, rfl, _, hb3⟩
    have HB3 := Lib.hid (HB2.out.trans (hb3.mono HB2.out.size))
    clear hb3
    go_wp2_with fail
    with_reducible refine (HC.out _).mono ?_
    rintro e w4 ⟨v4, q4, rfl, _, hb4⟩
    have HB4 := Lib.hid (HB3.out.trans (hb4.mono HB3.out.size))
    clear hb4
    go_wp2_with fail
    go_ret
    exact ⟨rfl, HB4.out⟩
  · have hlb : listA b.data.toList = none := by
      rcases h with h | h
      · rw [hla] at h; cases h
      · exact h
    have H1 := Lib.hid (fun W => list_some a la W (by omega) hla)
    have H2 := Lib.hid (fun W => list_none b W (by omega) hlb)
    clear h hla hlb
    go_enter Try.func3, Try.ntmps3
    go_wp2_with fail
    with_reducible refine HAw.out.mono ?_
    rintro e w1 ⟨rfl, hb1⟩
    have HB1 := Lib.hid hb1
    clear hb1
    go_wp2_with fail
    with_reducible refine (H1.out _).mono ?_
    rintro e w2 ⟨v2, rfl, hr2, hb2⟩
    have HB2 := Lib.hid (HB1.out.trans (hb2.mono HB1.out.size))
    obtain ⟨ao, cap, rfl, _, _, _⟩ := hr2
    obtain ⟨N, hN⟩ : ∃ N, N = la.length := ⟨_, rfl⟩
    rw [← hN]
    clear hb2 hN
    go_wp2_with fail
    with_reducible refine (H2.out _).mono ?_
    rintro e w3 ⟨rfl, hb3⟩
    have HB3 := Lib.hid (HB2.out.trans (hb3.mono HB2.out.size))
    clear hb3
    go_wp2_with fail
    with_reducible refine (HC.out _).mono ?_
    rintro e w4 ⟨v4, q4, rfl, _, hb4⟩
    have HB4 := Lib.hid (HB3.out.trans (hb4.mono HB3.out.size))
    clear hb4
    by_cases hN0 : N = 0
    · have bN : ((N : Int) == 0) = true := beq_yes (by omega)
      clear hN0
      go_wp2_with fail
      go_ret
      exact ⟨rfl, HB4.out⟩
    · have bN : ((N : Int) == 0) = false := beq_no (by omega)
      go_wp2_with fail
      go_ret
      exact ⟨rfl, HB4.out⟩
end Go.Proofs.Ytjlcphofkepajaa
