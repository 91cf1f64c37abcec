/- Statement AddrParts, for any texts. -/
import Derived.Test.YtjlcphofkepajaaAdU
namespace Go.Proofs.Ytjlcphofkepajaa
open Go Go.RowKit

set_option maxRecDepth 100000 in
set_option maxHeartbeats 2000000 in
theorem parts_long (a b : ByteArray) (w : World) (h : 150 < a.size ∨ 150 < b.size) (ha : a.size ≤ 9223372036854775807) (hb : b.size ≤ 9223372036854775807) :
    Calls Try.prog 3 #[.string a, .string b] w fun e w' => e = .returned (.bool true) ∧ Below w.heap.size w w' := by
  have HAw := Lib.hid (awake_any10 w)
  by_cases h1 : 150 < a.size
  · have q1 : decide ((150 : Int) < (a.size : Int)) = true := decide_eq_true (by omega)
    have q2 : (150 : Int) < (a.size : Int) := by omega
    clear h h1
    go_enter Try.func3, Try.ntmps3
    go_wp2_with fail
    with_reducible refine HAw.out.mono ?_
    rintro e w1 ⟨rfl, hb1⟩
    have HB1 := Lib.hid hb1
    clear hb1
    go_wp2_with fail
    go_ret
    exact ⟨rfl, HB1.out⟩
  · have h2 : 150 < b.size := by omega
    have q1 : decide ((150 : Int) < (a.size : Int)) = false := decide_eq_false (by omega)
    have q2 : ¬ (150 : Int) < (a.size : Int) := by omega
    have q3 : decide ((150 : Int) < (b.size : Int)) = true := decide_eq_true (by omega)
    have q4 : (150 : Int) < (b.size : Int) := by omega
    clear h h1 h2
    go_enter Try.func3, Try.ntmps3
    go_wp2_with fail
    with_reducible refine HAw.out.mono ?_
    rintro e w1 ⟨rfl, hb1⟩
    have HB1 := Lib.hid hb1
    clear hb1
    go_wp2_with fail
    go_ret
    exact ⟨rfl, HB1.out⟩
theorem addrParts_any (a b : ByteArray) (w : World) (ha : a.size ≤ 9223372036854775807) (hb : b.size ≤ 9223372036854775807) :
    Calls Try.prog 3 #[.string a, .string b] w fun e w' => e = .returned (.bool true) ∧ Below w.heap.size w w' := by
  by_cases h : 150 < a.size ∨ 150 < b.size
  · exact parts_long a b w h ha hb
  · have h1 : a.size ≤ 150 := by omega
    have h2 : b.size ≤ 150 := by omega
    cases hla : listA a.data.toList with
    | none => exact parts_none a b w h1 h2 (.inl hla)
    | some la =>
      cases hlb : listA b.data.toList with
      | none => exact parts_none a b w h1 h2 (.inr hlb)
      | some lb =>
        rcases Bool.eq_false_or_eq_true (a.data.toList.any opensB) with hO | hO
        · exact parts_open a b la lb w h1 h2 hla hlb hO
        · exact parts_shut a b la lb w h1 h2 hla hlb hO
end Go.Proofs.Ytjlcphofkepajaa
