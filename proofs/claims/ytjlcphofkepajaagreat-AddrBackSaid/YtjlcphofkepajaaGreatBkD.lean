/- Statement AddrBack, for any texts. -/
import Derived.Test.YtjlcphofkepajaaGreatBkC
namespace Go.Proofs.YtjlcphofkepajaaGreat
open Go Go.RowKit

set_option maxRecDepth 100000 in
set_option maxHeartbeats 2000000 in
theorem back_long (v0 : Value) (l0 : List ByteArray) (v1 : Value) (l1 : List ByteArray) (hx : ByteArray) (g : Bool) (w : World) (h0 : strsArg w v0 l0) (h1 : strsArg w v1 l1) (hh : hx.size ≤ 9223372036854775807) (h : 8 < l0.length ∨ l1.length < l0.length ∨ 50 < hx.size) :
    Calls Tryz.prog 4 #[v0, v1, .string hx, .bool g] w fun e w' => e = .returned (.bool true) ∧ Below w.heap.size w w' := by
  have HAw := Lib.hid (awake_any10 w)
  obtain ⟨a0, cp0, rfl, hc0, hm0, _⟩ := h0.at
  obtain ⟨a1, cp1, rfl, hc1, hm1, _⟩ := h1.at
  unfold maxLen at hm0 hm1
  obtain ⟨n, hn⟩ : ∃ n, n = l0.length := ⟨_, rfl⟩
  obtain ⟨m, hm⟩ : ∃ m, m = l1.length := ⟨_, rfl⟩
  rw [← hn] at hc0 h ⊢
  rw [← hm] at hc1 h ⊢
  clear hn hm h0 h1
  by_cases c1 : 8 < n
  · have q1 : (8 : Int) < (n : Int) := by omega
    have u1 : decide ((8 : Int) < (n : Int)) = true := decide_eq_true q1
    have u2 : decide (8 < n) = true := decide_eq_true c1
    clear h c1
    go_enter Tryz.func4, Tryz.ntmps4
    go_wp2_with fail
    with_reducible refine HAw.out.mono ?_
    rintro e w1 ⟨rfl, hb1⟩
    have HB1 := Lib.hid hb1
    clear hb1
    go_wp2_with fail
    go_ret
    exact ⟨rfl, HB1.out⟩
  · have q1 : ¬ (8 : Int) < (n : Int) := by omega
    have u1 : decide ((8 : Int) < (n : Int)) = false := decide_eq_false q1
    have u2 : decide (8 < n) = false := decide_eq_false c1
    by_cases c2 : m < n
    · have q2 : (m : Int) < (n : Int) := by omega
      have u3 : decide ((m : Int) < (n : Int)) = true := decide_eq_true q2
      have u4 : decide (m < n) = true := decide_eq_true c2
      clear h c1 c2
      go_enter Tryz.func4, Tryz.ntmps4
      go_wp2_with fail
      with_reducible refine HAw.out.mono ?_
      rintro e w1 ⟨rfl, hb1⟩
      have HB1 := Lib.hid hb1
      clear hb1
      go_wp2_with fail
      go_ret
      exact ⟨rfl, HB1.out⟩
    · have q2 : ¬ (m : Int) < (n : Int) := by omega
      have u3 : decide ((m : Int) < (n : Int)) = false := decide_eq_false q2
      have u4 : decide (m < n) = false := decide_eq_false c2
      have c3 : 50 < hx.size := by omega
      have q3 : (50 : Int) < (hx.size : Int) := by omega
      have u5 : decide ((50 : Int) < (hx.size : Int)) = true := decide_eq_true q3
      have u6 : decide (50 < hx.size) = true := decide_eq_true c3
      clear h c1 c2 c3
      go_enter Tryz.func4, Tryz.ntmps4
      go_wp2_with fail
      with_reducible refine HAw.out.mono ?_
      rintro e w1 ⟨rfl, hb1⟩
      have HB1 := Lib.hid hb1
      clear hb1
      go_wp2_with fail
      go_ret
      exact ⟨rfl, HB1.out⟩
theorem addrBack_any (v0 : Value) (l0 : List ByteArray) (v1 : Value) (l1 : List ByteArray) (hx : ByteArray) (g : Bool) (w : World) (h0 : strsArg w v0 l0) (h1 : strsArg w v1 l1) (hh : hx.size ≤ 9223372036854775807) :
    Calls Tryz.prog 4 #[v0, v1, .string hx, .bool g] w fun e w' => e = .returned (.bool true) ∧ Below w.heap.size w w' := by
  by_cases h : 8 < l0.length ∨ l1.length < l0.length ∨ 50 < hx.size
  · exact back_long v0 l0 v1 l1 hx g w h0 h1 hh h
  · cases g with
    | true => exact back_true v0 l0 v1 l1 hx w h0 h1 (by omega) (by omega) (by omega)
    | false => exact back_false v0 l0 v1 l1 hx w h0 h1 (by omega) (by omega) (by omega)
end Go.Proofs.YtjlcphofkepajaaGreat
