/- The law TilesRaw. -/
import Derived.Test.YtfgppamhbchhcaaGreatDoorGb38
namespace Go.Proofs.YtfgppamhbchhcaaGreatDoor
open Go Go.RowKit

set_option maxRecDepth 100000 in
set_option maxHeartbeats 4000000 in
theorem tilesRaw_any (v : Value) (l : List UInt8) (n : Int) (w : World) (hv : bytesArg w v l) (_ : -9223372036854775808 ≤ n) (_ : n ≤ 9223372036854775807) (he : env w) :
    Calls Tryz.prog 7 #[v, .int .i64 n] w fun e w' => e = .returned (.bool true) ∧ Below w.heap.size w w' := by
  have HV := Lib.hid hv
  have HE := Lib.hid he
  have HAw := Lib.hid (awake13_any w he)
  obtain ⟨ao, cap, rfl, hc, hm, hs⟩ := hv
  have HS : Hid (sliceAt w ao l) := hs
  unfold maxLen at hm
  clear hs he
  by_cases hl : 1500 < l.length
  · go_enter Tryz.func7, Tryz.ntmps7
    go_wp2_with fail
    with_reducible refine (HAw.out).mono ?_
    rintro e w1 ⟨rfl, hb1⟩
    have HB1 := Lib.hid hb1
    clear hb1
    go_wp2
    go_ret
    exact ⟨rfl, HB1.out⟩
  · have HPa := Lib.hid (fun W h hE => parse13_any (.slice ao l.length cap) l W h (by omega) hE)
    have HQ := Lib.hid (tree_Q l)
    have HCt := Lib.hid (tree_count l)
    have HDp := Lib.hid (tree_deep l)
    obtain ⟨T, hT⟩ : ∃ T, T = treeS l := ⟨_, rfl⟩
    rw [← hT] at HPa HQ HCt HDp
    clear hT
    go_enter Tryz.func7, Tryz.ntmps7
    go_wp2_with fail
    with_reducible refine (HAw.out).mono ?_
    rintro e w1 ⟨rfl, hb1⟩
    have HB1 := Lib.hid hb1
    clear hb1
    go_wp2_with fail
    with_reducible refine (HPa.out _ ?h1 ?h2).mono ?_
    case h1 => exact HV.out.below HB1.out
    case h2 => exact HE.out.below HB1.out
    rintro e w5 ⟨kd, h2, b1, e1, e2, ka, kn, kc1, ca, cn, cc, rfl, ht, hb5⟩
    have HB5 := Lib.hid (HB1.out.trans (hb5.mono HB1.out.size))
    have hbX := below_new w5 (.cells #[.int .i64 kd, .int .i64 0, .int .i64 h2, .int .i64 b1, .int .i64 (l.length : Int), .slice ka kn kc1, .slice ca cn cc, .int .i64 e1, .int .i64 e2] 30)
    have HC := Lib.hid (check_any T l.length HQ.out.1 HCt.out HDp.out HQ.out.2.2.2 n kd h2 b1 e1 e2 ka ca kn kc1 cn cc _ (treeAt_below ht hbX))
    have HB6 := Lib.hid (HB5.out.trans (hbX.mono HB5.out.size))
    clear ht hb5 hbX HPa HQ HCt HDp
    by_cases hn : n = (l.length : Int)
    · subst hn
      rw [if_pos rfl] at HC
      have t1 : ((l.length : Int) == (l.length : Int)) = true := by simp
      go_wp2_with fail
      with_reducible refine (HC.out).mono ?_
      rintro e w7 ⟨rfl, hb7⟩
      have HB7 := Lib.hid (HB6.out.trans (hb7.mono HB6.out.size))
      clear hb7
      go_wp2_with fail
      go_ret
      exact ⟨rfl, HB7.out⟩
    · rw [if_neg hn] at HC
      have t1 : (n == (l.length : Int)) = false := beq_no hn
      go_wp2_with fail
      with_reducible refine (HC.out).mono ?_
      rintro e w7 ⟨rfl, hb7⟩
      have HB7 := Lib.hid (HB6.out.trans (hb7.mono HB6.out.size))
      clear hb7
      go_wp2_with fail
      go_ret
      exact ⟨rfl, HB7.out⟩
end Go.Proofs.YtfgppamhbchhcaaGreatDoor
