/- The laws of layer 5 (lines): LinesOf. -/
import Derived.Test.YtdiomfoeiiigfaaLinesI
import Derived.Test.YtdiomfoeiiigfaaQB
import Derived.Deep.DeepCutAuto
import Derived.Deep.CutBlock
namespace Go.Proofs.Ytdiomfoeiiigfaa
open Go Go.RowKit

theorem scanL_within (l : List UInt8) : ∀ (k a i : Nat), a ≤ i → ∀ x ∈ scanL l k a i, x.f ≤ x.t ∧ x.t ≤ i + k
  | 0, a, i, h, x, hx => by
    rw [scanL] at hx
    split at hx
    · simp at hx
      subst hx
      exact ⟨h, Nat.le_refl _⟩
    · simp at hx
  | k + 1, a, i, h, x, hx => by
    rw [scanL] at hx
    split at hx
    · rcases List.mem_cons.1 hx with rfl | hx
      · have := endA_le l a i
        exact ⟨endA_ge l h, by simp only; omega⟩
      · have := scanL_within l k (i + 1) (i + 1) (Nat.le_refl _) x hx
        omega
    · have := scanL_within l k a (i + 1) (by omega) x hx
      omega
theorem linesZ_within {l : List UInt8} {f t : Int} {x : Ln} (h : x ∈ linesZ l f t) : x.f ≤ x.t ∧ x.t ≤ l.length := by
  unfold linesZ at h
  split at h
  · rename_i hw
    have hw' := of_decide_eq_true hw
    have := scanL_within l _ _ _ (Nat.le_refl _) x h
    omega
  · simp at h

set_option maxRecDepth 100000 in
set_option maxHeartbeats 4000000 in
theorem linesOf_any (v : Value) (l : List UInt8) (f t xf xt xn : Int) (w : World) (hv : bytesArg w v l) :
    Calls Try.prog 3 #[v, .agg #[.int .i64 f, .int .i64 t], .agg #[.int .i64 xf, .int .i64 xt, .int .i64 xn]] w fun e w' => e = .returned (.bool true) ∧ Below w.heap.size w w' := by
  have HV := Lib.hid hv
  obtain ⟨ao, cap, rfl, hc, hm, hs⟩ := hv
  have HS : Hid (sliceAt w ao l) := hs
  clear hs
  unfold maxLen at hm
  by_cases hl : 500 < l.length
  · go_enter Try.func3, Try.ntmps3
    go_wp2_with fail
    refine (awake_any _).mono ?_
    rintro e w1 ⟨rfl, hb1⟩
    have HB1 : Hid (Below w.heap.size w w1) := (((Below.refl _ _).alloc (Nat.le_refl _) _).alloc (by simp) _).trans (hb1.mono (by simp; omega))
    clear hb1
    go_wp2
    go_ret
    exact ⟨rfl, HB1.out⟩
  · have HOf := Lib.hid (fun W h => of_any (.slice ao l.length cap) l f t W h (by omega))
    have HCo := Lib.hid (fun W h => count_any (.slice ao l.length cap) l f t W h (by omega))
    obtain ⟨B, hB⟩ : ∃ B : ByteArray, B = ⟨l.toArray⟩ := ⟨_, rfl⟩
    have hBs : B.size = l.length := by rw [hB]; show (List.toArray l).size = l.length; simp
    have hBl : B.data.toList = l := by rw [hB]
    have HRO := Lib.hid (fun W => refOf_any B f t W (by omega))
    rw [hBl] at HRO
    have HWi := Lib.hid (fun W => within_any f t (l.length : Int) W)
    have HRW := Lib.hid (fun W => refWithin_any f t (l.length : Int) W)
    obtain ⟨ls, hls⟩ : ∃ ls, ls = linesZ l f t := ⟨_, rfl⟩
    have hlen : ls.length ≤ l.length := by
      rw [hls]
      unfold linesZ
      split
      · rename_i h
        have := of_decide_eq_true h
        have h2 := linesS_len l f.toNat t.toNat
        omega
      · exact Nat.zero_le _
    rw [← hls] at HOf HCo HRO
    have HLS := Lib.hid hls
    have hcv0 := fun W (h : bytesArg W (.slice ao l.length cap) l) => bytesArg_string h
    rw [← hB] at hcv0
    have HCV := Lib.hid hcv0
    clear hcv0 hls hB hBl
    go_enter Try.func3, Try.ntmps3
    go_wp2_with fail
    refine (awake_any _).mono ?_
    rintro e w1 ⟨rfl, hb1⟩
    have HB1 : Hid (Below w.heap.size w w1) := (((Below.refl _ _).alloc (Nat.le_refl _) _).alloc (by simp) _).trans (hb1.mono (by simp; omega))
    have hcs := box2_cells (W := w) (t := 24) (a := .int .i64 f) (b := .int .i64 t) (W' := w1) (((Below.refl _ _).alloc (Nat.le_refl _) (.cells #[.int .i64 xf, .int .i64 xt, .int .i64 xn] 26)).trans (hb1.mono (by simp)))
    have hcx := box3_cells hb1
    rw [World.size_alloc] at hcx
    have hsz : w.heap.size + 2 ≤ w1.heap.size := by have := hb1.size; simp at this; omega
    have hlt1 : w.heap.size < w1.heap.size := by omega
    have hlt1' : w.heap.size + 1 < w1.heap.size := by omega
    have HCS := Lib.hid hcs
    have HCX := Lib.hid hcx
    clear hb1 hcx
    obtain ⟨s0, s1⟩ := hcs
    go_wp2_with fail
    with_reducible refine (HOf.out _ (HV.out.below HB1.out)).mono ?_
    rintro e w2 ⟨u, rfl, hown, hb2⟩
    have HB12 := Lib.hid hb2
    have HB2 := Lib.hid (HB1.out.trans (hb2.mono HB1.out.size))
    replace s0 := (hb2.cell (p := ⟨w.heap.size, 0, none⟩) hlt1).trans s0
    replace s1 := (hb2.cell (p := ⟨w.heap.size, 1, none⟩) hlt1).trans s1
    have hcv := HCV.out _ (HV.out.below HB2.out)
    obtain ⟨a1, cap1, rfl, hc1, hm1, hcell1⟩ := (rowLn_owned hown).at
    have HR1 := Lib.hid (rowLn_owned hown)
    have HC1 := Lib.hid hcell1
    clear hown hb2 hcell1
    unfold maxLen at hm1
    go_wp2_with fail
    with_reducible refine (HRO.out _).mono ?_
    rintro e w3 ⟨u, rfl, hown, hb3⟩
    have HB13 := Lib.hid (HB12.out.trans (hb3.mono HB12.out.size))
    have HB3 := Lib.hid (HB2.out.trans (hb3.mono HB2.out.size))
    have HB23 := Lib.hid hb3
    obtain ⟨a2, cap2, rfl, hc2, hm2, hcell2⟩ := (rowLn_owned hown).at
    have HR2 := Lib.hid (rowLn_owned hown)
    have HC2 := Lib.hid hcell2
    have HR13 := Lib.hid (HR1.out.below hb3)
    clear hown hb3 hcell2 hcv s0 s1
    unfold maxLen at hm2
    go_upto_region 8 with fail
    go_cut [62] (fun v wx => v = .bool false ∧ Hid (Below w3.heap.size w3 wx))
    case first =>
      have hz0 : ∀ z : BW w3, z.v.cell? ⟨w.heap.size, 0, none⟩ = some (.int .i64 f) := BW.cell ((HB13.out.cell (p := ⟨w.heap.size, 0, none⟩) hlt1).trans HCS.out.1)
      have hz1 : ∀ z : BW w3, z.v.cell? ⟨w.heap.size, 1, none⟩ = some (.int .i64 t) := BW.cell ((HB13.out.cell (p := ⟨w.heap.size, 1, none⟩) hlt1).trans HCS.out.2)
      refine wp_region_below (by kernel_rfl) (by kernel_rfl) ?_
      repeat (go_big_quiet_step (first
        | (go_at_call 10; exact BW.calls (HCo.out _ ((HV.out.below HB3.out).below (BW.h _))))
        | (go_at_call 11; exact BW.calls (HWi.out _))
        | (go_at_call 12; exact BW.calls_same (HRW.out _))
        | (go_at_call 13; exact BW.calls (empty_any _ ls _ (HR13.out.below (BW.h _))))
        | (go_at_call 14; exact BW.calls (refEmpty_any _ ls _ (HR2.out.below (BW.h _))))))
      refine wpQuiet_nil ?_
      rintro _ ⟨z, rfl⟩
      have HZ := Lib.hid z.h
      go_wp2_with fail
      go_meet
      exact ⟨by simp, HZ⟩
    case rest =>
      obtain ⟨rfl, HB0⟩ := hcut
      go_wp2_with fail
      go_loopg [10] ls.length (fun q iv wr => ∃ i : Nat, i ≤ ls.length ∧ q = ls.length - i ∧ iv = .int .i64 i ∧ Hid (Below w3.heap.size w3 wr))
      case atStart => exact ⟨0, Nat.zero_le _, rfl, rfl, HB0⟩
      case round =>
        obtain ⟨i, hi, rfl, rfl, HBr⟩ := hrel
        by_cases hlt : i < ls.length
        · obtain ⟨g1, rfl, hg1, c0, c1, c2⟩ := HC1.out i hlt
          obtain ⟨g2, rfl, hg2, d0, d1, d2⟩ := HC2.out i hlt
          have hin := linesZ_within (l := l) (f := f) (t := t) (x := ls[i]) (by rw [← HLS.out]; exact List.getElem_mem hlt)
          obtain ⟨x, hx⟩ : ∃ x, x = ls[i] := ⟨_, rfl⟩
          rw [← hx] at c0 c1 c2 d0 d1 d2 hin
          obtain ⟨F, hF⟩ : ∃ F, F = x.f := ⟨_, rfl⟩
          obtain ⟨T, hT⟩ : ∃ T, T = x.t := ⟨_, rfl⟩
          obtain ⟨N, hN⟩ : ∃ N, N = x.n := ⟨_, rfl⟩
          rw [← hF] at c0 d0 hin
          rw [← hT] at c1 d1 hin
          rw [← hN] at c2 d2
          obtain ⟨hFT, hTl⟩ := hin
          have HB2r : Hid (Below w2.heap.size w2 wr) := HB23.out.trans (HBr.out.mono HB23.out.size)
          replace c0 := BW.cell ((HB2r.out.cell (p := ⟨g1, i * 3, none⟩) hg1).trans c0)
          replace c1 := BW.cell ((HB2r.out.cell (p := ⟨g1, i * 3 + 1, none⟩) hg1).trans c1)
          replace c2 := BW.cell ((HB2r.out.cell (p := ⟨g1, i * 3 + 2, none⟩) hg1).trans c2)
          replace d0 := BW.cell ((HBr.out.cell (p := ⟨g2, i * 3, none⟩) hg2).trans d0)
          replace d1 := BW.cell ((HBr.out.cell (p := ⟨g2, i * 3 + 1, none⟩) hg2).trans d1)
          replace d2 := BW.cell ((HBr.out.cell (p := ⟨g2, i * 3 + 2, none⟩) hg2).trans d2)
          clear hx hF hT hN
          have HBwr : Hid (Below w.heap.size w wr) := HB3.out.trans (HBr.out.mono HB3.out.size)
          have hT0 := fun (z : BW wr) => text_any (.slice ao l.length cap) l (F : Int) (T : Int) (N : Int) z.v ((HV.out.below HBwr.out).below z.h)
          rw [textS_nat l hFT hTl] at hT0
          have hsz : ∀ z : BW wr, sliceAt z.v ao l := fun z => (HS.out.below HBwr.out).below z.h
          obtain ⟨O, hO⟩ : ∃ O : ByteArray, O = ⟨(partS l F T).toArray⟩ := ⟨_, rfl⟩
          rw [← hO] at hT0
          have hOO : (O.toList != O.toList) = false := by simp
          have HT := Lib.hid hT0
          have HSZ := Lib.hid hsz
          clear hT0 hsz
          by_cases hcF : cap = F
          · subst hcF
            have hcv := fun z : BW wr => cut_string0 (W := z.v) (ao := ao) hFT hTl hc
            rw [← hO] at hcv
            clear hO
            go_wp2_with fail
            refine wp_region_below (by kernel_rfl) (by kernel_rfl) ?_
            repeat (go_big_quiet_step ((go_at_call 15; exact BW.calls (HT.out _))))
            refine wpQuiet_nil ?_
            rintro _ ⟨z, rfl⟩
            have HZ : Hid (Below w3.heap.size w3 z.v) := HBr.out.trans (z.h.mono HBr.out.size)
            go_wp2_with fail
            go_roundg (ls.length - (i + 1))
            case measure => omega
            case rel => exact ⟨i + 1, by omega, rfl, by go_num, HZ⟩
          · have hcv := fun z : BW wr => cut_string (HSZ.out z) hFT hTl hc (by unfold maxLen; omega)
            rw [← hO] at hcv
            clear hO
            go_wp2_with fail
            refine wp_region_below (by kernel_rfl) (by kernel_rfl) ?_
            repeat (go_big_quiet_step ((go_at_call 15; exact BW.calls (HT.out _))))
            refine wpQuiet_nil ?_
            rintro _ ⟨z, rfl⟩
            have HZ : Hid (Below w3.heap.size w3 z.v) := HBr.out.trans (z.h.mono HBr.out.size)
            go_wp2_with fail
            go_roundg (ls.length - (i + 1))
            case measure => omega
            case rel => exact ⟨i + 1, by omega, rfl, by go_num, HZ⟩
        · obtain rfl : i = ls.length := by omega
          have HBwr : Hid (Below w.heap.size w wr) := HB3.out.trans (HBr.out.mono HB3.out.size)
          have HB1r := HB13.out.trans (HBr.out.mono HB13.out.size)
          have x0 := (HB1r.cell (p := ⟨w.heap.size + 1, 0, none⟩) hlt1').trans HCX.out.1
          have x1 := (HB1r.cell (p := ⟨w.heap.size + 1, 1, none⟩) hlt1').trans HCX.out.2.1
          have x2 := (HB1r.cell (p := ⟨w.heap.size + 1, 2, none⟩) hlt1').trans HCX.out.2.2
          clear HB1r
          have HXW := Lib.hid (refWithin_any xf xt (l.length : Int) wr)
          have HXT := Lib.hid (text_any (.slice ao l.length cap) l xf xt xn wr (HV.out.below HBwr.out))
          rcases Bool.eq_false_or_eq_true (withinB xf xt l.length) with hw | hw
          · have hw' := of_decide_eq_true hw
            obtain ⟨F, rfl⟩ : ∃ F : Nat, xf = F := ⟨xf.toNat, by omega⟩
            obtain ⟨T, rfl⟩ : ∃ T : Nat, xt = T := ⟨xt.toNat, by omega⟩
            have hFT : F ≤ T := by omega
            have hTl : T ≤ l.length := by omega
            rw [hw] at HXW
            rw [textS_nat l hFT hTl] at HXT
            clear hw hw'
            obtain ⟨O, hO⟩ : ∃ O : ByteArray, O = ⟨(partS l F T).toArray⟩ := ⟨_, rfl⟩
            rw [← hO] at HXT
            by_cases hcF : cap = F
            · subst hcF
              have hcv := cut_string0 (W := wr) (ao := ao) hFT hTl hc
              rw [← hO] at hcv
              clear hO
              go_wp2_with fail
              with_reducible refine HXW.out.mono ?_
              rintro e w4 ⟨rfl, rfl⟩
              go_wp2_with fail
              with_reducible refine HXT.out.mono ?_
              rintro e w5 ⟨rfl, hb5⟩
              have HB5 := Lib.hid (HBwr.out.trans (hb5.mono HBwr.out.size))
              clear hb5
              go_wp2
              go_ret
              exact ⟨ret_bool (by simp), HB5.out⟩
            · have hcv := cut_string (sliceAt.below HS.out HBwr.out) hFT hTl hc (by unfold maxLen; omega)
              rw [← hO] at hcv
              clear hO
              go_wp2_with fail
              with_reducible refine HXW.out.mono ?_
              rintro e w4 ⟨rfl, rfl⟩
              go_wp2_with fail
              with_reducible refine HXT.out.mono ?_
              rintro e w5 ⟨rfl, hb5⟩
              have HB5 := Lib.hid (HBwr.out.trans (hb5.mono HBwr.out.size))
              clear hb5
              go_wp2
              go_ret
              exact ⟨ret_bool (by simp), HB5.out⟩
          · rw [hw] at HXW
            rw [textS_no l hw] at HXT
            clear hw
            go_wp2_with fail
            with_reducible refine HXW.out.mono ?_
            rintro e w4 ⟨rfl, rfl⟩
            go_wp2_with fail
            with_reducible refine HXT.out.mono ?_
            rintro e w5 ⟨rfl, hb5⟩
            have HB5 := Lib.hid (HBwr.out.trans (hb5.mono HBwr.out.size))
            clear hb5
            go_wp2
            go_ret
            exact ⟨ret_bool (by simp), HB5.out⟩
end Go.Proofs.Ytdiomfoeiiigfaa
