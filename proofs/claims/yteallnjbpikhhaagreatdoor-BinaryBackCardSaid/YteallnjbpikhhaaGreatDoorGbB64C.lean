/- Contracts of package b64: lines, Encode. -/
import Derived.Test.YteallnjbpikhhaaGreatDoorGbB64B
import Derived.WalkLawsBesides
import Derived.Outline
namespace Go.Proofs.YteallnjbpikhhaaGreatDoor
open Go Go.RowKit

theorem cut_take {wd m : Nat} {r : List UInt8} (hw : 0 < wd) (hr : r ≠ []) (hm : m = wd ∨ (m = r.length ∧ r.length ≤ wd)) : cutL wd r = r.take m ++ ([13, 10] ++ cutL wd (r.drop m)) := by
  rw [cutL_step hw hr]
  rcases hm with rfl | ⟨rfl, h⟩
  · rfl
  · rw [List.take_of_length_le h, List.drop_of_length_le h, List.take_length, List.drop_length]
set_option maxRecDepth 100000 in
theorem inLines_any (v : Value) (l : List UInt8) (wd : Nat) (w : World) (hv : bytesArg w v l) (hl : l.length ≤ 1000000) (h1 : 1 ≤ wd) (hw : wd ≤ 9223372036854775807) :
    Calls Tryz.prog 14 #[v, .int .i64 wd] w fun e w' => ∃ u, e = .returned u ∧ w'.ownsRow w.heap.size 5 1 u (cutL wd l).length ((cutL wd l).map byteV) ∧ Below w.heap.size w w' := by
  obtain ⟨i0, hi, hz0, hz1, hz2⟩ := info_parts Tryz.infoB
  obtain ⟨ao, cap, rfl, hc, hm, hs⟩ := hv
  unfold maxLen at hm
  have HS := Lib.hid hs
  clear hs
  go_enter Tryz.func14, Tryz.ntmps14
  go_wp2
  go_loopg [0, 5] l.length (fun g t o wr => ∃ (r out : List UInt8) (ar : Option Addr) (cr : Nat), r.length ≤ l.length ∧ g = r.length ∧ t = .slice ar r.length cr ∧ r.length ≤ cr ∧ cr ≤ 9223372036854775807 ∧ Hid (sliceAt w ar r) ∧ out.length + 3 * r.length ≤ 3 * l.length ∧ wr.ownsRow w.heap.size 5 1 o out.length (out.map byteV) ∧ Hid (out ++ cutL wd r = cutL wd l) ∧ Hid (Below w.heap.size w wr))
  case atStart => exact ⟨l, [], ao, cap, by omega, rfl, rfl, hc, by omega, HS, by simp, World.ownsRow_nil _ _ _ _, rfl, Below.refl _ _⟩
  case round =>
    obtain ⟨r, out, ar, cr, hrl, rfl, rfl, hrc, hcr, HR, hout, hown, HE, HB⟩ := hrel
    have HO := Lib.hid hown
    clear hown
    by_cases h0 : 0 < r.length
    · rcases HR.out with e | ⟨b, off, rfl, hb, hcell⟩
      · rw [e] at h0
        simp at h0
      clear hcell
      by_cases hq : wd ≤ r.length
      · by_cases hcap : cr = wd
        · subst hcap
          go_wp2_with (at_builtin; refine wpList_append_own _ rfl _ _ 22 rfl w.heap.size 5 i0 (.int .u8 0) 1 1 Tryz.underlying22 hi hz0 hz1 hz2 rfl (by decide) _ _ _ rfl HO.out ⟨b, off, none⟩ cr cr ((r.take cr).map byteV) rfl (by simp; omega) ?c1 ?c2 ?c3 ?c4 ?c5 ?_)
          case c1 => exact (((HR.out.below HB.out).take cr).news)
          case c2 => exact news_one _
          case c3 => unfold maxLen; omega
          case c4 => omega
          case c5 => exact HB.out.size
          intro v1 w1 hown1 hgrow1 _
          have HO1 := Lib.hid hown1
          have HB1 : Hid (Below w.heap.size w w1) := HB.out.grown hgrow1 HB.out.size (fun q hq => (HO.out.lt q hq).1)
          clear hown1 hgrow1
          go_wp2_with (at_builtin; refine wpList_append_own _ rfl _ _ 22 rfl w.heap.size 5 i0 (.int .u8 0) 1 1 Tryz.underlying22 hi hz0 hz1 hz2 rfl (by decide) _ _ _ rfl (HO1.out.alloc _) ⟨w1.heap.size, 0, none⟩ 2 2 [byteV 13, byteV 10] rfl rfl ?c1 ?c2 ?c3 ?c4 ?c5 ?_)
          case c1 => exact cells_two_new w1 _ _ _
          case c2 => exact news_one [13, 10]
          case c3 => unfold maxLen; omega
          case c4 => omega
          case c5 => simp; have := HB1.out.size; omega
          intro v2 w2 hown2 hgrow2 _
          have HO2 := Lib.hid hown2
          have HB2 : Hid (Below w.heap.size w w2) := (HB1.out.alloc (by have := HB1.out.size; omega) _).grown hgrow2 (by have := HB1.out.size; simp; omega) (fun q hq => (HO1.out.lt q hq).1)
          clear hown2 hgrow2
          go_wp2
          go_roundg (r.length - cr)
          case measure => omega
          case rel =>
              refine ⟨r.drop cr, (out ++ r.take cr) ++ [13, 10], some ⟨b, off, none⟩, 0, by simp; omega, by simp, by (simp; omega), by simp; omega, by omega, ?_, by simp; omega, ?_, ?_, HB2⟩
              · exact .inl (List.drop_eq_nil_of_le (by omega))
              · exact own_cast HO2.out (by simp; omega) (by simp)
              · unfold Hid
                rw [← HE.out, cut_take (by omega) (ne_nil_of_pos h0) (.inl rfl), List.append_assoc, List.append_assoc]
        · 
          go_wp2_with (at_builtin; refine wpList_append_own _ rfl _ _ 22 rfl w.heap.size 5 i0 (.int .u8 0) 1 1 Tryz.underlying22 hi hz0 hz1 hz2 rfl (by decide) _ _ _ rfl HO.out ⟨b, off, none⟩ wd cr ((r.take wd).map byteV) rfl (by simp; omega) ?c1 ?c2 ?c3 ?c4 ?c5 ?_)
          case c1 => exact (((HR.out.below HB.out).take wd).news)
          case c2 => exact news_one _
          case c3 => unfold maxLen; omega
          case c4 => omega
          case c5 => exact HB.out.size
          intro v1 w1 hown1 hgrow1 _
          have HO1 := Lib.hid hown1
          have HB1 : Hid (Below w.heap.size w w1) := HB.out.grown hgrow1 HB.out.size (fun q hq => (HO.out.lt q hq).1)
          clear hown1 hgrow1
          go_wp2_with (at_builtin; refine wpList_append_own _ rfl _ _ 22 rfl w.heap.size 5 i0 (.int .u8 0) 1 1 Tryz.underlying22 hi hz0 hz1 hz2 rfl (by decide) _ _ _ rfl (HO1.out.alloc _) ⟨w1.heap.size, 0, none⟩ 2 2 [byteV 13, byteV 10] rfl rfl ?c1 ?c2 ?c3 ?c4 ?c5 ?_)
          case c1 => exact cells_two_new w1 _ _ _
          case c2 => exact news_one [13, 10]
          case c3 => unfold maxLen; omega
          case c4 => omega
          case c5 => simp; have := HB1.out.size; omega
          intro v2 w2 hown2 hgrow2 _
          have HO2 := Lib.hid hown2
          have HB2 : Hid (Below w.heap.size w w2) := (HB1.out.alloc (by have := HB1.out.size; omega) _).grown hgrow2 (by have := HB1.out.size; simp; omega) (fun q hq => (HO1.out.lt q hq).1)
          clear hown2 hgrow2
          go_wp2
          go_roundg (r.length - wd)
          case measure => omega
          case rel =>
              refine ⟨r.drop wd, (out ++ r.take wd) ++ [13, 10], some ⟨b, off + wd, none⟩, cr - wd, by simp; omega, by simp, by simp, by simp; omega, by omega, ?_, by simp; omega, ?_, ?_, HB2⟩
              · exact HR.out.drop
              · exact own_cast HO2.out (by simp; omega) (by simp)
              · unfold Hid
                rw [← HE.out, cut_take (by omega) (ne_nil_of_pos h0) (.inl rfl), List.append_assoc, List.append_assoc]
      · have hq' : r.length < wd := by omega
        clear hq
        go_wp2_with (at_builtin; refine wpList_append_own _ rfl _ _ 22 rfl w.heap.size 5 i0 (.int .u8 0) 1 1 Tryz.underlying22 hi hz0 hz1 hz2 rfl (by decide) _ _ _ rfl HO.out ⟨b, off, none⟩ r.length cr ((r.take r.length).map byteV) rfl (by simp) ?c1 ?c2 ?c3 ?c4 ?c5 ?_)
        case c1 => exact (((HR.out.below HB.out).take r.length).news)
        case c2 => exact news_one _
        case c3 => unfold maxLen; omega
        case c4 => omega
        case c5 => exact HB.out.size
        intro v1 w1 hown1 hgrow1 _
        have HO1 := Lib.hid hown1
        have HB1 : Hid (Below w.heap.size w w1) := HB.out.grown hgrow1 HB.out.size (fun q hq => (HO.out.lt q hq).1)
        clear hown1 hgrow1
        go_wp2_with (at_builtin; refine wpList_append_own _ rfl _ _ 22 rfl w.heap.size 5 i0 (.int .u8 0) 1 1 Tryz.underlying22 hi hz0 hz1 hz2 rfl (by decide) _ _ _ rfl (HO1.out.alloc _) ⟨w1.heap.size, 0, none⟩ 2 2 [byteV 13, byteV 10] rfl rfl ?c1 ?c2 ?c3 ?c4 ?c5 ?_)
        case c1 => exact cells_two_new w1 _ _ _
        case c2 => exact news_one [13, 10]
        case c3 => unfold maxLen; omega
        case c4 => omega
        case c5 => simp; have := HB1.out.size; omega
        intro v2 w2 hown2 hgrow2 _
        have HO2 := Lib.hid hown2
        have HB2 : Hid (Below w.heap.size w w2) := (HB1.out.alloc (by have := HB1.out.size; omega) _).grown hgrow2 (by have := HB1.out.size; simp; omega) (fun q hq => (HO1.out.lt q hq).1)
        clear hown2 hgrow2
        go_wp2
        all_goals
          go_roundg (r.length - r.length)
          case measure => omega
          case rel =>
            refine ⟨r.drop r.length, (out ++ r.take r.length) ++ [13, 10], _, _, by simp, by simp, by rw [List.drop_length]; first | rfl | (simp; rfl), by simp, ?_, by exact .inl (by simp), by simp; omega, ?_, ?_, HB2⟩
            · first | omega | simp
            · exact own_cast HO2.out (by simp; omega) (by simp)
            · unfold Hid
              rw [← HE.out, cut_take (m := r.length) (by omega) (ne_nil_of_pos h0) (.inr ⟨rfl, by omega⟩), List.append_assoc, List.append_assoc]
    · go_wp2
      go_ret
      refine ⟨_, rfl, ?_, HB.out⟩
      have := HO.out
      have e := HE.out
      have hr0 : r = [] := List.eq_nil_of_length_eq_zero (by omega)
      rw [hr0, cutL_nil, List.append_nil] at e
      rw [← e]
      exact this
end Go.Proofs.YteallnjbpikhhaaGreatDoor
