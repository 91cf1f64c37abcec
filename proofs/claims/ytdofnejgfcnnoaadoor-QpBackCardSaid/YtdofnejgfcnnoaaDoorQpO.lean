/- The laws of layer 3 (quoted-printable): QpBack. -/
import Derived.Test.YtdofnejgfcnnoaaDoorQpL
namespace Go.Proofs.YtdofnejgfcnnoaaDoor
open Go Go.RowKit

theorem refEncode_below (s : ByteArray) (w : World) (hs : s.size ≤ 65536) :
    Calls Tryd.prog 11 #[.string s] w fun e w' => ∃ T : ByteArray, e = .returned (.string T) ∧ T.data.toList = encQ s.data.toList ∧ Below w.heap.size w w' :=
  (refEncode_any s w hs).mono fun _ _ ⟨T, he, hT, n, hw⟩ => ⟨T, he, hT, by rw [hw]; exact below_drewN' n⟩

set_option maxRecDepth 100000 in
set_option maxHeartbeats 8000000 in
theorem qpBack_any (v : Value) (l : List UInt8) (cv : Value) (cl : List UInt8) (w : World) (hv : bytesArg w v l) (hcv : bytesArg w cv cl) :
    Calls Tryd.prog 4 #[v, cv] w fun e w' => e = .returned (.bool true) ∧ Below w.heap.size w w' := by
  obtain ⟨i0, hi0, hz0, hz1, hz2⟩ := info_parts Tryd.infoB
  obtain ⟨ao, cap, rfl, hc, hm, hs⟩ := hv
  obtain ⟨co, ccap, rfl, hcc, hcm, hcs⟩ := hcv
  have HS : Hid (bytesArg w (.slice ao l.length cap) l) := ⟨ao, cap, rfl, hc, hm, hs⟩
  have HC : Hid (sliceAt w co cl) := hcs
  clear hs hcs
  have hl : 200 < l.length ∨ (l.length ≤ 200 ∧ 300 < cl.length) ∨ (l.length ≤ 200 ∧ cl.length ≤ 300) := by omega
  rcases hl with hl | ⟨hl, hl2⟩ | ⟨hl, hl2⟩
  iterate 2
    · go_enter Tryd.func4, Tryd.ntmps4
      go_wp2_with fail
      refine (awake_any _).mono ?_
      rintro e w1 ⟨rfl, hb1⟩
      have HB1 := Lib.hid hb1; clear hb1
      go_wp2
      go_ret
      exact ⟨rfl, HB1.out⟩
  · obtain ⟨E, hE⟩ : ∃ E, E = encQ l := ⟨_, rfl⟩
    have hEl : E.length ≤ 600 := by
      have := encQ_len l
      rw [hE]
      omega
    have HE := Lib.hid hE
    go_enter Tryd.func4, Tryd.ntmps4
    go_wp2_with fail
    refine (awake_any _).mono ?_
    rintro e w1 ⟨rfl, hb1⟩
    have HB1 := Lib.hid hb1; clear hb1
    go_wp2_with fail
    refine (encode_any _ l _ (HS.out.below HB1.out) (by omega)).mono ?_
    rintro e wa ⟨ua, rfl, howna, hba⟩
    rw [← hE] at howna
    have HBa := Lib.hid (HB1.out.trans (hba.mono HB1.out.size))
    have HSa := Lib.hid (HS.out.below HBa.out)
    have HOa := Lib.hid howna
    clear howna hba hE
    obtain ⟨B, hB⟩ : ∃ B : ByteArray, B = ⟨l.toArray⟩ := ⟨_, rfl⟩
    have hBl : B.size ≤ 200 := by rw [hB]; show (List.toArray l).size ≤ 200; simpa using hl
    have HBL : Hid (B.data.toList = l) := by unfold Hid; rw [hB]
    obtain ⟨G, hG⟩ : ∃ G : ByteArray, G = ⟨E.toArray⟩ := ⟨_, rfl⟩
    have HGL : Hid (G.data.toList = E) := by unfold Hid; rw [hG]
    have HV := Lib.hid (fun W' (hb' : Below wa.heap.size wa W') => bytesArg_string (HSa.out.below hb'))
    have HU := Lib.hid (fun W' (hb' : Below wa.heap.size wa W') => run_string_of_owned (P := Tryd.prog) Tryd.underlying22 Tryd.underlying5 Tryd.underlying9 (ownsRow_below HOa.out hb'))
    rw [← hB] at HV
    rw [← hG] at HU
    clear hB hG
    have hB3 : Below wa.heap.size wa wa.drew := (Below.refl _ _).drew
    go_upto_region 7 with fail
    go_cut [30] (fun v wx => v = .bool false ∧ Hid (Below wa.heap.size wa wx))
    case first =>
      go_region_held (fun W' => (convert 22 9 ua).run Tryd.prog W' = .ok (.string G) W' ∧ (convert 22 9 (.slice ao l.length cap)).run Tryd.prog W' = .ok (.string B) W') (exact ⟨HU.out _ (by assumption), HV.out _ (by assumption)⟩)
        ((go_at_call 11; refine (refEncode_below B _ (by omega)).mono ?_; rintro e w5 ⟨T, rfl, hT, hb5⟩; have hB5 : Below wa.heap.size wa w5 := hB3.trans (hb5.mono hB3.size)))
      all_goals
        have htt : (G.toList == T.toList) = true := str_eq (by rw [hT, HGL.out, HBL.out, HE.out])
        go_wp2_with fail
        go_meet
        exact ⟨by rw [htt]; rfl, hB5⟩
    case rest =>
      obtain ⟨rfl, HB0⟩ := hcut
      obtain ⟨w2, hw2⟩ : ∃ w2 : World, w2 = wc := ⟨_, rfl⟩
      have HB2 : Hid (Below w.heap.size w w2) := by rw [hw2]; exact HBa.out.trans (HB0.out.mono HBa.out.size)
      have HC2 : Hid (sliceAt w2 co cl) := HC.out.below HB2.out
      have HO2 := ownsRow_below HOa.out HB0.out
      rw [← hw2] at HO2 ⊢
      obtain ⟨ae, ce, rfl, hce, hcem, hse⟩ := bytesArg_owned HO2
      unfold maxLen at hcem hcm
      have HSE : Hid (sliceAt w2 ae E) := hse
      have HL2 : Hid (bytesArg w2 (.slice ao l.length cap) l) := by rw [hw2]; exact HSa.out.below HB0.out
      clear hse HO2 hw2 HU HV hB3 HB0 HOa HSa HGL
      go_wp2_with fail
      go_loopg [7, 8, 9] E.length (fun g o sv iv wr => ∃ (i s : Nat) (f : List UInt8), i ≤ E.length ∧ g = E.length - i ∧ iv = .int .i64 i ∧ sv = .int .i64 s ∧ s ≤ 2 ∧ f.length ≤ 5 * i ∧ wr.ownsRow w2.heap.size 5 1 o f.length (f.map byteV) ∧ Hid (BackI l i s f) ∧ Hid (Below w2.heap.size w2 wr))
      case atStart => exact ⟨0, 0, [], by omega, by omega, rfl, rfl, by omega, by simp, World.ownsRow_nil _ _ _ _, BackI.start l, Below.refl _ _⟩
      case round =>
        obtain ⟨i, s, f, hi, rfl, rfl, rfl, hs2, hf, hown, HI, HB⟩ := hrel
        have HO := Lib.hid hown
        clear hown
        by_cases hlt : i < E.length
        · obtain ⟨b, off, rfl, hb, hcell⟩ := HSE.out.cell i hlt
          obtain ⟨x, hx⟩ : ∃ x, x = E[i] := ⟨_, rfl⟩
          rw [← hx] at hcell
          have hxt := x.toNat_lt
          have hcell' : wr.cell? ⟨b, off + i, none⟩ = some (.int .u8 (x.toNat : Int)) := (HB.out.cell (p := ⟨b, off + i, none⟩) hb).trans hcell
          have HST := Lib.hid (fun (S' : Nat) (hS' : S' = if x = 61 then 2 else s - 1) => (show BackI l (i + 1) S' (f ++ [x]) ∧ (0 < s → x ≠ 61) by
            have he := HE.out
            subst he
            have := HI.out.step hlt
            rw [← hx] at this
            rw [hS']
            exact ⟨this.1, this.2.2⟩))
          clear hx
          go_wp2_with (at_builtin; refine wpList_append_own _ rfl _ _ 22 rfl w2.heap.size 5 i0 (.int .u8 0) 1 1 Tryd.underlying22 hi0 hz0 hz1 hz2 rfl (by decide) _ _ _ rfl (HO.out.alloc _) ⟨wr.heap.size, 0, none⟩ 1 1 [byteV x] rfl rfl ?c1 ?c2 ?c3 ?c4 ?c5 ?_)
          case c1 => exact cell_one_new wr _ _
          case c2 => exact news_one [x]
          case c3 => unfold maxLen; omega
          case c4 => omega
          case c5 => simp; have := HB.out.size; omega
          intro v3 w3 hown3 hgrow3 _
          have HO3 : Hid (w3.ownsRow w2.heap.size 5 1 v3 (f ++ [x]).length ((f ++ [x]).map byteV)) := own_cast hown3 (by simp) (by simp)
          have HB3 : Hid (Below w2.heap.size w2 w3) := (HB.out.alloc (by have := HB.out.size; omega) _).grown hgrow3 (by have := HB.out.size; simp; omega) (fun q hq => (HO.out.lt q hq).1)
          have hl3 : (f ++ [x]).length = (f).length + 1 := by simp
          clear hown3 hgrow3
          have hcell3 : w3.cell? ⟨b, off + i, none⟩ = some (.int .u8 (x.toNat : Int)) := (HB3.out.cell (p := ⟨b, off + i, none⟩) hb).trans hcell
          clear hcell' hcell
          have hsx : (s = 0 ∧ x = 61) ∨ (s = 0 ∧ x ≠ 61) ∨ (s = 1 ∧ x ≠ 61) ∨ (s = 2 ∧ x ≠ 61) := by
            have h2 := (HST.out _ rfl).2
            rcases Nat.eq_zero_or_pos s with h0 | h0
            · by_cases h61 : x = 61
              · exact .inl ⟨h0, h61⟩
              · exact .inr (.inl ⟨h0, h61⟩)
            · have := h2 h0
              have : s = 1 ∨ s = 2 := by omega
              rcases this with h | h
              · exact .inr (.inr (.inl ⟨h, h2 h0⟩))
              · exact .inr (.inr (.inr ⟨h, h2 h0⟩))
          rcases hsx with ⟨rfl, h61⟩ | ⟨rfl, h61⟩ | ⟨rfl, h61⟩ | ⟨rfl, h61⟩
          · have t61 : ((x.toNat : Int) == 61) = true := by rw [h61]; rfl
            have HI2 := Lib.hid (HST.out 2 (by rw [if_pos h61])).1
            clear h61
            go_wp2
            go_roundg (E.length - (i + 1))
            case measure => omega
            case rel => exact ⟨i + 1, 2, f ++ [x], by omega, rfl, by go_num, rfl, by omega, by omega, HO3.out, HI2.out, HB3.out⟩
          rotate_left 2
          · have t61 := eq61_no h61
            have HI2 := Lib.hid (HST.out 1 (by rw [if_neg h61])).1
            clear h61
            go_wp2
            go_roundg (E.length - (i + 1))
            case measure => omega
            case rel => exact ⟨i + 1, 1, f ++ [x], by omega, rfl, by go_num, rfl, by omega, by omega, HO3.out, HI2.out, HB3.out⟩
          all_goals
            have t61 := eq61_no h61
            have HI2 := Lib.hid (HST.out 0 (by rw [if_neg h61])).1
            clear h61
            by_cases hci : i < cl.length
            · obtain ⟨b2, off2, rfl, hb2, hyc⟩ := HC2.out.cell i hci
              obtain ⟨y, hy⟩ : ∃ y, y = cl[i] := ⟨_, rfl⟩
              rw [← hy] at hyc
              clear hy
              have hy3 : w3.cell? ⟨b2, off2 + i, none⟩ = some (.int .u8 (y.toNat : Int)) := (HB3.out.cell (p := ⟨b2, off2 + i, none⟩) hb2).trans hyc
              obtain ⟨z3, e3⟩ : ∃ z, bits .and .u8 (y.toNat : Int) 3 = z := ⟨_, rfl⟩
              obtain ⟨z4, e4⟩ : ∃ z, bits .and .u8 (y.toNat : Int) 4 = z := ⟨_, rfl⟩
              obtain ⟨z8, e8⟩ : ∃ z, bits .and .u8 (y.toNat : Int) 8 = z := ⟨_, rfl⟩
              rcases Bool.eq_false_or_eq_true (z3 == 0) with t3 | t3
              · go_wp2_with (at_builtin; refine wpList_append_own _ rfl _ _ 22 rfl w2.heap.size 5 i0 (.int .u8 0) 1 1 Tryd.underlying22 hi0 hz0 hz1 hz2 rfl (by decide) _ _ _ rfl (HO3.out.alloc _) ⟨w3.heap.size, 0, none⟩ 1 1 [byteV 61] rfl rfl ?c1 ?c2 ?c3 ?c4 ?c5 ?_)
                case c1 => exact cell_one_new w3 _ _
                case c2 => exact news_one [61]
                case c3 => unfold maxLen; omega
                case c4 => omega
                case c5 => simp; have := HB3.out.size; omega
                intro v4 w4 hown4 hgrow4 _
                have HO4 : Hid (w4.ownsRow w2.heap.size 5 1 v4 ((f ++ [x]) ++ [61]).length (((f ++ [x]) ++ [61]).map byteV)) := own_cast hown4 (by simp) (by simp)
                have HB4 : Hid (Below w2.heap.size w2 w4) := (HB3.out.alloc (by have := HB3.out.size; omega) _).grown hgrow4 (by have := HB3.out.size; simp; omega) (fun q hq => (HO3.out.lt q hq).1)
                have hl4 : ((f ++ [x]) ++ [61]).length = ((f ++ [x])).length + 1 := by simp
                clear hown4 hgrow4
                have hy4 : w4.cell? ⟨b2, off2 + i, none⟩ = some (.int .u8 (y.toNat : Int)) := (HB4.out.cell (p := ⟨b2, off2 + i, none⟩) hb2).trans hyc
                rcases Bool.eq_false_or_eq_true (z4 == 4) with t4 | t4
                · go_wp2_with (at_builtin; refine wpList_append_own _ rfl _ _ 22 rfl w2.heap.size 5 i0 (.int .u8 0) 1 1 Tryd.underlying22 hi0 hz0 hz1 hz2 rfl (by decide) _ _ _ rfl (HO4.out.alloc _) ⟨w4.heap.size, 0, none⟩ 1 1 [byteV 32] rfl rfl ?c1 ?c2 ?c3 ?c4 ?c5 ?_)
                  case c1 => exact cell_one_new w4 _ _
                  case c2 => exact news_one [32]
                  case c3 => unfold maxLen; omega
                  case c4 => omega
                  case c5 => simp; have := HB4.out.size; omega
                  intro v5 w5 hown5 hgrow5 _
                  have HO5 : Hid (w5.ownsRow w2.heap.size 5 1 v5 ((f ++ [x] ++ [61]) ++ [32]).length (((f ++ [x] ++ [61]) ++ [32]).map byteV)) := own_cast hown5 (by simp) (by simp)
                  have HB5 : Hid (Below w2.heap.size w2 w5) := (HB4.out.alloc (by have := HB4.out.size; omega) _).grown hgrow5 (by have := HB4.out.size; simp; omega) (fun q hq => (HO4.out.lt q hq).1)
                  have hl5 : ((f ++ [x] ++ [61]) ++ [32]).length = ((f ++ [x] ++ [61])).length + 1 := by simp
                  clear hown5 hgrow5
                  have hy5 : w5.cell? ⟨b2, off2 + i, none⟩ = some (.int .u8 (y.toNat : Int)) := (HB5.out.cell (p := ⟨b2, off2 + i, none⟩) hb2).trans hyc
                  rcases Bool.eq_false_or_eq_true (z8 == 8) with t8 | t8
                  · go_wp2_with (at_builtin; refine wpList_append_own _ rfl _ _ 22 rfl w2.heap.size 5 i0 (.int .u8 0) 1 1 Tryd.underlying22 hi0 hz0 hz1 hz2 rfl (by decide) _ _ _ rfl (HO5.out.alloc _) ⟨w5.heap.size, 0, none⟩ 1 1 [byteV 13] rfl rfl ?c1 ?c2 ?c3 ?c4 ?c5 ?_)
                    case c1 => exact cell_one_new w5 _ _
                    case c2 => exact news_one [13]
                    case c3 => unfold maxLen; omega
                    case c4 => omega
                    case c5 => simp; have := HB5.out.size; omega
                    intro v6 w6 hown6 hgrow6 _
                    have HO6 : Hid (w6.ownsRow w2.heap.size 5 1 v6 ((f ++ [x] ++ [61] ++ [32]) ++ [13]).length (((f ++ [x] ++ [61] ++ [32]) ++ [13]).map byteV)) := own_cast hown6 (by simp) (by simp)
                    have HB6 : Hid (Below w2.heap.size w2 w6) := (HB5.out.alloc (by have := HB5.out.size; omega) _).grown hgrow6 (by have := HB5.out.size; simp; omega) (fun q hq => (HO5.out.lt q hq).1)
                    have hl6 : ((f ++ [x] ++ [61] ++ [32]) ++ [13]).length = ((f ++ [x] ++ [61] ++ [32])).length + 1 := by simp
                    clear hown6 hgrow6
                    go_wp2_with (at_builtin; refine wpList_append_own _ rfl _ _ 22 rfl w2.heap.size 5 i0 (.int .u8 0) 1 1 Tryd.underlying22 hi0 hz0 hz1 hz2 rfl (by decide) _ _ _ rfl (HO6.out.alloc _) ⟨w6.heap.size, 0, none⟩ 1 1 [byteV 10] rfl rfl ?c1 ?c2 ?c3 ?c4 ?c5 ?_)
                    case c1 => exact cell_one_new w6 _ _
                    case c2 => exact news_one [10]
                    case c3 => unfold maxLen; omega
                    case c4 => omega
                    case c5 => simp; have := HB6.out.size; omega
                    intro v7 w7 hown7 hgrow7 _
                    have HO7 : Hid (w7.ownsRow w2.heap.size 5 1 v7 ((f ++ [x] ++ [61] ++ [32] ++ [13]) ++ [10]).length (((f ++ [x] ++ [61] ++ [32] ++ [13]) ++ [10]).map byteV)) := own_cast hown7 (by simp) (by simp)
                    have HB7 : Hid (Below w2.heap.size w2 w7) := (HB6.out.alloc (by have := HB6.out.size; omega) _).grown hgrow7 (by have := HB6.out.size; simp; omega) (fun q hq => (HO6.out.lt q hq).1)
                    have hl7 : ((f ++ [x] ++ [61] ++ [32] ++ [13]) ++ [10]).length = ((f ++ [x] ++ [61] ++ [32] ++ [13])).length + 1 := by simp
                    clear hown7 hgrow7
                    go_wp2
                    go_roundg (E.length - (i + 1))
                    case measure => omega
                    case rel => exact ⟨i + 1, 0, f ++ [x] ++ [61] ++ [32] ++ [13] ++ [10], by omega, rfl, by go_num, rfl, by omega, by simp; omega, HO7.out, by have := HI2.out.brk [32] (by simp [isBl]) true; unfold Hid; simpa using this, HB7.out⟩
                  · go_wp2_with (at_builtin; refine wpList_append_own _ rfl _ _ 22 rfl w2.heap.size 5 i0 (.int .u8 0) 1 1 Tryd.underlying22 hi0 hz0 hz1 hz2 rfl (by decide) _ _ _ rfl (HO5.out.alloc _) ⟨w5.heap.size, 0, none⟩ 1 1 [byteV 10] rfl rfl ?c1 ?c2 ?c3 ?c4 ?c5 ?_)
                    case c1 => exact cell_one_new w5 _ _
                    case c2 => exact news_one [10]
                    case c3 => unfold maxLen; omega
                    case c4 => omega
                    case c5 => simp; have := HB5.out.size; omega
                    intro v7 w7 hown7 hgrow7 _
                    have HO7 : Hid (w7.ownsRow w2.heap.size 5 1 v7 ((f ++ [x] ++ [61] ++ [32]) ++ [10]).length (((f ++ [x] ++ [61] ++ [32]) ++ [10]).map byteV)) := own_cast hown7 (by simp) (by simp)
                    have HB7 : Hid (Below w2.heap.size w2 w7) := (HB5.out.alloc (by have := HB5.out.size; omega) _).grown hgrow7 (by have := HB5.out.size; simp; omega) (fun q hq => (HO5.out.lt q hq).1)
                    have hl7 : ((f ++ [x] ++ [61] ++ [32]) ++ [10]).length = ((f ++ [x] ++ [61] ++ [32])).length + 1 := by simp
                    clear hown7 hgrow7
                    go_wp2
                    go_roundg (E.length - (i + 1))
                    case measure => omega
                    case rel => exact ⟨i + 1, 0, f ++ [x] ++ [61] ++ [32] ++ [10], by omega, rfl, by go_num, rfl, by omega, by simp; omega, HO7.out, by have := HI2.out.brk [32] (by simp [isBl]) false; unfold Hid; simpa using this, HB7.out⟩
                · rcases Bool.eq_false_or_eq_true (z8 == 8) with t8 | t8
                  · go_wp2_with (at_builtin; refine wpList_append_own _ rfl _ _ 22 rfl w2.heap.size 5 i0 (.int .u8 0) 1 1 Tryd.underlying22 hi0 hz0 hz1 hz2 rfl (by decide) _ _ _ rfl (HO4.out.alloc _) ⟨w4.heap.size, 0, none⟩ 1 1 [byteV 13] rfl rfl ?c1 ?c2 ?c3 ?c4 ?c5 ?_)
                    case c1 => exact cell_one_new w4 _ _
                    case c2 => exact news_one [13]
                    case c3 => unfold maxLen; omega
                    case c4 => omega
                    case c5 => simp; have := HB4.out.size; omega
                    intro v6 w6 hown6 hgrow6 _
                    have HO6 : Hid (w6.ownsRow w2.heap.size 5 1 v6 ((f ++ [x] ++ [61]) ++ [13]).length (((f ++ [x] ++ [61]) ++ [13]).map byteV)) := own_cast hown6 (by simp) (by simp)
                    have HB6 : Hid (Below w2.heap.size w2 w6) := (HB4.out.alloc (by have := HB4.out.size; omega) _).grown hgrow6 (by have := HB4.out.size; simp; omega) (fun q hq => (HO4.out.lt q hq).1)
                    have hl6 : ((f ++ [x] ++ [61]) ++ [13]).length = ((f ++ [x] ++ [61])).length + 1 := by simp
                    clear hown6 hgrow6
                    go_wp2_with (at_builtin; refine wpList_append_own _ rfl _ _ 22 rfl w2.heap.size 5 i0 (.int .u8 0) 1 1 Tryd.underlying22 hi0 hz0 hz1 hz2 rfl (by decide) _ _ _ rfl (HO6.out.alloc _) ⟨w6.heap.size, 0, none⟩ 1 1 [byteV 10] rfl rfl ?c1 ?c2 ?c3 ?c4 ?c5 ?_)
                    case c1 => exact cell_one_new w6 _ _
                    case c2 => exact news_one [10]
                    case c3 => unfold maxLen; omega
                    case c4 => omega
                    case c5 => simp; have := HB6.out.size; omega
                    intro v7 w7 hown7 hgrow7 _
                    have HO7 : Hid (w7.ownsRow w2.heap.size 5 1 v7 ((f ++ [x] ++ [61] ++ [13]) ++ [10]).length (((f ++ [x] ++ [61] ++ [13]) ++ [10]).map byteV)) := own_cast hown7 (by simp) (by simp)
                    have HB7 : Hid (Below w2.heap.size w2 w7) := (HB6.out.alloc (by have := HB6.out.size; omega) _).grown hgrow7 (by have := HB6.out.size; simp; omega) (fun q hq => (HO6.out.lt q hq).1)
                    have hl7 : ((f ++ [x] ++ [61] ++ [13]) ++ [10]).length = ((f ++ [x] ++ [61] ++ [13])).length + 1 := by simp
                    clear hown7 hgrow7
                    go_wp2
                    go_roundg (E.length - (i + 1))
                    case measure => omega
                    case rel => exact ⟨i + 1, 0, f ++ [x] ++ [61] ++ [13] ++ [10], by omega, rfl, by go_num, rfl, by omega, by simp; omega, HO7.out, by have := HI2.out.brk [] (by simp) true; unfold Hid; simpa using this, HB7.out⟩
                  · go_wp2_with (at_builtin; refine wpList_append_own _ rfl _ _ 22 rfl w2.heap.size 5 i0 (.int .u8 0) 1 1 Tryd.underlying22 hi0 hz0 hz1 hz2 rfl (by decide) _ _ _ rfl (HO4.out.alloc _) ⟨w4.heap.size, 0, none⟩ 1 1 [byteV 10] rfl rfl ?c1 ?c2 ?c3 ?c4 ?c5 ?_)
                    case c1 => exact cell_one_new w4 _ _
                    case c2 => exact news_one [10]
                    case c3 => unfold maxLen; omega
                    case c4 => omega
                    case c5 => simp; have := HB4.out.size; omega
                    intro v7 w7 hown7 hgrow7 _
                    have HO7 : Hid (w7.ownsRow w2.heap.size 5 1 v7 ((f ++ [x] ++ [61]) ++ [10]).length (((f ++ [x] ++ [61]) ++ [10]).map byteV)) := own_cast hown7 (by simp) (by simp)
                    have HB7 : Hid (Below w2.heap.size w2 w7) := (HB4.out.alloc (by have := HB4.out.size; omega) _).grown hgrow7 (by have := HB4.out.size; simp; omega) (fun q hq => (HO4.out.lt q hq).1)
                    have hl7 : ((f ++ [x] ++ [61]) ++ [10]).length = ((f ++ [x] ++ [61])).length + 1 := by simp
                    clear hown7 hgrow7
                    go_wp2
                    go_roundg (E.length - (i + 1))
                    case measure => omega
                    case rel => exact ⟨i + 1, 0, f ++ [x] ++ [61] ++ [10], by omega, rfl, by go_num, rfl, by omega, by simp; omega, HO7.out, by have := HI2.out.brk [] (by simp) false; unfold Hid; simpa using this, HB7.out⟩
              · go_wp2
                go_roundg (E.length - (i + 1))
                case measure => omega
                case rel => exact ⟨i + 1, 0, f ++ [x], by omega, rfl, by go_num, rfl, by omega, by simp; omega, HO3.out, HI2.out, HB3.out⟩
            · go_wp2
              go_roundg (E.length - (i + 1))
              case measure => omega
              case rel => exact ⟨i + 1, 0, f ++ [x], by omega, rfl, by go_num, rfl, by omega, by simp; omega, HO3.out, HI2.out, HB3.out⟩
        · obtain rfl : i = E.length := by omega
          have HD : Hid (decQ f = some l) := HI.out.done (by rw [← HE.out])
          have HF := Lib.hid (decode_any _ f wr (bytesArg_owned HO.out) (by omega))
          go_wp2_with fail
          with_reducible refine HF.out.mono ?_
          rintro e w3 ⟨hb3, u, rfl, hown3⟩
          rw [HD.out] at hown3
          rw [HD.out]
          have hst := run_string_of_owned (P := Tryd.prog) Tryd.underlying22 Tryd.underlying5 Tryd.underlying9 hown3
          have hcv := bytesArg_string (HL2.out.below (HB.out.trans (hb3.mono HB.out.size)))
          have HB3 := Lib.hid (HB2.out.trans ((HB.out.trans (hb3.mono HB.out.size)).mono HB2.out.size))
          simp only [Option.getD_some] at hst
          obtain ⟨Z, hZ⟩ : ∃ Z : ByteArray, Z = ⟨l.toArray⟩ := ⟨_, rfl⟩
          rw [← hZ] at hst hcv
          clear hb3 hown3 hZ
          go_wp2
          go_ret
          exact ⟨rfl, HB3.out⟩
end Go.Proofs.YtdofnejgfcnnoaaDoor
