/- Contracts of package b64: Encode. -/
import Derived.Test.YteallnjbpikhhaaGreatDoorGbB64C
import Derived.Outline
namespace Go.Proofs.YteallnjbpikhhaaGreatDoor
open Go Go.RowKit

theorem enc_step {r : List UInt8} {m : Nat} (hr : r ≠ []) (hm : m = 3 ∧ 3 ≤ r.length ∨ m = r.length ∧ r.length ≤ 3) : encS r = encS (r.take m) ++ encS (r.drop m) := by
  match r, hr, hm with
  | [a], _, hm => obtain rfl : m = 1 := by simp at hm; omega
                  rfl
  | [a, b], _, hm => obtain rfl : m = 2 := by simp at hm; omega
                     rfl
  | a :: b :: c :: r, _, hm =>
    obtain rfl : m = 3 := by simp at hm; omega
    simp [encS]
theorem enc_four {r : List UInt8} (h1 : 1 ≤ r.length) (h3 : r.length ≤ 3) : ∃ a b c d, encS r = [a, b, c, d] := by
  match r, h1, h3 with
  | [a], _, _ => exact ⟨_, _, _, _, rfl⟩
  | [a, b], _, _ => exact ⟨_, _, _, _, rfl⟩
  | [a, b, c], _, _ => exact ⟨_, _, _, _, rfl⟩
  | _ :: _ :: _ :: _ :: _, _, h3 => simp at h3

set_option maxRecDepth 100000 in
theorem fourOf_some {v : Value} {l : List UInt8} {w : World} (hv : bytesArg w v l) (h1 : 1 ≤ l.length) (h3 : l.length ≤ 3) (ht : lets w) : ∃ x1 x2 x3 x4 : UInt8, encS l = [x1, x2, x3, x4] ∧
    Calls Tryz.prog 13 #[v] w fun e w' => e = .returned (.agg #[.int .u8 (x1.toNat : Int), .int .u8 (x2.toNat : Int), .int .u8 (x3.toNat : Int), .int .u8 (x4.toNat : Int)]) ∧ Below w.heap.size w w' := by
  obtain ⟨x1, x2, x3, x4, hx⟩ := enc_four h1 h3
  refine ⟨x1, x2, x3, x4, hx, ?_⟩
  have := fourOf_any v l w hv h1 h3 ht
  rw [hx] at this
  exact this

set_option maxRecDepth 100000 in
theorem encode_any (v : Value) (l : List UInt8) (wd : Int) (w : World) (hv : bytesArg w v l) (hl : l.length ≤ 65536) (h1 : -9223372036854775808 ≤ wd) (hw : wd ≤ 9223372036854775807) (ht : lets w) :
    Calls Tryz.prog 6 #[v, .int .i64 wd] w fun e w' => ∃ u, e = .returned u ∧ w'.ownsRow w.heap.size 5 1 u (lineS wd (encS l)).length ((lineS wd (encS l)).map byteV) ∧ Below w.heap.size w w' := by
  obtain ⟨i0, hi, hz0, hz1, hz2⟩ := info_parts Tryz.infoB
  obtain ⟨ao, cap, rfl, hc, hm, hs⟩ := hv
  unfold maxLen at hm
  have HS := Lib.hid hs
  have HT := Lib.hid ht
  clear hs ht
  go_enter Tryz.func6, Tryz.ntmps6
  go_wp2
  go_loopg [0, 5] l.length (fun g t o wr => ∃ (r out : List UInt8) (ar : Option Addr) (cr : Nat), r.length ≤ l.length ∧ g = r.length ∧ t = .slice ar r.length cr ∧ r.length ≤ cr ∧ cr ≤ 9223372036854775807 ∧ Hid (sliceAt w ar r) ∧ out.length + 4 * r.length ≤ 4 * l.length ∧ wr.ownsRow w.heap.size 5 1 o out.length (out.map byteV) ∧ Hid (out ++ encS r = encS l) ∧ Hid (Below w.heap.size w wr))
  case atStart => exact ⟨l, [], ao, cap, by omega, rfl, rfl, hc, by omega, HS, by simp, World.ownsRow_nil _ _ _ _, rfl, Below.refl _ _⟩
  case round =>
    obtain ⟨r, out, ar, cr, hrl, rfl, rfl, hrc, hcr, HR, hout, hown, HE, HB⟩ := hrel
    have HO := Lib.hid hown
    clear hown
    by_cases h0 : 0 < r.length
    · rcases HR.out with e | ⟨b, off, rfl, hb, hcell⟩
      · rw [e] at h0
        simp at h0
      clear hcell
      by_cases hq : 3 ≤ r.length
      · by_cases hcap : cr = 3
        · subst hcap
          obtain ⟨x1, x2, x3, x4, hx, hf⟩ := fourOf_some (((HR.out.below HB.out).take 3).arg (cap := 3) (by simp; omega) (by unfold maxLen; omega)) (by simp; omega) (by simp; omega) (HT.out.below HB.out)
          rw [List.length_take, Nat.min_eq_left (by omega)] at hf
          have HX := Lib.hid hx
          have HF := Lib.hid hf
          clear hx hf
          go_wp2_with fail
          refine HF.out.mono ?_
          rintro e w1 ⟨rfl, hb1⟩
          have HB1 := Lib.hid (HB.out.trans (hb1.mono HB.out.size))
          have HO1 := Lib.hid (ownsRow_below HO.out hb1)
          clear hb1
          go_wp2_with (at_builtin; refine wpList_append_own _ rfl _ _ 22 rfl w.heap.size 5 i0 (.int .u8 0) 1 1 Tryz.underlying22 hi hz0 hz1 hz2 rfl (by decide) _ _ _ rfl (HO1.out.alloc _) ⟨w1.heap.size, 0, none⟩ 4 4 [byteV x1, byteV x2, byteV x3, byteV x4] rfl rfl ?c1 ?c2 ?c3 ?c4 ?c5 ?_)
          case c1 => exact cells_four_new w1 _ _ _ _ _
          case c2 => exact news_one [x1, x2, x3, x4]
          case c3 => unfold maxLen; omega
          case c4 => omega
          case c5 => simp; have := HB1.out.size; omega
          intro v2 w2 hown2 hgrow2 _
          have HO2 := Lib.hid hown2
          have HB2 : Hid (Below w.heap.size w w2) := (HB1.out.alloc (by have := HB1.out.size; omega) _).grown hgrow2 (by have := HB1.out.size; simp; omega) (fun q hq => (HO1.out.lt q hq).1)
          clear hown2 hgrow2
          go_wp2
          go_roundg (r.length - 3)
          case measure => omega
          case rel =>
            refine ⟨r.drop 3, out ++ [x1, x2, x3, x4], some ⟨b, off, none⟩, 0, by simp; omega, by simp, by (simp; omega), by simp; omega, by omega, .inl (List.drop_eq_nil_of_le (by omega)), by simp; omega, ?_, ?_, HB2⟩
            · exact own_cast HO2.out (by simp) (by simp)
            · unfold Hid
              rw [← HE.out, enc_step (m := 3) (ne_nil_of_pos h0) (.inl ⟨rfl, by omega⟩), HX.out, List.append_assoc]
        · obtain ⟨x1, x2, x3, x4, hx, hf⟩ := fourOf_some (((HR.out.below HB.out).take 3).arg (cap := cr) (by simp; omega) (by unfold maxLen; omega)) (by simp; omega) (by simp; omega) (HT.out.below HB.out)
          rw [List.length_take, Nat.min_eq_left (by omega)] at hf
          have HX := Lib.hid hx
          have HF := Lib.hid hf
          clear hx hf
          go_wp2_with fail
          refine HF.out.mono ?_
          rintro e w1 ⟨rfl, hb1⟩
          have HB1 := Lib.hid (HB.out.trans (hb1.mono HB.out.size))
          have HO1 := Lib.hid (ownsRow_below HO.out hb1)
          clear hb1
          go_wp2_with (at_builtin; refine wpList_append_own _ rfl _ _ 22 rfl w.heap.size 5 i0 (.int .u8 0) 1 1 Tryz.underlying22 hi hz0 hz1 hz2 rfl (by decide) _ _ _ rfl (HO1.out.alloc _) ⟨w1.heap.size, 0, none⟩ 4 4 [byteV x1, byteV x2, byteV x3, byteV x4] rfl rfl ?c1 ?c2 ?c3 ?c4 ?c5 ?_)
          case c1 => exact cells_four_new w1 _ _ _ _ _
          case c2 => exact news_one [x1, x2, x3, x4]
          case c3 => unfold maxLen; omega
          case c4 => omega
          case c5 => simp; have := HB1.out.size; omega
          intro v2 w2 hown2 hgrow2 _
          have HO2 := Lib.hid hown2
          have HB2 : Hid (Below w.heap.size w w2) := (HB1.out.alloc (by have := HB1.out.size; omega) _).grown hgrow2 (by have := HB1.out.size; simp; omega) (fun q hq => (HO1.out.lt q hq).1)
          clear hown2 hgrow2
          go_wp2
          go_roundg (r.length - 3)
          case measure => omega
          case rel =>
            refine ⟨r.drop 3, out ++ [x1, x2, x3, x4], some ⟨b, off + 3, none⟩, cr - 3, by simp; omega, by simp, by simp, by simp; omega, by omega, HR.out.drop, by simp; omega, ?_, ?_, HB2⟩
            · exact own_cast HO2.out (by simp) (by simp)
            · unfold Hid
              rw [← HE.out, enc_step (m := 3) (ne_nil_of_pos h0) (.inl ⟨rfl, by omega⟩), HX.out, List.append_assoc]
      · have hq' : r.length < 3 := by omega
        clear hq
        obtain ⟨x1, x2, x3, x4, hx, hf⟩ := fourOf_some ((HR.out.below HB.out).arg (cap := cr) (by omega) (by unfold maxLen; omega)) (by omega) (by omega) (HT.out.below HB.out)
        have HF := Lib.hid hf
        clear hf
        have HX : Hid (encS (r.take r.length) = [x1, x2, x3, x4]) := by rw [List.take_length]; exact hx
        clear hx
        go_wp2_with fail
        refine HF.out.mono ?_
        rintro e w1 ⟨rfl, hb1⟩
        have HB1 := Lib.hid (HB.out.trans (hb1.mono HB.out.size))
        have HO1 := Lib.hid (ownsRow_below HO.out hb1)
        clear hb1
        go_wp2_with (at_builtin; refine wpList_append_own _ rfl _ _ 22 rfl w.heap.size 5 i0 (.int .u8 0) 1 1 Tryz.underlying22 hi hz0 hz1 hz2 rfl (by decide) _ _ _ rfl (HO1.out.alloc _) ⟨w1.heap.size, 0, none⟩ 4 4 [byteV x1, byteV x2, byteV x3, byteV x4] rfl rfl ?c1 ?c2 ?c3 ?c4 ?c5 ?_)
        case c1 => exact cells_four_new w1 _ _ _ _ _
        case c2 => exact news_one [x1, x2, x3, x4]
        case c3 => unfold maxLen; omega
        case c4 => omega
        case c5 => simp; have := HB1.out.size; omega
        intro v2 w2 hown2 hgrow2 _
        have HO2 := Lib.hid hown2
        have HB2 : Hid (Below w.heap.size w w2) := (HB1.out.alloc (by have := HB1.out.size; omega) _).grown hgrow2 (by have := HB1.out.size; simp; omega) (fun q hq => (HO1.out.lt q hq).1)
        clear hown2 hgrow2
        go_wp2
        all_goals
          go_roundg (r.length - r.length)
          case measure => omega
          case rel =>
            refine ⟨r.drop r.length, out ++ [x1, x2, x3, x4], _, _, by simp, by simp, by rw [List.drop_length]; first | rfl | (simp; rfl), by simp, ?_, by exact .inl (by simp), by simp; omega, ?_, ?_, HB2⟩
            · first | omega | simp
            · exact own_cast HO2.out (by simp) (by simp)
            · unfold Hid
              rw [← HE.out, enc_step (m := r.length) (ne_nil_of_pos h0) (.inr ⟨rfl, by omega⟩), HX.out, List.append_assoc]
    · have hr0 : r = [] := List.eq_nil_of_length_eq_zero (by omega)
      have he := HE.out
      rw [hr0] at he
      have he' : out = encS l := by rw [← he]; simp [encS]
      have hA := bytesArg_owned HO.out
      have hol : out.length ≤ 1000000 := by omega
      have HX := Lib.hid he'
      clear he he' hr0
      by_cases hw0 : 0 < wd
      · obtain ⟨n, rfl⟩ : ∃ n : Nat, wd = (n : Int) := ⟨wd.toNat, by omega⟩
        have HF := Lib.hid (inLines_any _ out n wr hA hol (by omega) (by omega))
        clear hA
        go_wp2_with fail
        refine HF.out.mono ?_
        rintro e w1 ⟨u, rfl, hown1, hb1⟩
        have HO1 := Lib.hid hown1
        clear hown1
        go_wp2
        go_ret
        refine ⟨u, rfl, ?_, HB.out.trans (hb1.mono HB.out.size)⟩
        have e : lineS (n : Int) (encS l) = cutL n out := by
          unfold lineS
          rw [if_pos hw0, ← HX.out]
          rfl
        rw [e]
        exact own_base HO1.out HB.out.size
      · clear hA
        go_wp2
        go_ret
        refine ⟨_, rfl, ?_, HB.out⟩
        have e : lineS wd (encS l) = out := by
          unfold lineS
          rw [if_neg (by omega), ← HX.out]
        rw [e]
        exact HO.out
end Go.Proofs.YteallnjbpikhhaaGreatDoor
