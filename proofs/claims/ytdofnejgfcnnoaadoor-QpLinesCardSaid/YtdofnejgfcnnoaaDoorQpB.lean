/- Contracts of package qp: appendTold. -/
import Derived.Test.YtdofnejgfcnnoaaDoorQpA
namespace Go.Proofs.YtdofnejgfcnnoaaDoor
open Go Go.RowKit

/-- What appendTold answers. -/
def Told (w0 : World) (o : Option (List UInt8)) (out : List UInt8) (e : Ending) (w' : World) : Prop :=
  Below w0.heap.size w0 w' ∧ match o with
    | some p => ∃ u, e = .returned (.tuple #[u, .bool true]) ∧ w'.ownsRow w0.heap.size 5 1 u (out ++ p).length ((out ++ p).map byteV)
    | none => e = .returned (.tuple #[.slice none 0 0, .bool false])

theorem hex2_iff (a b : UInt8) (r : List UInt8) : hex2 (a :: b :: r) = true ↔ hexV a < 16 ∧ hexV b < 16 := by simp [hex2]
theorem hexW_lt {l : List UInt8} (h : hex2 l = true) : hexW l < 256 := by
  match l, h with
  | a :: b :: r, h =>
    have := (hex2_iff a b r).1 h
    simp only [hexW]
    omega
  | [], h => cases h
  | [_], h => cases h
theorem hex2_len {l : List UInt8} (h : hex2 l = true) : 2 ≤ l.length := by
  match l, h with
  | a :: b :: r, h => simp
  | [], h => cases h
  | [_], h => cases h
theorem textS_yes {l : List UInt8} (h : hex2 l = true) : textS (61 :: l) = (textS (l.drop 2)).map (byteN (hexW l) :: ·) := by
  match l, h with
  | a :: b :: r, h => exact textS_hex a b r ((hex2_iff a b r).1 h)
  | [], h => cases h
  | [_], h => cases h
theorem textS_no {l : List UInt8} (h : hex2 l = false) : textS (61 :: l) = none := by
  match l, h with
  | a :: b :: r, h => exact textS_nohex a b r (fun h' => by rw [(hex2_iff a b r).2 h'] at h; cases h)
  | [], h => rfl
  | [_], h => rfl
theorem eq61_no {c : UInt8} (h : c ≠ 61) : ((c.toNat : Int) == 61) = false := beq_no fun e => h (toNat_eq (by show c.toNat = 61; omega))
theorem okB_cases (c : UInt8) : (seenB c = true ∧ Hid (okB c = true)) ∨ (seenB c = false ∧ ((c.toNat : Int) == 32) = true ∧ Hid (okB c = true)) ∨ (seenB c = false ∧ ((c.toNat : Int) == 32) = false ∧ ((c.toNat : Int) == 9) = true ∧ Hid (okB c = true)) ∨ (seenB c = false ∧ ((c.toNat : Int) == 32) = false ∧ ((c.toNat : Int) == 9) = false ∧ Hid (okB c = false)) := by
  unfold okB isBl
  rcases Bool.eq_false_or_eq_true (seenB c) with h | h
  · exact .inl ⟨h, by unfold Hid; rw [h]; rfl⟩
  by_cases h1 : c = 32
  · subst h1; exact .inr (.inl ⟨rfl, rfl, rfl⟩)
  by_cases h2 : c = 9
  · subst h2; exact .inr (.inr (.inl ⟨rfl, rfl, rfl, rfl⟩))
  refine .inr (.inr (.inr ⟨h, ?_, ?_, ?_⟩))
  · exact beq_no fun e => h1 (toNat_eq (by show c.toNat = 32; omega))
  · exact beq_no fun e => h2 (toNat_eq (by show c.toNat = 9; omega))
  · unfold Hid
    rw [h, beq_eq_false_iff_ne.2 h1, beq_eq_false_iff_ne.2 h2]
    rfl
/-- Where the round stands: what is still to tell is what is left of the whole. -/
def Left (l out0 r out : List UInt8) : Prop := (textS l).map (out0 ++ ·) = (textS r).map (out ++ ·)
theorem Left.refl (l out : List UInt8) : Left l out l out := rfl
theorem Left.keep {l out0 out : List UInt8} {c : UInt8} {r : List UInt8} (h : Left l out0 (c :: r) out) (h1 : c ≠ 61) (h2 : okB c = true) : Left l out0 r (out ++ [c]) := by
  unfold Left at *
  rw [h, textS_seen c r h2 h1]
  simp [Function.comp_def]
theorem Left.hex {l out0 out r : List UInt8} (h : Left l out0 (61 :: r) out) (h2 : hex2 r = true) : Left l out0 (r.drop 2) (out ++ [byteN (hexW r)]) := by
  unfold Left at *
  rw [h, textS_yes h2]
  simp [Function.comp_def]
theorem Left.none {l out0 out r : List UInt8} (h : Left l out0 r out) (h2 : textS r = none) : textS l = none := by
  unfold Left at h
  rw [h2] at h
  simpa using h
theorem Left.all {l out0 out : List UInt8} (h : Left l out0 [] out) : ∃ p, textS l = some p ∧ out0 ++ p = out := by
  unfold Left at h
  rw [show textS [] = some [] from rfl] at h
  simpa using h
theorem told_none {w0 w' : World} {l out : List UInt8} (hb : Below w0.heap.size w0 w') (h : textS l = none) : Told w0 (textS l) out (.returned (.tuple #[.slice none 0 0, .bool false])) w' := by
  rw [h]; exact ⟨hb, rfl⟩
theorem told_some {w0 w' : World} {l out0 out : List UInt8} {u : Value} (hb : Below w0.heap.size w0 w') (h : Left l out0 [] out) (ho : w'.ownsRow w0.heap.size 5 1 u out.length (out.map byteV)) : Told w0 (textS l) out0 (.returned (.tuple #[u, .bool true])) w' := by
  obtain ⟨p, h1, h2⟩ := h.all
  rw [h1]
  exact ⟨hb, u, rfl, by rw [h2]; exact ho⟩

set_option maxHeartbeats 800000 in
theorem appendTold_any (w0 w : World) (all : Value) (out0 l : List UInt8) (ao : Option Addr) (cap : Nat) (hb : Below w0.heap.size w0 w) (hown : w.ownsRow w0.heap.size 5 1 all out0.length (out0.map byteV)) (hs : sliceAt w0 ao l)
    (hc : l.length ≤ cap) (hm : cap ≤ maxLen) (hlen : out0.length + l.length ≤ 1000000) :
    Calls Tryd.prog 14 #[all, .slice ao l.length cap] w (Told w0 (textS l) out0) := by
  obtain ⟨i0, hi, hz0, hz1, hz2⟩ := info_parts Tryd.infoB
  unfold maxLen at hm
  have HS := Lib.hid hs
  have HB0 := Lib.hid hb
  have HO0 := Lib.hid hown
  clear hs hb hown
  go_enter Tryd.func14, Tryd.ntmps14
  go_wp2
  go_loopg [0, 1] l.length (fun n o v wr => ∃ (cp : Nat) (a : Option Addr) (r out : List UInt8), v = .slice a n cp ∧ n ≤ cp ∧ cp ≤ 2 ^ 63 - 1 ∧ out.length + n ≤ 1000000 ∧ wr.ownsRow w0.heap.size 5 1 o out.length (out.map byteV) ∧ Hid (r.length = n) ∧ Hid (sliceAt w0 a r) ∧ Hid (Below w0.heap.size w0 wr) ∧ Hid (Left l out0 r out))
  case atStart => exact ⟨cap, ao, l, out0, rfl, hc, hm, by omega, HO0.out, rfl, HS.out, HB0.out, Left.refl _ _⟩
  case round =>
    obtain ⟨cp, a, r, out, rfl, hncp, hcm, hol, hown, HN, HR, HB, HL⟩ := hrel
    have HO := Lib.hid hown
    clear hown
    rcases r with _ | ⟨c, r⟩
    · obtain rfl : gk = 0 := HN.out.symm
      go_wp2
      go_ret2
      exact told_some HB.out HL.out HO.out
    · have hg : gk = r.length + 1 := HN.out.symm
      subst hg
      obtain ⟨cq, rfl⟩ : ∃ cq, cp = cq + 1 := ⟨cp - 1, by omega⟩
      obtain ⟨b, off, rfl, hbl, hcell⟩ := HR.out.cell 0 (by simp)
      have hcell' : wr.cell? ⟨b, off, none⟩ = some (.int .u8 (c.toNat : Int)) := (HB.out.cell (p := ⟨b, off, none⟩) hbl).trans hcell
      clear hcell hbl
      have hct := c.toNat_lt
      by_cases h61 : c = 61
      · subst h61
        by_cases hx : hex2 r = true
        · have hl2 := hex2_len hx
          have HX := Lib.hid hx
          clear hx
          have HR1 : Hid (sliceAt w0 (some ⟨b, off + 1, none⟩) r) := HR.out.drop (k := 1)
          have HF := Lib.hid (byteOf_any _ r wr ((HR1.out.below HB.out).arg (cap := cq) (by omega) (by unfold maxLen; omega)))
          have hq : cq = 2 ∨ 2 < cq := by omega
          rcases hq with rfl | hq
          · have HR2 : Hid (sliceAt w0 (some ⟨b, off + 1, none⟩) (r.drop 2)) := .inl (List.drop_eq_nil_of_le (by omega))
            go_wp2_with fail
            with_reducible refine HF.out.mono ?_
            rintro e w1 ⟨tn, rfl, htn, rfl⟩
            rw [HX.out]
            have ht2 := hexW_lt HX.out
            have htn := htn HX.out
            rw [← htn] at ht2
            have HT := Lib.hid htn
            clear htn
            go_wp2_with (at_builtin; refine wpList_append_own _ rfl _ _ 22 rfl w0.heap.size 5 i0 (.int .u8 0) 1 1 Tryd.underlying22 hi hz0 hz1 hz2 rfl (by decide) _ _ _ rfl (HO.out.alloc _) ⟨wr.heap.size, 0, none⟩ 1 1 [byteV (byteN tn)] rfl rfl ?c1 ?c2 ?c3 ?c4 ?c5 ?_)
            case c1 => exact cell_byte wr _ rfl (by omega)
            case c2 => exact news_one [byteN tn]
            case c3 => unfold maxLen; omega
            case c4 => omega
            case c5 => simp; have := HB.out.size; omega
            intro v2 w2 hown2 hgrow2 _
            have HO2 := Lib.hid hown2
            have HB2 : Hid (Below w0.heap.size w0 w2) := (HB.out.alloc (by have := HB.out.size; omega) _).grown hgrow2 (by have := HB.out.size; simp; omega) (fun q hq => (HO.out.lt q hq).1)
            clear hown2 hgrow2
            go_wp2
            go_roundg (r.length - 2)
            case measure => omega
            case rel =>
              refine ⟨_, _, r.drop 2, out ++ [byteN tn], rfl, by omega, by omega, by simp; omega, own_cast HO2.out (by simp) (by simp), ?_, HR2, HB2, (by rw [HT.out]; exact HL.out.hex HX.out)⟩
              unfold Hid; simp
          · have HR2 : Hid (sliceAt w0 (some ⟨b, off + 1 + 2, none⟩) (r.drop 2)) := HR1.out.drop (k := 2)
            go_wp2_with fail
            with_reducible refine HF.out.mono ?_
            rintro e w1 ⟨tn, rfl, htn, rfl⟩
            rw [HX.out]
            have ht2 := hexW_lt HX.out
            have htn := htn HX.out
            rw [← htn] at ht2
            have HT := Lib.hid htn
            clear htn
            go_wp2_with (at_builtin; refine wpList_append_own _ rfl _ _ 22 rfl w0.heap.size 5 i0 (.int .u8 0) 1 1 Tryd.underlying22 hi hz0 hz1 hz2 rfl (by decide) _ _ _ rfl (HO.out.alloc _) ⟨wr.heap.size, 0, none⟩ 1 1 [byteV (byteN tn)] rfl rfl ?c1 ?c2 ?c3 ?c4 ?c5 ?_)
            case c1 => exact cell_byte wr _ rfl (by omega)
            case c2 => exact news_one [byteN tn]
            case c3 => unfold maxLen; omega
            case c4 => omega
            case c5 => simp; have := HB.out.size; omega
            intro v2 w2 hown2 hgrow2 _
            have HO2 := Lib.hid hown2
            have HB2 : Hid (Below w0.heap.size w0 w2) := (HB.out.alloc (by have := HB.out.size; omega) _).grown hgrow2 (by have := HB.out.size; simp; omega) (fun q hq => (HO.out.lt q hq).1)
            clear hown2 hgrow2
            go_wp2
            go_roundg (r.length - 2)
            case measure => omega
            case rel =>
              refine ⟨_, _, r.drop 2, out ++ [byteN tn], rfl, by omega, by omega, by simp; omega, own_cast HO2.out (by simp) (by simp), ?_, HR2, HB2, (by rw [HT.out]; exact HL.out.hex HX.out)⟩
              unfold Hid; simp
        · have hx' : hex2 r = false := by simpa using hx
          have HX := Lib.hid hx'
          clear hx hx'
          have hq : cq = 0 ∨ 0 < cq := by omega
          rcases hq with rfl | hq
          · obtain rfl : r = [] := List.eq_nil_of_length_eq_zero (by omega)
            have HF : Hid (Calls Tryd.prog 20 #[.slice (some ⟨b, off, none⟩) 0 0] wr (ByteOf [] wr)) := byteOf_any _ [] wr ((show sliceAt wr (some ⟨b, off, none⟩) [] from .inl rfl).arg (cap := 0) (by simp) (by decide))
            go_wp2_with fail
            with_reducible refine HF.out.mono ?_
            rintro e w1 ⟨tn, rfl, htn, rfl⟩
            rw [HX.out]
            clear htn
            go_wp2
            go_ret2
            exact told_none HB.out (HL.out.none (textS_no HX.out))
          · have HR1 : Hid (sliceAt w0 (some ⟨b, off + 1, none⟩) r) := HR.out.drop (k := 1)
            have HF := Lib.hid (byteOf_any _ r wr ((HR1.out.below HB.out).arg (cap := cq) (by omega) (by unfold maxLen; omega)))
            go_wp2_with fail
            with_reducible refine HF.out.mono ?_
            rintro e w1 ⟨tn, rfl, htn, rfl⟩
            rw [HX.out]
            clear htn
            go_wp2
            go_ret2
            exact told_none HB.out (HL.out.none (textS_no HX.out))
      · have t61 := eq61_no h61
        have H61 := Lib.hid h61
        clear h61
        have HF := Lib.hid (seen_any c wr)
        have hq : cq = 0 ∨ 0 < cq := by omega
        rcases hq with rfl | hq
        · obtain rfl : r = [] := List.eq_nil_of_length_eq_zero (by omega)
          have HR1 : Hid (sliceAt w0 (some ⟨b, off, none⟩) []) := .inl rfl
          rcases okB_cases c with ⟨s1, HK⟩ | ⟨s1, s2, HK⟩ | ⟨s1, s2, s3, HK⟩ | ⟨s1, s2, s3, HK⟩
          iterate 3
            · have HS1 := Lib.hid s1
              clear s1
              go_wp2_with fail
              with_reducible refine HF.out.mono ?_
              rintro e w1 ⟨rfl, rfl⟩
              rw [HS1.out]
              go_wp2_with (at_builtin; refine wpList_append_own _ rfl _ _ 22 rfl w0.heap.size 5 i0 (.int .u8 0) 1 1 Tryd.underlying22 hi hz0 hz1 hz2 rfl (by decide) _ _ _ rfl (HO.out.alloc _) ⟨wr.heap.size, 0, none⟩ 1 1 [byteV (c)] rfl rfl ?c1 ?c2 ?c3 ?c4 ?c5 ?_)
              case c1 => exact cell_one_new wr _ _
              case c2 => exact news_one [c]
              case c3 => unfold maxLen; omega
              case c4 => omega
              case c5 => simp; have := HB.out.size; omega
              intro v2 w2 hown2 hgrow2 _
              have HO2 := Lib.hid hown2
              have HB2 : Hid (Below w0.heap.size w0 w2) := (HB.out.alloc (by have := HB.out.size; omega) _).grown hgrow2 (by have := HB.out.size; simp; omega) (fun q hq => (HO.out.lt q hq).1)
              clear hown2 hgrow2
              go_wp2
              go_roundg (0)
              case measure => omega
              case rel =>
                refine ⟨_, _, [], out ++ [c], rfl, by omega, by omega, by simp; omega, own_cast HO2.out (by simp) (by simp), ?_, HR1, HB2, (HL.out.keep H61.out HK.out)⟩
                unfold Hid; simp
          · have HS1 := Lib.hid s1
            clear s1
            go_wp2_with fail
            with_reducible refine HF.out.mono ?_
            rintro e w1 ⟨rfl, rfl⟩
            rw [HS1.out]
            go_wp2
            go_ret2
            exact told_none HB.out (HL.out.none (textS_bad c [] HK.out H61.out))
        · have HR1 : Hid (sliceAt w0 (some ⟨b, off + 1, none⟩) r) := HR.out.drop (k := 1)
          rcases okB_cases c with ⟨s1, HK⟩ | ⟨s1, s2, HK⟩ | ⟨s1, s2, s3, HK⟩ | ⟨s1, s2, s3, HK⟩
          iterate 3
            · have HS1 := Lib.hid s1
              clear s1
              go_wp2_with fail
              with_reducible refine HF.out.mono ?_
              rintro e w1 ⟨rfl, rfl⟩
              rw [HS1.out]
              go_wp2_with (at_builtin; refine wpList_append_own _ rfl _ _ 22 rfl w0.heap.size 5 i0 (.int .u8 0) 1 1 Tryd.underlying22 hi hz0 hz1 hz2 rfl (by decide) _ _ _ rfl (HO.out.alloc _) ⟨wr.heap.size, 0, none⟩ 1 1 [byteV (c)] rfl rfl ?c1 ?c2 ?c3 ?c4 ?c5 ?_)
              case c1 => exact cell_one_new wr _ _
              case c2 => exact news_one [c]
              case c3 => unfold maxLen; omega
              case c4 => omega
              case c5 => simp; have := HB.out.size; omega
              intro v2 w2 hown2 hgrow2 _
              have HO2 := Lib.hid hown2
              have HB2 : Hid (Below w0.heap.size w0 w2) := (HB.out.alloc (by have := HB.out.size; omega) _).grown hgrow2 (by have := HB.out.size; simp; omega) (fun q hq => (HO.out.lt q hq).1)
              clear hown2 hgrow2
              go_wp2
              go_roundg (r.length)
              case measure => omega
              case rel =>
                refine ⟨_, _, r, out ++ [c], rfl, by omega, by omega, by simp; omega, own_cast HO2.out (by simp) (by simp), ?_, HR1, HB2, (HL.out.keep H61.out HK.out)⟩
                unfold Hid; simp
          · have HS1 := Lib.hid s1
            clear s1
            go_wp2_with fail
            with_reducible refine HF.out.mono ?_
            rintro e w1 ⟨rfl, rfl⟩
            rw [HS1.out]
            go_wp2
            go_ret2
            exact told_none HB.out (HL.out.none (textS_bad c r HK.out H61.out))
end Go.Proofs.YtdofnejgfcnnoaaDoor
