/- Contract of the document's answer for base64: what letters are of. -/
import Derived.Test.YtolkjaebhhbilaaGreatDoorB64L
import Derived.Test.YtolkjaebhhbilaaGreatDoorB64I
import Derived.Outline
namespace Go.Proofs.YtolkjaebhhbilaaGreatDoor
open Go Go.RowKit

theorem decV_none {o : Option (List UInt8)} (h : o = none) : Ending.returned (.tuple #[.string ⟨#[]⟩, .bool false]) = .returned (.tuple #[.string ⟨(o.getD []).toArray⟩, .bool o.isSome]) := by subst h; rfl
set_option maxRecDepth 100000 in
theorem decV_some {o : Option (List UInt8)} {l : List UInt8} (h : o = some l) : Ending.returned (.tuple #[.string ⟨l.toArray⟩, .bool true]) = .returned (.tuple #[.string ⟨(o.getD []).toArray⟩, .bool o.isSome]) := by subst h; rfl
theorem refOut_four {s : ByteArray} {k : Nat} (h : k + 3 < s.size) :
    refOut (s.data.toList.drop k) = byteN (valB s[k] % 64 * 4 + valB s[k + 1] % 64 / 16) :: ((if s[k + 2] = 61 then [] else [byteN (valB s[k + 1] % 64 % 16 * 16 + valB s[k + 2] % 64 / 4)]) ++ ((if s[k + 3] = 61 then [] else [byteN (valB s[k + 2] % 64 % 4 * 64 + valB s[k + 3] % 64)]) ++ refOut (s.data.toList.drop (k + 4)))) := by
  rw [drop_cons s k (by omega), drop_cons s (k + 1) (by omega), drop_cons s (k + 2) (by omega), drop_cons s (k + 3) (by omega)]
  rfl
set_option maxRecDepth 100000 in
set_option maxHeartbeats 4000000 in
theorem refDecode_any (s : ByteArray) (w : World) (hs : s.size ≤ 65536) :
    Calls Tryz.prog 14 #[.string s] w fun e w' => e = .returned (.tuple #[.string ⟨((decS (bareS s.data.toList)).getD []).toArray⟩, .bool (decS (bareS s.data.toList)).isSome]) ∧ Below w.heap.size w w' := by
  obtain ⟨i0, hi, hz0, hz1, hz2⟩ := info_parts Tryz.infoB
  obtain ⟨T, hT⟩ : ∃ T, T = bareS s.data.toList := ⟨_, rfl⟩
  have hbl := bareS_len s.data.toList
  rw [← hT, ← bytes_len] at hbl
  rw [← hT]
  have HT0 := Lib.hid hT
  clear hT
  go_enter Tryz.func14, Tryz.ntmps14
  go_wp2_with fail
  refine (refBare_any s _ (by omega)).mono ?_
  rintro e w1 ⟨P, rfl, hP, hb1⟩
  have hP2 : P.data.toList = T := by rw [hP, HT0.out]
  have hPl : P.size ≤ 65536 := by rw [bytes_len, hP2]; omega
  have HP := Lib.hid hP2
  have HB1 := Lib.hid hb1
  clear hP hP2 hb1 hbl
  by_cases h4 : P.size % 4 = 0
  · have ht4 : ((P.size : Int) % 4 != 0) = false := bne_no (by omega)
    have H4 := Lib.hid h4
    go_wp2
    clear ht4 h4
    go_loopg [5, 6] (P.size + 4) (fun g o v wr => ∃ (k : Nat) (out : List UInt8), k ≤ P.size ∧ g = P.size + 4 - k ∧ v = .int .i64 k ∧ out.length ≤ k ∧ wr.ownsRow w1.heap.size 5 1 o out.length (out.map byteV) ∧ Hid (out ++ refOut (P.data.toList.drop k) = refOut T) ∧ Hid (Below w1.heap.size w1 wr) ∧ Hid (k % 4 = 0))
    case atStart => exact ⟨0, [], by omega, by omega, rfl, by simp, World.ownsRow_nil _ _ _ _, by unfold Hid; rw [← HP.out]; rfl, Below.refl _ _, rfl⟩
    case round =>
      obtain ⟨k, out, hk, rfl, rfl, hout, hown, HE, HB, HM⟩ := hrel
      have HO := Lib.hid hown
      clear hown
      by_cases h0 : k < P.size
      · have h3 : k + 3 < P.size := by have := HM.out; have := H4.out; omega
        have HF := Lib.hid (refOut_four h3)
        by_cases qC : P[k + 2] = 61
        · have tC : ((P[k + 2].toNat : Int) != 61) = false := by rw [qC]; rfl
          have QC := Lib.hid qC
          clear qC
          by_cases qD : P[k + 3] = 61
          · have tD : ((P[k + 3].toNat : Int) != 61) = false := by rw [qD]; rfl
            have QD := Lib.hid qD
            clear qD
            go_wp2_with fail
            refine (value_any P[k] _).mono ?_
            rintro e w2 ⟨rfl, hb2⟩
            have HB2 : Hid (Below w1.heap.size w1 w2) := HB.out.trans (hb2.mono HB.out.size)
            have HO2 : Hid (w2.ownsRow w1.heap.size 5 1 _ out.length (out.map byteV)) := ownsRow_below HO.out hb2
            clear hb2
            obtain ⟨n0, hn0⟩ : ∃ n, n = valB P[k] := ⟨_, rfl⟩
            rw [← hn0]
            have hl0 : n0 ≤ 64 := by rw [hn0]; exact valB_le _
            have HN0 := Lib.hid hn0
            clear hn0
            go_wp2_with fail
            refine (value_any P[k + 1] _).mono ?_
            rintro e w3 ⟨rfl, hb3⟩
            have HB3 : Hid (Below w1.heap.size w1 w3) := HB2.out.trans (hb3.mono HB2.out.size)
            have HO3 : Hid (w3.ownsRow w1.heap.size 5 1 _ out.length (out.map byteV)) := ownsRow_below HO2.out hb3
            clear hb3
            obtain ⟨n1, hn1⟩ : ∃ n, n = valB P[k + 1] := ⟨_, rfl⟩
            rw [← hn1]
            have hl1 : n1 ≤ 64 := by rw [hn1]; exact valB_le _
            have HN1 := Lib.hid hn1
            clear hn1
            go_wp2_with fail
            refine (value_any P[k + 2] _).mono ?_
            rintro e w4 ⟨rfl, hb4⟩
            have HB4 : Hid (Below w1.heap.size w1 w4) := HB3.out.trans (hb4.mono HB3.out.size)
            have HO4 : Hid (w4.ownsRow w1.heap.size 5 1 _ out.length (out.map byteV)) := ownsRow_below HO3.out hb4
            clear hb4
            obtain ⟨n2, hn2⟩ : ∃ n, n = valB P[k + 2] := ⟨_, rfl⟩
            rw [← hn2]
            have hl2 : n2 ≤ 64 := by rw [hn2]; exact valB_le _
            have HN2 := Lib.hid hn2
            clear hn2
            go_wp2_with fail
            refine (value_any P[k + 3] _).mono ?_
            rintro e w5 ⟨rfl, hb5⟩
            have HB5 : Hid (Below w1.heap.size w1 w5) := HB4.out.trans (hb5.mono HB4.out.size)
            have HO5 : Hid (w5.ownsRow w1.heap.size 5 1 _ out.length (out.map byteV)) := ownsRow_below HO4.out hb5
            clear hb5
            obtain ⟨n3, hn3⟩ : ∃ n, n = valB P[k + 3] := ⟨_, rfl⟩
            rw [← hn3]
            have hl3 : n3 ≤ 64 := by rw [hn3]; exact valB_le _
            have HN3 := Lib.hid hn3
            clear hn3
            go_wp2_with (at_builtin; refine wpList_append_own _ rfl _ _ 28 rfl w1.heap.size 5 i0 (.int .u8 0) 1 1 Tryz.underlying28 hi hz0 hz1 hz2 rfl (by decide) _ _ _ rfl (HO5.out.alloc _) ⟨w5.heap.size, 0, none⟩ 1 1 [byteV (byteN (n0 % 64 * 4 + n1 % 64 / 16))] rfl rfl ?c1 ?c2 ?c3 ?c4 ?c5 ?_)
            case c1 => exact cell_byte w5 _ (by omega) (by omega)
            case c2 => exact news_one [byteN (n0 % 64 * 4 + n1 % 64 / 16)]
            case c3 => unfold maxLen; omega
            case c4 => omega
            case c5 => simp; have := HB5.out.size; omega
            intro va xa howna hgrowa _
            have HOxa := Lib.hid howna
            have HBxa : Hid (Below w1.heap.size w1 xa) := (HB5.out.alloc (by have := HB5.out.size; omega) _).grown hgrowa (by have := HB5.out.size; simp; omega) (fun q hq => (HO5.out.lt q hq).1)
            clear howna hgrowa
            go_wp2
            go_roundg (P.size + 4 - (k + 4))
            case measure => omega
            case rel =>
              refine ⟨k + 4, out ++ [byteN (n0 % 64 * 4 + n1 % 64 / 16)], by omega, rfl, by go_num, by simp; omega, ?_, ?_, HBxa, ?_⟩
              · exact own_cast HOxa.out (by simp) (by simp)
              · unfold Hid
                rw [← HE.out, HF.out, ← HN0.out, ← HN1.out, ← HN2.out, ← HN3.out, if_pos QC.out, if_pos QD.out]
                simp
              · have := HM.out
                unfold Hid
                omega
          · have tD : ((P[k + 3].toNat : Int) != 61) = true := by
              apply bne_yes
              intro h
              apply qD
              apply toNat_eq
              show P[k + 3].toNat = 61
              omega
            have QD := Lib.hid qD
            clear qD
            go_wp2_with fail
            refine (value_any P[k] _).mono ?_
            rintro e w2 ⟨rfl, hb2⟩
            have HB2 : Hid (Below w1.heap.size w1 w2) := HB.out.trans (hb2.mono HB.out.size)
            have HO2 : Hid (w2.ownsRow w1.heap.size 5 1 _ out.length (out.map byteV)) := ownsRow_below HO.out hb2
            clear hb2
            obtain ⟨n0, hn0⟩ : ∃ n, n = valB P[k] := ⟨_, rfl⟩
            rw [← hn0]
            have hl0 : n0 ≤ 64 := by rw [hn0]; exact valB_le _
            have HN0 := Lib.hid hn0
            clear hn0
            go_wp2_with fail
            refine (value_any P[k + 1] _).mono ?_
            rintro e w3 ⟨rfl, hb3⟩
            have HB3 : Hid (Below w1.heap.size w1 w3) := HB2.out.trans (hb3.mono HB2.out.size)
            have HO3 : Hid (w3.ownsRow w1.heap.size 5 1 _ out.length (out.map byteV)) := ownsRow_below HO2.out hb3
            clear hb3
            obtain ⟨n1, hn1⟩ : ∃ n, n = valB P[k + 1] := ⟨_, rfl⟩
            rw [← hn1]
            have hl1 : n1 ≤ 64 := by rw [hn1]; exact valB_le _
            have HN1 := Lib.hid hn1
            clear hn1
            go_wp2_with fail
            refine (value_any P[k + 2] _).mono ?_
            rintro e w4 ⟨rfl, hb4⟩
            have HB4 : Hid (Below w1.heap.size w1 w4) := HB3.out.trans (hb4.mono HB3.out.size)
            have HO4 : Hid (w4.ownsRow w1.heap.size 5 1 _ out.length (out.map byteV)) := ownsRow_below HO3.out hb4
            clear hb4
            obtain ⟨n2, hn2⟩ : ∃ n, n = valB P[k + 2] := ⟨_, rfl⟩
            rw [← hn2]
            have hl2 : n2 ≤ 64 := by rw [hn2]; exact valB_le _
            have HN2 := Lib.hid hn2
            clear hn2
            go_wp2_with fail
            refine (value_any P[k + 3] _).mono ?_
            rintro e w5 ⟨rfl, hb5⟩
            have HB5 : Hid (Below w1.heap.size w1 w5) := HB4.out.trans (hb5.mono HB4.out.size)
            have HO5 : Hid (w5.ownsRow w1.heap.size 5 1 _ out.length (out.map byteV)) := ownsRow_below HO4.out hb5
            clear hb5
            obtain ⟨n3, hn3⟩ : ∃ n, n = valB P[k + 3] := ⟨_, rfl⟩
            rw [← hn3]
            have hl3 : n3 ≤ 64 := by rw [hn3]; exact valB_le _
            have HN3 := Lib.hid hn3
            clear hn3
            go_wp2_with (at_builtin; refine wpList_append_own _ rfl _ _ 28 rfl w1.heap.size 5 i0 (.int .u8 0) 1 1 Tryz.underlying28 hi hz0 hz1 hz2 rfl (by decide) _ _ _ rfl (HO5.out.alloc _) ⟨w5.heap.size, 0, none⟩ 1 1 [byteV (byteN (n0 % 64 * 4 + n1 % 64 / 16))] rfl rfl ?c1 ?c2 ?c3 ?c4 ?c5 ?_)
            case c1 => exact cell_byte w5 _ (by omega) (by omega)
            case c2 => exact news_one [byteN (n0 % 64 * 4 + n1 % 64 / 16)]
            case c3 => unfold maxLen; omega
            case c4 => omega
            case c5 => simp; have := HB5.out.size; omega
            intro va xa howna hgrowa _
            have HOxa := Lib.hid howna
            have HBxa : Hid (Below w1.heap.size w1 xa) := (HB5.out.alloc (by have := HB5.out.size; omega) _).grown hgrowa (by have := HB5.out.size; simp; omega) (fun q hq => (HO5.out.lt q hq).1)
            clear howna hgrowa
            go_wp2_with (at_builtin; refine wpList_append_own _ rfl _ _ 28 rfl w1.heap.size 5 i0 (.int .u8 0) 1 1 Tryz.underlying28 hi hz0 hz1 hz2 rfl (by decide) _ _ _ rfl (HOxa.out.alloc _) ⟨xa.heap.size, 0, none⟩ 1 1 [byteV (byteN (n2 % 64 % 4 * 64 + n3 % 64))] rfl rfl ?c1 ?c2 ?c3 ?c4 ?c5 ?_)
            case c1 => exact cell_byte xa _ (by omega) (by omega)
            case c2 => exact news_one [byteN (n2 % 64 % 4 * 64 + n3 % 64)]
            case c3 => unfold maxLen; omega
            case c4 => omega
            case c5 => simp; have := HBxa.out.size; omega
            intro vc xc hownc hgrowc _
            have HOxc := Lib.hid hownc
            have HBxc : Hid (Below w1.heap.size w1 xc) := (HBxa.out.alloc (by have := HBxa.out.size; omega) _).grown hgrowc (by have := HBxa.out.size; simp; omega) (fun q hq => (HOxa.out.lt q hq).1)
            clear hownc hgrowc
            go_wp2
            go_roundg (P.size + 4 - (k + 4))
            case measure => omega
            case rel =>
              refine ⟨k + 4, out ++ [byteN (n0 % 64 * 4 + n1 % 64 / 16), byteN (n2 % 64 % 4 * 64 + n3 % 64)], by omega, rfl, by go_num, by simp; omega, ?_, ?_, HBxc, ?_⟩
              · exact own_cast HOxc.out (by simp) (by simp)
              · unfold Hid
                rw [← HE.out, HF.out, ← HN0.out, ← HN1.out, ← HN2.out, ← HN3.out, if_pos QC.out, if_neg QD.out]
                simp
              · have := HM.out
                unfold Hid
                omega
        · have tC : ((P[k + 2].toNat : Int) != 61) = true := by
            apply bne_yes
            intro h
            apply qC
            apply toNat_eq
            show P[k + 2].toNat = 61
            omega
          have QC := Lib.hid qC
          clear qC
          by_cases qD : P[k + 3] = 61
          · have tD : ((P[k + 3].toNat : Int) != 61) = false := by rw [qD]; rfl
            have QD := Lib.hid qD
            clear qD
            go_wp2_with fail
            refine (value_any P[k] _).mono ?_
            rintro e w2 ⟨rfl, hb2⟩
            have HB2 : Hid (Below w1.heap.size w1 w2) := HB.out.trans (hb2.mono HB.out.size)
            have HO2 : Hid (w2.ownsRow w1.heap.size 5 1 _ out.length (out.map byteV)) := ownsRow_below HO.out hb2
            clear hb2
            obtain ⟨n0, hn0⟩ : ∃ n, n = valB P[k] := ⟨_, rfl⟩
            rw [← hn0]
            have hl0 : n0 ≤ 64 := by rw [hn0]; exact valB_le _
            have HN0 := Lib.hid hn0
            clear hn0
            go_wp2_with fail
            refine (value_any P[k + 1] _).mono ?_
            rintro e w3 ⟨rfl, hb3⟩
            have HB3 : Hid (Below w1.heap.size w1 w3) := HB2.out.trans (hb3.mono HB2.out.size)
            have HO3 : Hid (w3.ownsRow w1.heap.size 5 1 _ out.length (out.map byteV)) := ownsRow_below HO2.out hb3
            clear hb3
            obtain ⟨n1, hn1⟩ : ∃ n, n = valB P[k + 1] := ⟨_, rfl⟩
            rw [← hn1]
            have hl1 : n1 ≤ 64 := by rw [hn1]; exact valB_le _
            have HN1 := Lib.hid hn1
            clear hn1
            go_wp2_with fail
            refine (value_any P[k + 2] _).mono ?_
            rintro e w4 ⟨rfl, hb4⟩
            have HB4 : Hid (Below w1.heap.size w1 w4) := HB3.out.trans (hb4.mono HB3.out.size)
            have HO4 : Hid (w4.ownsRow w1.heap.size 5 1 _ out.length (out.map byteV)) := ownsRow_below HO3.out hb4
            clear hb4
            obtain ⟨n2, hn2⟩ : ∃ n, n = valB P[k + 2] := ⟨_, rfl⟩
            rw [← hn2]
            have hl2 : n2 ≤ 64 := by rw [hn2]; exact valB_le _
            have HN2 := Lib.hid hn2
            clear hn2
            go_wp2_with fail
            refine (value_any P[k + 3] _).mono ?_
            rintro e w5 ⟨rfl, hb5⟩
            have HB5 : Hid (Below w1.heap.size w1 w5) := HB4.out.trans (hb5.mono HB4.out.size)
            have HO5 : Hid (w5.ownsRow w1.heap.size 5 1 _ out.length (out.map byteV)) := ownsRow_below HO4.out hb5
            clear hb5
            obtain ⟨n3, hn3⟩ : ∃ n, n = valB P[k + 3] := ⟨_, rfl⟩
            rw [← hn3]
            have hl3 : n3 ≤ 64 := by rw [hn3]; exact valB_le _
            have HN3 := Lib.hid hn3
            clear hn3
            go_wp2_with (at_builtin; refine wpList_append_own _ rfl _ _ 28 rfl w1.heap.size 5 i0 (.int .u8 0) 1 1 Tryz.underlying28 hi hz0 hz1 hz2 rfl (by decide) _ _ _ rfl (HO5.out.alloc _) ⟨w5.heap.size, 0, none⟩ 1 1 [byteV (byteN (n0 % 64 * 4 + n1 % 64 / 16))] rfl rfl ?c1 ?c2 ?c3 ?c4 ?c5 ?_)
            case c1 => exact cell_byte w5 _ (by omega) (by omega)
            case c2 => exact news_one [byteN (n0 % 64 * 4 + n1 % 64 / 16)]
            case c3 => unfold maxLen; omega
            case c4 => omega
            case c5 => simp; have := HB5.out.size; omega
            intro va xa howna hgrowa _
            have HOxa := Lib.hid howna
            have HBxa : Hid (Below w1.heap.size w1 xa) := (HB5.out.alloc (by have := HB5.out.size; omega) _).grown hgrowa (by have := HB5.out.size; simp; omega) (fun q hq => (HO5.out.lt q hq).1)
            clear howna hgrowa
            go_wp2_with (at_builtin; refine wpList_append_own _ rfl _ _ 28 rfl w1.heap.size 5 i0 (.int .u8 0) 1 1 Tryz.underlying28 hi hz0 hz1 hz2 rfl (by decide) _ _ _ rfl (HOxa.out.alloc _) ⟨xa.heap.size, 0, none⟩ 1 1 [byteV (byteN (n1 % 64 % 16 * 16 + n2 % 64 / 4))] rfl rfl ?c1 ?c2 ?c3 ?c4 ?c5 ?_)
            case c1 => exact cell_byte xa _ (by omega) (by omega)
            case c2 => exact news_one [byteN (n1 % 64 % 16 * 16 + n2 % 64 / 4)]
            case c3 => unfold maxLen; omega
            case c4 => omega
            case c5 => simp; have := HBxa.out.size; omega
            intro vb xb hownb hgrowb _
            have HOxb := Lib.hid hownb
            have HBxb : Hid (Below w1.heap.size w1 xb) := (HBxa.out.alloc (by have := HBxa.out.size; omega) _).grown hgrowb (by have := HBxa.out.size; simp; omega) (fun q hq => (HOxa.out.lt q hq).1)
            clear hownb hgrowb
            go_wp2
            go_roundg (P.size + 4 - (k + 4))
            case measure => omega
            case rel =>
              refine ⟨k + 4, out ++ [byteN (n0 % 64 * 4 + n1 % 64 / 16), byteN (n1 % 64 % 16 * 16 + n2 % 64 / 4)], by omega, rfl, by go_num, by simp; omega, ?_, ?_, HBxb, ?_⟩
              · exact own_cast HOxb.out (by simp) (by simp)
              · unfold Hid
                rw [← HE.out, HF.out, ← HN0.out, ← HN1.out, ← HN2.out, ← HN3.out, if_neg QC.out, if_pos QD.out]
                simp
              · have := HM.out
                unfold Hid
                omega
          · have tD : ((P[k + 3].toNat : Int) != 61) = true := by
              apply bne_yes
              intro h
              apply qD
              apply toNat_eq
              show P[k + 3].toNat = 61
              omega
            have QD := Lib.hid qD
            clear qD
            go_wp2_with fail
            refine (value_any P[k] _).mono ?_
            rintro e w2 ⟨rfl, hb2⟩
            have HB2 : Hid (Below w1.heap.size w1 w2) := HB.out.trans (hb2.mono HB.out.size)
            have HO2 : Hid (w2.ownsRow w1.heap.size 5 1 _ out.length (out.map byteV)) := ownsRow_below HO.out hb2
            clear hb2
            obtain ⟨n0, hn0⟩ : ∃ n, n = valB P[k] := ⟨_, rfl⟩
            rw [← hn0]
            have hl0 : n0 ≤ 64 := by rw [hn0]; exact valB_le _
            have HN0 := Lib.hid hn0
            clear hn0
            go_wp2_with fail
            refine (value_any P[k + 1] _).mono ?_
            rintro e w3 ⟨rfl, hb3⟩
            have HB3 : Hid (Below w1.heap.size w1 w3) := HB2.out.trans (hb3.mono HB2.out.size)
            have HO3 : Hid (w3.ownsRow w1.heap.size 5 1 _ out.length (out.map byteV)) := ownsRow_below HO2.out hb3
            clear hb3
            obtain ⟨n1, hn1⟩ : ∃ n, n = valB P[k + 1] := ⟨_, rfl⟩
            rw [← hn1]
            have hl1 : n1 ≤ 64 := by rw [hn1]; exact valB_le _
            have HN1 := Lib.hid hn1
            clear hn1
            go_wp2_with fail
            refine (value_any P[k + 2] _).mono ?_
            rintro e w4 ⟨rfl, hb4⟩
            have HB4 : Hid (Below w1.heap.size w1 w4) := HB3.out.trans (hb4.mono HB3.out.size)
            have HO4 : Hid (w4.ownsRow w1.heap.size 5 1 _ out.length (out.map byteV)) := ownsRow_below HO3.out hb4
            clear hb4
            obtain ⟨n2, hn2⟩ : ∃ n, n = valB P[k + 2] := ⟨_, rfl⟩
            rw [← hn2]
            have hl2 : n2 ≤ 64 := by rw [hn2]; exact valB_le _
            have HN2 := Lib.hid hn2
            clear hn2
            go_wp2_with fail
            refine (value_any P[k + 3] _).mono ?_
            rintro e w5 ⟨rfl, hb5⟩
            have HB5 : Hid (Below w1.heap.size w1 w5) := HB4.out.trans (hb5.mono HB4.out.size)
            have HO5 : Hid (w5.ownsRow w1.heap.size 5 1 _ out.length (out.map byteV)) := ownsRow_below HO4.out hb5
            clear hb5
            obtain ⟨n3, hn3⟩ : ∃ n, n = valB P[k + 3] := ⟨_, rfl⟩
            rw [← hn3]
            have hl3 : n3 ≤ 64 := by rw [hn3]; exact valB_le _
            have HN3 := Lib.hid hn3
            clear hn3
            go_wp2_with (at_builtin; refine wpList_append_own _ rfl _ _ 28 rfl w1.heap.size 5 i0 (.int .u8 0) 1 1 Tryz.underlying28 hi hz0 hz1 hz2 rfl (by decide) _ _ _ rfl (HO5.out.alloc _) ⟨w5.heap.size, 0, none⟩ 1 1 [byteV (byteN (n0 % 64 * 4 + n1 % 64 / 16))] rfl rfl ?c1 ?c2 ?c3 ?c4 ?c5 ?_)
            case c1 => exact cell_byte w5 _ (by omega) (by omega)
            case c2 => exact news_one [byteN (n0 % 64 * 4 + n1 % 64 / 16)]
            case c3 => unfold maxLen; omega
            case c4 => omega
            case c5 => simp; have := HB5.out.size; omega
            intro va xa howna hgrowa _
            have HOxa := Lib.hid howna
            have HBxa : Hid (Below w1.heap.size w1 xa) := (HB5.out.alloc (by have := HB5.out.size; omega) _).grown hgrowa (by have := HB5.out.size; simp; omega) (fun q hq => (HO5.out.lt q hq).1)
            clear howna hgrowa
            go_wp2_with (at_builtin; refine wpList_append_own _ rfl _ _ 28 rfl w1.heap.size 5 i0 (.int .u8 0) 1 1 Tryz.underlying28 hi hz0 hz1 hz2 rfl (by decide) _ _ _ rfl (HOxa.out.alloc _) ⟨xa.heap.size, 0, none⟩ 1 1 [byteV (byteN (n1 % 64 % 16 * 16 + n2 % 64 / 4))] rfl rfl ?c1 ?c2 ?c3 ?c4 ?c5 ?_)
            case c1 => exact cell_byte xa _ (by omega) (by omega)
            case c2 => exact news_one [byteN (n1 % 64 % 16 * 16 + n2 % 64 / 4)]
            case c3 => unfold maxLen; omega
            case c4 => omega
            case c5 => simp; have := HBxa.out.size; omega
            intro vb xb hownb hgrowb _
            have HOxb := Lib.hid hownb
            have HBxb : Hid (Below w1.heap.size w1 xb) := (HBxa.out.alloc (by have := HBxa.out.size; omega) _).grown hgrowb (by have := HBxa.out.size; simp; omega) (fun q hq => (HOxa.out.lt q hq).1)
            clear hownb hgrowb
            go_wp2_with (at_builtin; refine wpList_append_own _ rfl _ _ 28 rfl w1.heap.size 5 i0 (.int .u8 0) 1 1 Tryz.underlying28 hi hz0 hz1 hz2 rfl (by decide) _ _ _ rfl (HOxb.out.alloc _) ⟨xb.heap.size, 0, none⟩ 1 1 [byteV (byteN (n2 % 64 % 4 * 64 + n3 % 64))] rfl rfl ?c1 ?c2 ?c3 ?c4 ?c5 ?_)
            case c1 => exact cell_byte xb _ (by omega) (by omega)
            case c2 => exact news_one [byteN (n2 % 64 % 4 * 64 + n3 % 64)]
            case c3 => unfold maxLen; omega
            case c4 => omega
            case c5 => simp; have := HBxb.out.size; omega
            intro vc xc hownc hgrowc _
            have HOxc := Lib.hid hownc
            have HBxc : Hid (Below w1.heap.size w1 xc) := (HBxb.out.alloc (by have := HBxb.out.size; omega) _).grown hgrowc (by have := HBxb.out.size; simp; omega) (fun q hq => (HOxb.out.lt q hq).1)
            clear hownc hgrowc
            go_wp2
            go_roundg (P.size + 4 - (k + 4))
            case measure => omega
            case rel =>
              refine ⟨k + 4, out ++ [byteN (n0 % 64 * 4 + n1 % 64 / 16), byteN (n1 % 64 % 16 * 16 + n2 % 64 / 4), byteN (n2 % 64 % 4 * 64 + n3 % 64)], by omega, rfl, by go_num, by simp; omega, ?_, ?_, HBxc, ?_⟩
              · exact own_cast HOxc.out (by simp) (by simp)
              · unfold Hid
                rw [← HE.out, HF.out, ← HN0.out, ← HN1.out, ← HN2.out, ← HN3.out, if_neg QC.out, if_neg QD.out]
                simp
              · have := HM.out
                unfold Hid
                omega
      · have hk2 : k = P.size := by omega
        have he := HE.out
        rw [List.drop_eq_nil_of_le (by rw [← bytes_len]; omega)] at he
        have he2 : out = refOut T := by simpa [refOut] using he
        have HX := Lib.hid he2
        clear he he2 hk2
        have hst := run_string_of_owned (P := Tryz.prog) Tryz.underlying28 Tryz.underlying5 Tryz.underlying9 HO.out
        obtain ⟨O, hO⟩ : ∃ O : ByteArray, O = ⟨out.toArray⟩ := ⟨_, rfl⟩
        rw [← hO] at hst
        have hOl : O.size ≤ 65536 := by rw [hO]; show (List.toArray out).size ≤ 65536; simp; omega
        have HO2 : Hid (O.data.toList = refOut T) := by unfold Hid; rw [hO, ← HX.out]
        have HOe := Lib.hid hO
        clear hO
        go_wp2_with fail
        refine (plain_any O _ hOl).mono ?_
        rintro e w2 ⟨Q, rfl, hQ, rfl⟩
        have HQ := Lib.hid hQ
        clear hQ
        by_cases heq : encS (refOut T) = T
        · have hq2 : (Q.toList == P.toList) = true := by
            rw [ByteArray.toList_eq, ByteArray.toList_eq, HQ.out, HO2.out, HP.out, heq]
            simp
          have hq : (Q.toList != P.toList) = false := by
            rw [ByteArray.toList_eq, ByteArray.toList_eq, HQ.out, HO2.out, HP.out, heq]
            simp
          have HD : Hid (decS T = some out) := by unfold Hid; rw [decS_ref, if_pos heq, HX.out]
          clear heq
          go_wp2
          go_ret2
          refine ⟨?_, HB1.out.trans (HB.out.mono HB1.out.size)⟩
          have := decV_some HD.out
          rw [← HOe.out] at this
          exact this
        · have hq2 : (Q.toList == P.toList) = false := by
            rw [ByteArray.toList_eq, ByteArray.toList_eq, HQ.out, HO2.out, HP.out]
            simpa using heq
          have hq : (Q.toList != P.toList) = true := by
            rw [ByteArray.toList_eq, ByteArray.toList_eq, HQ.out, HO2.out, HP.out]
            simpa using heq
          have HD : Hid (decS T = none) := by unfold Hid; rw [decS_ref, if_neg heq]
          clear heq
          go_wp2
          go_ret2
          exact ⟨decV_none HD.out, HB1.out.trans (HB.out.mono HB1.out.size)⟩
  · have ht4 : ((P.size : Int) % 4 != 0) = true := bne_yes (by omega)
    have HX : Hid (decS T = none) := dec_none_len (by rw [← HP.out, ← bytes_len]; exact h4)
    clear h4
    go_wp2
    go_ret2
    exact ⟨decV_none HX.out, HB1.out⟩
end Go.Proofs.YtolkjaebhhbilaaGreatDoor
