/- Contracts of package words: Encode. -/
import Derived.Test.YtolkjaebhhbilaaDoorWdF
import Derived.Deep.DeepCutAuto
namespace Go.Proofs.YtolkjaebhhbilaaDoor
open Go Go.RowKit Go.Maps

/-- What is told, a space behind it, if it is something. -/
def sepE (out : List UInt8) : List UInt8 := if out = [] then [] else out ++ [32]
def restE (out r : List UInt8) : List UInt8 := if out = [] then encodeL r else out ++ encA r
theorem pieceL_ne (b : List UInt8) : pieceL b ≠ [] := by unfold pieceL openW; simp
theorem restE_nil (out : List UInt8) : restE out [] = out := by
  unfold restE
  split
  · next h => rw [h]; rfl
  · rw [encA_nil, List.append_nil]
theorem restE_step (out : List UInt8) {r : List UInt8} (h : r ≠ []) : restE out r = restE (sepE out ++ pieceL (r.take (takenN r))) (r.drop (takenN r)) := by
  have hne : sepE out ++ pieceL (r.take (takenN r)) ≠ [] := by
    intro e
    exact pieceL_ne _ (List.append_eq_nil_iff.1 e).2
  unfold restE
  rw [if_neg hne]
  unfold sepE
  by_cases ho : out = []
  · rw [if_pos ho, if_pos ho, encodeL_step h]
    rfl
  · rw [if_neg ho, if_neg ho, encA_step h]
    simp
theorem sepE_len (out : List UInt8) : (sepE out).length ≤ out.length + 1 := by
  unfold sepE
  split
  · simp
  · simp
theorem piece_step {out r : List UInt8} {n : Nat} (h : r ≠ []) (hn : n = takenN r) {M : Nat} (hb : out.length + 17 * r.length ≤ M) :
    (sepE out ++ pieceL (r.take n)).length + 17 * (r.drop n).length ≤ M := by
  have h1 := sepE_len out
  have h2 := takenN_le r
  have h3 := takenN_pos h
  rw [List.length_append, pieceL_len, List.length_take, List.length_drop]
  omega

set_option maxRecDepth 100000 in
set_option maxHeartbeats 4000000 in
theorem Encode_any (s : ByteArray) (w : World) (hl : s.size ≤ 10000) (hE : env w) :
    Calls Tryd.prog 7 #[.string s] w fun e w' => e = .returned (.string ⟨(encodeL s.data.toList).toArray⟩) ∧ Below w.heap.size w w' := by
  obtain ⟨i0, hi, hz0, hz1, hz2⟩ := info_parts Tryd.infoB
  have HEn := Lib.hid hE
  have HTk := Lib.hid (fun v (r : List UInt8) W h1 (h2 : r.length ≤ 1000000) => taken_any v r W h1 h2)
  have HEc := Lib.hid (fun v (r : List UInt8) W h1 (h2 : r.length ≤ 65536) h3 => encode_any v r 0 W h1 h2 (by decide) (by decide) h3)
  obtain ⟨L, hL⟩ : ∃ L, L = s.data.toList := ⟨_, rfl⟩
  have hLl : L.length ≤ 10000 := by rw [hL, len_toList]; exact hl
  have HSL : Hid (s.data.toList = L) := hL.symm
  have hsm : s.size ≤ maxLen := by unfold maxLen; omega
  have HSm := Lib.hid hsm
  rw [HSL.out]
  clear hE hsm hL
  go_enter Tryd.func7, Tryd.ntmps7
  go_wp2_with (refine wpList_conv_nz rfl (.tmp 6) 9 26 5 rfl s rfl HSm.out Tryd.underlying9 Tryd.underlying26 Tryd.underlying5 ?_; intro w2 vb hvb hb2; rw [HSL.out] at hvb; have HVb := Lib.hid hvb; have HB2 := Lib.hid hb2; clear hvb hb2)
  go_loopg [3, 4, 5] L.length (fun g v3 v4 v5 wr => ∃ (r out : List UInt8), r.length ≤ g ∧ r.length ≤ L.length ∧ out.length + 17 * r.length ≤ 17 * L.length ∧ Hid (nzArg w2 v4 r) ∧
    Hid (wr.ownsRow w2.heap.size 5 1 v3 out.length (out.map byteV)) ∧ Hid (encodeL L = restE out r) ∧ Hid (Below w2.heap.size w2 wr))
  case atStart => exact ⟨L, [], Nat.le_refl _, Nat.le_refl _, by simp, HVb.out, World.ownsRow_nil _ _ _ _, rfl, Below.refl _ _⟩
  case round =>
    obtain ⟨r, out, hrg, hrl, hout, HR, HO, HE, HB⟩ := hrel
    by_cases h0 : 0 < r.length
    · rcases HR.out.at with ⟨rfl, rfl⟩ | ⟨b, off, cap, rfl, hc1, hc2, hs⟩
      · simp at h0
      · unfold maxLen at hc2
        have HRne : Hid (r ≠ []) := List.length_pos_iff.1 h0
        obtain ⟨n, hn⟩ : ∃ n, n = takenN r := ⟨_, rfl⟩
        have HN := Lib.hid hn
        have hn0 : 0 < n := by rw [hn]; exact takenN_pos HRne.out
        have hnl : n ≤ r.length ∧ n ≤ 45 := by rw [hn]; exact takenN_le r
        have HPs := Lib.hid (piece_step HRne.out hn hout)
        have hsl := sepE_len out
        have HS := Lib.hid hs
        obtain ⟨ao3, cp3, rfl, hcp3, hcm3⟩ := ownsRow_val HO.out
        clear hn hs
        go_upto_if 13 with fail
        go_cut [3] (fun s3 wx => Hid (wx.ownsRow w2.heap.size 5 1 s3 (sepE out).length ((sepE out).map byteV)) ∧ Hid (Below w2.heap.size w2 wx))
        case first =>
          by_cases ho : out = []
          · subst ho
            have HO0 : Hid (wr.ownsRow w2.heap.size 5 1 (.slice ao3 0 cp3) (sepE []).length ((sepE []).map byteV)) := HO.out
            simp only [List.length_nil]
            go_wp2_with fail
            go_meet
            exact ⟨HO0, HB⟩
          · have hlo : 0 < out.length := List.length_pos_iff.2 ho
            have hloi : (0 : Int) < (out.length : Int) := by omega
            have HSe : Hid (sepE out = out ++ [32]) := by unfold Hid sepE; rw [if_neg ho]
            clear ho
            go_wp2_with (at_builtin; refine wpList_append_own _ rfl _ _ 26 rfl w2.heap.size 5 i0 (.int .u8 0) 1 1 Tryd.underlying26 hi hz0 hz1 hz2 rfl (by decide) _ _ _ rfl (HO.out.alloc _) ⟨wr.heap.size, 0, none⟩ 1 1 [byteV 32] rfl rfl ?c1 ?c2 ?c3 ?c4 ?c5 ?_)
            case c1 => exact (sliceAt_new wr _ _ #[.int .u8 32] [32] rfl).news
            case c2 => exact news_one [32]
            case c3 => unfold maxLen; omega
            case c4 => omega
            case c5 => simp; have := HB.out.size; omega
            intro v5 w5 hown5 hgrow5 _
            have HB5 : Hid (Below w2.heap.size w2 w5) := (HB.out.alloc (by have := HB.out.size; omega) _).grown hgrow5 (by have := HB.out.size; simp; omega) (fun q hq => (HO.out.lt q hq).1)
            have HO5 := Lib.hid hown5
            clear hown5 hgrow5
            go_wp2
            go_meet
            exact ⟨own_cast HO5.out (by rw [HSe.out]; simp) (by rw [HSe.out]; simp), HB5⟩
        case rest =>
          obtain ⟨HO2, HB3⟩ := hcut
          have hpl := pieceL_len (r.take n)
          rw [List.length_take, Nat.min_eq_left hnl.1] at hpl
          have hel := enc_len (r.take n)
          rw [List.length_take, Nat.min_eq_left hnl.1] at hel
          have HT1 := Lib.hid (HTk.out (.slice (some ⟨b, off, none⟩) r.length cap) r wc (HR.out.below HB3.out).1 (by omega))
          rw [← HN.out] at HT1
          have HRn : Hid (nzArg w2 (Lib.sliceFrom b off r.length cap n) (r.drop n)) := nzArg_from rfl HS.out hnl.1 hc1 (by unfold maxLen; omega)
          unfold Lib.sliceFrom at HRn
          have hta : bytesArg w2 (.slice (some ⟨b, off, none⟩) n n) (r.take n) := by
            have e : (r.take n).length = n := by rw [List.length_take]; omega
            have := sliceAt.arg (cap := n) (HS.out.take n) (by omega) (by unfold maxLen; omega)
            rw [e] at this
            exact this
          have HTa := Lib.hid hta
          obtain ⟨E, hE⟩ : ∃ E, E = encS (r.take n) := ⟨_, rfl⟩
          have HE1 := Lib.hid hE
          rw [← hE] at hel
          have hel2 : E.length ≤ 64 := by rw [hel]; omega
          clear hel hpl
          have hcap2 : n ≤ cap := by omega
          have hnn : n ≤ n := Nat.le_refl n
          clear hta hE
          go_wp2_with fail
          with_reducible refine HT1.out.mono ?_
          rintro e w' ⟨rfl, rfl⟩
          go_wp2_with (at_builtin; refine Lib.wpList_append_own_string _ rfl _ _ 26 9 rfl w2.heap.size 5 i0 Tryd.underlying26 Tryd.underlying9 hi hz0 hz1 hz2 _ _ _ rfl HO2.out ⟨#[61, 63, 117, 116, 102, 45, 56, 63, 66, 63]⟩ rfl ?c3 ?c4 ?c5 ?_)
          case c3 => show _ + 10 ≤ maxLen; unfold maxLen; omega
          case c4 => show _ + 10 ≤ _; omega
          case c5 => exact HB3.out.size
          intro v5 w5 hown5 hgrow5 _
          have HB5 : Hid (Below w2.heap.size w2 w5) := HB3.out.grown hgrow5 HB3.out.size (fun q hq => (HO2.out.lt q hq).1)
          have HO5 : Hid (w5.ownsRow w2.heap.size 5 1 v5 (sepE out ++ openW).length ((sepE out ++ openW).map byteV)) := by
            refine own_cast hown5 ?_ ?_
            · show (sepE out).length + 10 = _; rw [List.length_append]; rfl
            · rw [List.map_append]; rfl
          have hol : (sepE out ++ openW).length = (sepE out).length + 10 := by rw [List.length_append]; rfl
          clear hown5 hgrow5
          go_wp2_with fail
          with_reducible refine (HEc.out _ (r.take n) w5 ?h1 ?h2 ?h3).mono ?_
          case h1 => exact HTa.out.below HB5.out
          case h2 => rw [List.length_take]; omega
          case h3 => exact (HEn.out.below (HB2.out.trans (HB5.out.mono HB2.out.size))).2.1
          rintro e w6 ⟨u, rfl, hown6, hb6⟩
          have e0 : lineS 0 (encS (r.take n)) = E := by unfold lineS; rw [if_neg (by decide), HE1.out]
          rw [e0] at hown6
          obtain ⟨aou, cpu, rfl, _, _, hsu⟩ := bytesArg_owned hown6
          have HSu := Lib.hid hsu
          have HB6 := Lib.hid (HB5.out.trans (hb6.mono HB5.out.size))
          have HO6 := Lib.hid (ownsRow_below HO5.out hb6)
          clear hsu hown6 hb6 e0
          go_wp2_with (at_builtin; refine wpList_append_bytes rfl _ _ 26 rfl w2.heap.size 5 i0 Tryd.underlying26 hi hz0 hz1 hz2 _ _ _ rfl HO6.out aou cpu E rfl HSu.out ?d1 ?d2 ?_)
          case d1 => omega
          case d2 => exact HB6.out.size
          intro v7 w7 hown7 hgrow7
          have HB7 : Hid (Below w2.heap.size w2 w7) := HB6.out.grown hgrow7 HB6.out.size (fun q hq => (HO6.out.lt q hq).1)
          have HO7 : Hid (w7.ownsRow w2.heap.size 5 1 v7 (sepE out ++ openW ++ E).length ((sepE out ++ openW ++ E).map byteV)) := by
            refine own_cast hown7 ?_ ?_
            · rw [List.length_append, List.length_append]; rfl
            · simp
          have hol7 : (sepE out ++ openW ++ E).length = (sepE out).length + 10 + E.length := by rw [List.length_append, hol]
          clear hown7 hgrow7
          go_wp2_with (at_builtin; refine Lib.wpList_append_own_string _ rfl _ _ 26 9 rfl w2.heap.size 5 i0 Tryd.underlying26 Tryd.underlying9 hi hz0 hz1 hz2 _ _ _ rfl HO7.out ⟨#[63, 61]⟩ rfl ?c3 ?c4 ?c5 ?_)
          case c3 => show _ + 2 ≤ maxLen; unfold maxLen; omega
          case c4 => show _ + 2 ≤ _; omega
          case c5 => exact HB7.out.size
          intro v8 w8 hown8 hgrow8 _
          have HB8 : Hid (Below w2.heap.size w2 w8) := HB7.out.grown hgrow8 HB7.out.size (fun q hq => (HO7.out.lt q hq).1)
          have HPc : Hid (sepE out ++ pieceL (r.take n) = sepE out ++ openW ++ E ++ [63, 61]) := by unfold Hid pieceL; rw [HE1.out]; simp
          have HO8 : Hid (w8.ownsRow w2.heap.size 5 1 v8 (sepE out ++ pieceL (r.take n)).length ((sepE out ++ pieceL (r.take n)).map byteV)) := by
            rw [HPc.out]
            refine own_cast hown8 ?_ ?_
            · rw [List.length_append, List.length_append, List.length_append]; show _ = (sepE out).length + openW.length + E.length + 2; omega
            · rw [List.map_append, List.map_append, List.map_append]; simp; rfl
          have HRs : Hid (restE out r = restE (sepE out ++ pieceL (r.take n)) (r.drop n)) := by
            have := restE_step out HRne.out
            rw [← HN.out] at this
            exact this
          clear hown8 hgrow8
          by_cases hcap : cap = n
          · rw [if_pos hcap] at HRn
            subst hcap
            go_wp2_with fail
            go_roundg (r.length - cap)
            case measure => omega
            case rel =>
              refine ⟨r.drop cap, _, by rw [List.length_drop]; exact Nat.le_refl _, by rw [List.length_drop]; omega, HPs.out, ?_, HO8, by unfold Hid; rw [HE.out, HRs.out], HB8⟩
              have e := HRn.out
              have e0 : r.length - cap = 0 := by omega
              unfold Hid
              simpa [e0] using e
          · rw [if_neg hcap] at HRn
            have hlt : n < cap := by omega
            go_wp2_with fail
            go_roundg (r.length - n)
            case measure => omega
            case rel =>
              exact ⟨r.drop n, _, by rw [List.length_drop]; exact Nat.le_refl _, by rw [List.length_drop]; omega, HPs.out, HRn, HO8, by unfold Hid; rw [HE.out, HRs.out], HB8⟩
    · obtain rfl : r = [] := List.eq_nil_of_length_eq_zero (by omega)
      have HX : Hid (encodeL L = out) := by unfold Hid; rw [HE.out, restE_nil]
      have HStr := Lib.hid (run_string_of_owned Tryd.underlying26 Tryd.underlying5 Tryd.underlying9 HO.out)
      have hconv := HStr.out
      obtain ⟨ao4, cp4, rfl, _, _⟩ := HR.out.1
      go_wp2_with fail
      go_ret
      exact ⟨by rw [HX.out]; rfl, HB2.out.trans (HB.out.mono HB2.out.size)⟩
end Go.Proofs.YtolkjaebhhbilaaDoor
