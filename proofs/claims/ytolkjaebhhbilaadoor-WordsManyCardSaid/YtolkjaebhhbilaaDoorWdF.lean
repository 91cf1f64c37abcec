/- Contracts of package words: Word, Decode. -/
import Derived.Test.YtolkjaebhhbilaaDoorWdE
import Derived.Test.YtolkjaebhhbilaaDoorWdO
import Derived.Lib.AppendStr
namespace Go.Proofs.YtolkjaebhhbilaaDoor
open Go Go.RowKit Go.Maps

theorem wpList_conv_nz {P : Program} {ops : Array Oper} {rest : List Oper} {o : Oper} {a : Act} {w : World} {Q : Exit → Act → World → Prop} (hgd : o.guard = none) (x : Operand) (src dst e : TypeId) (ho : o.op = .convert src dst x)
    (s : ByteArray) (hx : a.eval x = .string s) (hsz : s.size ≤ maxLen) (hs : P.underlying src = some .string) (hd : P.underlying dst = some (.slice e)) (he : P.underlying e = some (.int .u8))
    (h : ∀ W1 v, nzArg W1 v s.data.toList → Below w.heap.size w W1 → wpList P ops Q rest (a.put o.dst v) W1) : wpList P ops Q (o :: rest) a w := by
  obtain ⟨W1, cap, hrun, hb1, hb⟩ := conv_bytesArg (P := P) w src dst e s hsz hs hd he
  refine wpList_plain hgd fun K hK' => ?_
  unfold Oper.wp
  simp [execOp, ho, hx, hrun, Result.andThen]
  exact hK' _ _ (h W1 _ ⟨hb1, .inr ⟨_, _, _, _, rfl⟩⟩ hb)
theorem wordV_two (o : Option (List UInt8 × Nat)) : ∃ (S : ByteArray) (n : Int), wordV o = .tuple #[.string S, .int .i64 n] := by
  cases o with
  | none => exact ⟨_, _, rfl⟩
  | some x => exact ⟨_, _, rfl⟩
set_option maxRecDepth 100000 in
set_option maxHeartbeats 1000000 in
theorem Word_any (s : ByteArray) (w : World) (hl : s.size ≤ 100000) (hE : env w) :
    Calls Tryd.prog 11 #[.string s] w fun e w' => e = .returned (wordV (ewL s.data.toList)) ∧ Below w.heap.size w w' := by
  have HEn := Lib.hid hE
  have HRs := Lib.hid readers_any
  have HWo := Lib.hid (fun v m W h1 h2 h3 => word_any v m s.data.toList W h1 h2 (by rw [len_toList]; exact hl) h3)
  obtain ⟨S, n, hS⟩ := wordV_two (ewL s.data.toList)
  have hsm : s.size ≤ maxLen := by unfold maxLen; omega
  have HSm := Lib.hid hsm
  rw [hS] at HWo ⊢
  clear hE hS hsm
  go_enter Tryd.func11, Tryd.ntmps11
  go_wp2_with (refine wpList_conv_nz rfl (.tmp 4) 9 26 5 rfl s rfl HSm.out Tryd.underlying9 Tryd.underlying26 Tryd.underlying5 ?_; intro w1 v hv hb1; have HV := Lib.hid hv; have HB1 := Lib.hid hb1; clear hv hb1)
  with_reducible refine (HRs.out _).mono ?_
  rintro e w2 ⟨m, rfl, hm, hb2⟩
  have HB2 := Lib.hid (HB1.out.trans (hb2.mono HB1.out.size))
  have HW2 := Lib.hid (HWo.out v m w2 (HV.out.below hb2) hm (HEn.out.below HB2.out))
  clear hm hb2
  go_wp2_with fail
  with_reducible refine HW2.out.mono ?_
  rintro e w3 ⟨rfl, hb3⟩
  have HB3 := Lib.hid (HB2.out.trans (hb3.mono HB2.out.size))
  clear hb3
  go_wp2_with fail
  go_ret2
  exact ⟨rfl, HB3.out⟩

/-! ### Decode -/
theorem ownsRow_cut {w : World} {base n k cap : Nat} {ao : Option Addr} {e : TypeId} {xs : List Value} (h : w.ownsRow base e 1 (.slice ao n cap) n xs) (hk : k ≤ n) : w.ownsRow base e 1 (.slice ao k cap) k (xs.take k) := by
  refine ⟨by have := h.1; rw [List.length_take]; omega, ?_⟩
  rcases h.2 with ⟨h1, h2⟩ | ⟨g, cap', cur, h1, h2, h3, h4, h5, h6, h7⟩
  · obtain ⟨rfl, _, rfl⟩ := Value.slice.inj h1
    obtain rfl : k = 0 := by omega
    exact .inl ⟨rfl, rfl⟩
  · obtain ⟨rfl, _, rfl⟩ := Value.slice.inj h1
    refine .inr ⟨g, cap, cur, rfl, h2, h3, by omega, h5, h6, ?_⟩
    rw [← h7, List.take_take, Nat.mul_one, Nat.mul_one, Nat.min_eq_left hk]
theorem ownsRow_val {w : World} {base n : Nat} {e : TypeId} {v : Value} {xs : List Value} (h : w.ownsRow base e 1 v n xs) : ∃ ao cap, v = .slice ao n cap ∧ n ≤ cap ∧ cap ≤ maxLen := by
  rcases h.2 with ⟨h1, h2⟩ | ⟨g, cap', cur, h1, h2, h3, h4, h5, h6, h7⟩
  · exact ⟨none, 0, by rw [h1, h2], by omega, Nat.zero_le _⟩
  · exact ⟨_, _, h1, h4, h5⟩
def endedV (st : Option (List UInt8)) (out : List UInt8) : Int := match st with | none => -1 | some _ => (out.length : Int)
theorem enc8_all : ∀ l : List UInt8, (l.flatMap enc8).length ≤ 2 * l.length
  | [] => Nat.le_refl _
  | c :: l => by
    have := enc8_all l
    have := enc8_len c
    rw [List.flatMap_cons, List.length_append, List.length_cons]
    omega
theorem textK_len2 {k : Nat} {l t : List UInt8} (h : textK k l = some t) : t.length ≤ 2 * l.length := by
  unfold textK at h
  split at h
  · cases h
  · split at h
    · split at h
      · cases h; omega
      · cases h
    · unfold textM at h
      split at h
      · cases h; exact enc8_all l
      · cases h
theorem cons_of_pos {r : List UInt8} (h : 0 < r.length) : ∃ c r', r = c :: r' := by
  match r, h with
  | c :: r', _ => exact ⟨c, r', rfl⟩
theorem textW_len {nm tx t : List UInt8} {c : UInt8} (h : textW nm c tx = some t) : t.length ≤ 2 * tx.length := by
  unfold textW at h
  obtain ⟨b, hb, ht⟩ := Option.bind_eq_some_iff.1 h
  have h1 := readL_len hb
  have h2 := textK_len2 ht
  omega
theorem ewL_text {l t : List UInt8} {n : Nat} (h : ewL l = some (t, n)) : t.length ≤ 2 * n := by
  obtain ⟨nm, c, tx, r, e, _, _, _, _, ht, hn⟩ := ewL_parts h
  have := textW_len ht
  rw [e] at hn
  simp at hn
  omega
set_option maxRecDepth 100000 in
set_option maxHeartbeats 4000000 in
theorem Decode_any (s : ByteArray) (w : World) (hl : s.size ≤ 100000) (hE : env w) :
    Calls Tryd.prog 10 #[.string s] w fun e w' => e = .returned (.string ⟨(decM none s.data.toList).toArray⟩) ∧ Below w.heap.size w w' := by
  obtain ⟨i0, hi, hz0, hz1, hz2⟩ := info_parts Tryd.infoB
  have HEn := Lib.hid hE
  have HRs := Lib.hid readers_any
  have HWo := Lib.hid (fun v m (r : List UInt8) W h1 h2 (h3 : r.length ≤ 100000) h4 => word_any v m r W h1 h2 h3 h4)
  have HBk := Lib.hid blank_bool
  obtain ⟨L, hL⟩ : ∃ L, L = s.data.toList := ⟨_, rfl⟩
  have hLl : L.length ≤ 100000 := by rw [hL, len_toList]; exact hl
  have HSL : Hid (s.data.toList = L) := hL.symm
  have hsm : s.size ≤ maxLen := by unfold maxLen; omega
  have HSm := Lib.hid hsm
  rw [HSL.out]
  clear hE hsm hL
  go_enter Tryd.func10, Tryd.ntmps10
  go_wp2_with fail
  with_reducible refine (HRs.out _).mono ?_
  rintro e w1 ⟨m, rfl, hm, hb1⟩
  have HM := Lib.hid hm
  have HB1 := Lib.hid hb1
  clear hm hb1
  go_wp2_with (refine wpList_conv_nz rfl (.tmp 10) 9 26 5 rfl s rfl HSm.out Tryd.underlying9 Tryd.underlying26 Tryd.underlying5 ?_; intro w2 vb hvb hb2; rw [HSL.out] at hvb; have HVb := Lib.hid hvb; have HM2 := Lib.hid (HM.out.below hb2); have HB2 := Lib.hid (HB1.out.trans (hb2.mono HB1.out.size)); clear hvb hb2)
  go_loopg [4, 5, 6, 7, 8] L.length (fun g v4 v5 v6 v7 v8 wr => ∃ (r out : List UInt8) (st : Option (List UInt8)), r.length ≤ g ∧ r.length ≤ L.length ∧ v5 = .int .i64 (endedV st out) ∧ (out ++ st.getD []).length + 2 * r.length ≤ 2 * L.length ∧ Hid (nzArg w2 v6 r) ∧
    Hid (wr.ownsRow w2.heap.size 5 1 v4 (out ++ st.getD []).length ((out ++ st.getD []).map byteV)) ∧ Hid (decM none L = out ++ decM st r) ∧ Hid (Below w2.heap.size w2 wr))
  case atStart => exact ⟨L, [], none, Nat.le_refl _, Nat.le_refl _, rfl, by simp, HVb.out, World.ownsRow_nil _ _ _ _, rfl, Below.refl _ _⟩
  case round =>
    obtain ⟨r, out, st, hrg, hrl, rfl, hout, HR, HO, HE, HB⟩ := hrel
    have HW2B : Hid (w2.heap.size ≤ wr.heap.size) := HB.out.size
    rcases HR.out.at with ⟨rfl, rfl⟩ | ⟨b, off, cap, rfl, hc1, hc2, hs⟩
    · have HX : Hid (decM none L = out ++ st.getD []) := HE.out
      have HStr := Lib.hid (run_string_of_owned Tryd.underlying26 Tryd.underlying5 Tryd.underlying9 HO.out)
      have hconv := HStr.out
      go_wp2_with fail
      go_ret
      exact ⟨by rw [HX.out]; rfl, HB2.out.trans (HB.out.mono HB2.out.size)⟩
    · unfold maxLen at hc2
      by_cases h0 : 0 < r.length
      · have HWd := Lib.hid (HWo.out _ m r wr (HR.out.below HB.out) (HM2.out.below HB.out) (by omega) (HEn.out.below (HB2.out.trans (HB.out.mono HB2.out.size))))
        cases hq : ewL r with
        | some x =>
          obtain ⟨t, k⟩ := x
          have hk := ewL_len hq
          have htl := ewL_text hq
          rw [hq] at HWd
          have HD := Lib.hid (decM_word st hq)
          have HRn : Hid (nzArg w2 (Lib.sliceFrom b off r.length cap k) (r.drop k)) := nzArg_from rfl hs hk.2 hc1 (by unfold maxLen; omega)
          unfold wordV at HWd
          clear hq hs
          have hki : (0 : Int) < (k : Int) := by omega
          cases st with
          | none =>
            have HO0 := Lib.hid (own_cast (n' := out.length) (ys := out.map byteV) HO.out (by simp) (by simp))
            simp only [endedV]
            simp only [Option.getD_none, List.append_nil] at hout
            clear HO
            go_wp2_with fail
            with_reducible refine HWd.out.mono ?_
            rintro e w3 ⟨rfl, hb3⟩
            have HB3 := Lib.hid (HB.out.trans (hb3.mono HB.out.size))
            have HO3 := Lib.hid (ownsRow_below HO0.out hb3)
            clear hb3
            go_wp2_with (at_builtin; refine Lib.wpList_append_own_string _ rfl _ _ 26 9 rfl w2.heap.size 5 i0 Tryd.underlying26 Tryd.underlying9 hi hz0 hz1 hz2 _ _ _ rfl HO3.out ⟨t.toArray⟩ rfl ?c3 ?c4 ?c5 ?_)
            case c3 => show _ + t.length ≤ maxLen; unfold maxLen; omega
            case c4 => show _ + t.length ≤ _; omega
            case c5 => exact HB3.out.size
            intro v5 w5 hown5 hgrow5 _
            have HB5 : Hid (Below w2.heap.size w2 w5) := HB3.out.grown hgrow5 HB3.out.size (fun q hq => (HO3.out.lt q hq).1)
            have HO5 : Hid (w5.ownsRow w2.heap.size 5 1 v5 (out ++ t).length ((out ++ t).map byteV)) := by
              refine own_cast hown5 ?_ ?_
              · show out.length + t.length = _; rw [List.length_append]
              · rw [List.map_append]; rfl
            clear hown5 hgrow5
            obtain ⟨ao5, cp5, rfl, _, _⟩ := ownsRow_val HO5.out
            unfold Lib.sliceFrom at HRn
            by_cases hcap : cap = k
            · rw [if_pos hcap] at HRn
              subst hcap
              go_wp2_with fail
              go_roundg (r.length - cap)
              case measure => omega
              case rel =>
                refine ⟨r.drop cap, out ++ t, some [], by rw [List.length_drop]; exact Nat.le_refl _, by rw [List.length_drop]; omega, by show _ = Value.int .i64 (((out ++ t).length : Nat) : Int); congr 1; simp, by rw [List.length_drop]; simp; try omega, ?_, by unfold Hid; simpa using HO5.out, by unfold Hid; rw [HE.out, HD.out, List.append_assoc], HB5⟩
                have e := HRn.out
                have e0 : r.length - cap = 0 := by omega
                unfold Hid
                simpa [e0] using e
            · rw [if_neg hcap] at HRn
              have hlt : k < cap := by omega
              go_wp2_with fail
              go_roundg (r.length - k)
              case measure => omega
              case rel =>
                refine ⟨r.drop k, out ++ t, some [], by rw [List.length_drop]; exact Nat.le_refl _, by rw [List.length_drop]; omega, by show _ = Value.int .i64 (((out ++ t).length : Nat) : Int); congr 1; simp, by rw [List.length_drop]; simp; try omega, HRn, by unfold Hid; simpa using HO5.out, by unfold Hid; rw [HE.out, HD.out, List.append_assoc], HB5⟩
          | some q =>
            obtain ⟨ao4, cp4, rfl, hcp4, hcm4⟩ := ownsRow_val HO.out
            unfold maxLen at hcm4
            have HO0 : Hid (wr.ownsRow w2.heap.size 5 1 (.slice ao4 out.length cp4) out.length (out.map byteV)) := own_cast (ownsRow_cut HO.out (k := out.length) (by simp)) rfl (by simp)
            simp only [endedV]
            simp only [Option.getD_some, List.length_append] at hout hcp4 ⊢
            have hol : out.length ≤ cp4 := by omega
            clear HO
            go_wp2_with fail
            with_reducible refine HWd.out.mono ?_
            rintro e w3 ⟨rfl, hb3⟩
            have HB3 := Lib.hid (HB.out.trans (hb3.mono HB.out.size))
            have HO3 := Lib.hid (ownsRow_below HO0.out hb3)
            clear hb3
            go_wp2_with (at_builtin; refine Lib.wpList_append_own_string _ rfl _ _ 26 9 rfl w2.heap.size 5 i0 Tryd.underlying26 Tryd.underlying9 hi hz0 hz1 hz2 _ _ _ rfl HO3.out ⟨t.toArray⟩ rfl ?c3 ?c4 ?c5 ?_)
            case c3 => show _ + t.length ≤ maxLen; unfold maxLen; omega
            case c4 => show _ + t.length ≤ _; omega
            case c5 => exact HB3.out.size
            intro v5 w5 hown5 hgrow5 _
            have HB5 : Hid (Below w2.heap.size w2 w5) := HB3.out.grown hgrow5 HB3.out.size (fun q hq => (HO3.out.lt q hq).1)
            have HO5 : Hid (w5.ownsRow w2.heap.size 5 1 v5 (out ++ t).length ((out ++ t).map byteV)) := by
              refine own_cast hown5 ?_ ?_
              · show out.length + t.length = _; rw [List.length_append]
              · rw [List.map_append]; rfl
            clear hown5 hgrow5
            obtain ⟨ao5, cp5, rfl, _, _⟩ := ownsRow_val HO5.out
            unfold Lib.sliceFrom at HRn
            by_cases hcap : cap = k
            · rw [if_pos hcap] at HRn
              subst hcap
              go_wp2_with fail
              go_roundg (r.length - cap)
              case measure => omega
              case rel =>
                refine ⟨r.drop cap, out ++ t, some [], by rw [List.length_drop]; exact Nat.le_refl _, by rw [List.length_drop]; omega, by show _ = Value.int .i64 (((out ++ t).length : Nat) : Int); congr 1; simp, by rw [List.length_drop]; simp; try omega, ?_, by unfold Hid; simpa using HO5.out, by unfold Hid; rw [HE.out, HD.out, List.append_assoc], HB5⟩
                have e := HRn.out
                have e0 : r.length - cap = 0 := by omega
                unfold Hid
                simpa [e0] using e
            · rw [if_neg hcap] at HRn
              have hlt : k < cap := by omega
              go_wp2_with fail
              go_roundg (r.length - k)
              case measure => omega
              case rel =>
                refine ⟨r.drop k, out ++ t, some [], by rw [List.length_drop]; exact Nat.le_refl _, by rw [List.length_drop]; omega, by show _ = Value.int .i64 (((out ++ t).length : Nat) : Int); congr 1; simp, by rw [List.length_drop]; simp; try omega, HRn, by unfold Hid; simpa using HO5.out, by unfold Hid; rw [HE.out, HD.out, List.append_assoc], HB5⟩
        | none =>
          rw [hq] at HWd
          unfold wordV at HWd
          obtain ⟨c, r', rfl⟩ := cons_of_pos h0
          rcases hs with e | ⟨b', off', e, hb, hcell⟩
          · cases e
          cases e
          have hcb : w2.cell? ⟨b, off, none⟩ = some (.int .u8 (c.toNat : Int)) := hcell 0 (by simp)
          have HRn : Hid (nzArg w2 (Lib.sliceFrom b off (c :: r').length cap 1) ((c :: r').drop 1)) := nzArg_from rfl (.inr ⟨b, off, rfl, hb, hcell⟩) (by simp) hc1 (by unfold maxLen; omega)
          unfold Lib.sliceFrom at HRn
          have HBc := Lib.hid (fun W => HBk.out c W)
          clear hcell
          simp only [List.length_cons] at hrg hrl hc1 hout h0 HWd ⊢
          cases hbl : blk c with
          | true =>
            rw [hbl] at HBc
            cases st with
            | none =>
              have HD := Lib.hid (decM_out hq)
              simp only [endedV, Option.getD_none, List.append_nil] at hout HO ⊢
              clear hq hbl
              go_wp2_with fail
              with_reducible refine HWd.out.mono ?_
              rintro e w3 ⟨rfl, hb3⟩
              have HB3 := Lib.hid (HB.out.trans (hb3.mono HB.out.size))
              have HO3 := Lib.hid (ownsRow_below HO.out hb3)
              have hc0 : w3.cell? ⟨b, off, none⟩ = some (.int .u8 (c.toNat : Int)) := (HB3.out.cell (p := ⟨b, off, none⟩) hb).trans hcb
              clear hb3 hcb
              go_wp2_with (first
                | (go_at_call 18; refine (HBc.out w3).mono ?_; rintro e w' ⟨rfl, rfl⟩)
                | (at_builtin; refine wpList_append_own _ rfl _ _ 26 rfl w2.heap.size 5 i0 (.int .u8 0) 1 1 Tryd.underlying26 hi hz0 hz1 hz2 rfl (by decide) _ _ _ rfl (HO3.out.alloc _) ⟨w3.heap.size, 0, none⟩ 1 1 [byteV c] rfl rfl ?c1 ?c2 ?c3 ?c4 ?c5 ?_))
              case c1 => exact (sliceAt_new w3 _ _ #[.int .u8 (c.toNat : Int)] [c] rfl).news
              case c2 => exact news_one [c]
              case c3 => unfold maxLen; omega
              case c4 => omega
              case c5 => simp; have := HB3.out.size; omega
              intro v5 w5 hown5 hgrow5 _
              have HB5 : Hid (Below w2.heap.size w2 w5) := (HB3.out.alloc (by have := HB3.out.size; omega) _).grown hgrow5 (by have := HB3.out.size; simp; omega) (fun q hq => (HO3.out.lt q hq).1)
              have HO5 := Lib.hid hown5
              clear hown5 hgrow5
              by_cases hcap : cap = 1
              · rw [if_pos hcap] at HRn
                subst hcap
                obtain rfl : r' = [] := List.eq_nil_of_length_eq_zero (by omega)
                go_wp2_with fail
                go_roundg 0
                case measure => omega
                case rel =>
                  refine ⟨[], out ++ [c], none, by simp, by simp, rfl, by (simp at hout ⊢) <;> omega, by unfold Hid; simpa using HRn.out, own_cast HO5.out (by simp; try omega) (by simp), by unfold Hid; rw [HE.out, HD.out]; (try simp), HB5⟩
              · rw [if_neg hcap] at HRn
                go_wp2_with fail
                go_roundg r'.length
                case measure => omega
                case rel =>
                  refine ⟨r', out ++ [c], none, Nat.le_refl _, by omega, rfl, by (simp at hout ⊢) <;> omega, by unfold Hid; simpa using HRn.out, own_cast HO5.out (by simp; try omega) (by simp), by unfold Hid; rw [HE.out, HD.out]; (try simp), HB5⟩
            | some q =>
              have HD := Lib.hid (decM_blank q hq hbl)
              simp only [endedV, Option.getD_some] at hout HO ⊢
              clear hq hbl
              go_wp2_with fail
              with_reducible refine HWd.out.mono ?_
              rintro e w3 ⟨rfl, hb3⟩
              have HB3 := Lib.hid (HB.out.trans (hb3.mono HB.out.size))
              have HO3 := Lib.hid (ownsRow_below HO.out hb3)
              have hc0 : w3.cell? ⟨b, off, none⟩ = some (.int .u8 (c.toNat : Int)) := (HB3.out.cell (p := ⟨b, off, none⟩) hb).trans hcb
              clear hb3 hcb
              go_wp2_with (first
                | (go_at_call 18; refine (HBc.out w3).mono ?_; rintro e w' ⟨rfl, rfl⟩)
                | (at_builtin; refine wpList_append_own _ rfl _ _ 26 rfl w2.heap.size 5 i0 (.int .u8 0) 1 1 Tryd.underlying26 hi hz0 hz1 hz2 rfl (by decide) _ _ _ rfl (HO3.out.alloc _) ⟨w3.heap.size, 0, none⟩ 1 1 [byteV c] rfl rfl ?c1 ?c2 ?c3 ?c4 ?c5 ?_))
              case c1 => exact (sliceAt_new w3 _ _ #[.int .u8 (c.toNat : Int)] [c] rfl).news
              case c2 => exact news_one [c]
              case c3 => unfold maxLen; omega
              case c4 => omega
              case c5 => simp; have := HB3.out.size; omega
              intro v5 w5 hown5 hgrow5 _
              have HB5 : Hid (Below w2.heap.size w2 w5) := (HB3.out.alloc (by have := HB3.out.size; omega) _).grown hgrow5 (by have := HB3.out.size; simp; omega) (fun q hq => (HO3.out.lt q hq).1)
              have HO5 := Lib.hid hown5
              clear hown5 hgrow5
              by_cases hcap : cap = 1
              · rw [if_pos hcap] at HRn
                subst hcap
                obtain rfl : r' = [] := List.eq_nil_of_length_eq_zero (by omega)
                go_wp2_with fail
                go_roundg 0
                case measure => omega
                case rel =>
                  refine ⟨[], out, some (q ++ [c]), by simp, by simp, rfl, by (simp at hout ⊢) <;> omega, by unfold Hid; simpa using HRn.out, own_cast HO5.out (by simp; try omega) (by simp), by unfold Hid; rw [HE.out, HD.out]; (try simp), HB5⟩
              · rw [if_neg hcap] at HRn
                go_wp2_with fail
                go_roundg r'.length
                case measure => omega
                case rel =>
                  refine ⟨r', out, some (q ++ [c]), Nat.le_refl _, by omega, rfl, by (simp at hout ⊢) <;> omega, by unfold Hid; simpa using HRn.out, own_cast HO5.out (by simp; try omega) (by simp), by unfold Hid; rw [HE.out, HD.out]; (try simp), HB5⟩
          | false =>
            rw [hbl] at HBc
            cases st with
            | none =>
              have HD := Lib.hid (decM_out hq)
              simp only [endedV, Option.getD_none, List.append_nil] at hout HO ⊢
              clear hq hbl
              go_wp2_with fail
              with_reducible refine HWd.out.mono ?_
              rintro e w3 ⟨rfl, hb3⟩
              have HB3 := Lib.hid (HB.out.trans (hb3.mono HB.out.size))
              have HO3 := Lib.hid (ownsRow_below HO.out hb3)
              have hc0 : w3.cell? ⟨b, off, none⟩ = some (.int .u8 (c.toNat : Int)) := (HB3.out.cell (p := ⟨b, off, none⟩) hb).trans hcb
              clear hb3 hcb
              go_wp2_with (first
                | (go_at_call 18; refine (HBc.out w3).mono ?_; rintro e w' ⟨rfl, rfl⟩)
                | (at_builtin; refine wpList_append_own _ rfl _ _ 26 rfl w2.heap.size 5 i0 (.int .u8 0) 1 1 Tryd.underlying26 hi hz0 hz1 hz2 rfl (by decide) _ _ _ rfl (HO3.out.alloc _) ⟨w3.heap.size, 0, none⟩ 1 1 [byteV c] rfl rfl ?c1 ?c2 ?c3 ?c4 ?c5 ?_))
              case c1 => exact (sliceAt_new w3 _ _ #[.int .u8 (c.toNat : Int)] [c] rfl).news
              case c2 => exact news_one [c]
              case c3 => unfold maxLen; omega
              case c4 => omega
              case c5 => simp; have := HB3.out.size; omega
              intro v5 w5 hown5 hgrow5 _
              have HB5 : Hid (Below w2.heap.size w2 w5) := (HB3.out.alloc (by have := HB3.out.size; omega) _).grown hgrow5 (by have := HB3.out.size; simp; omega) (fun q hq => (HO3.out.lt q hq).1)
              have HO5 := Lib.hid hown5
              clear hown5 hgrow5
              by_cases hcap : cap = 1
              · rw [if_pos hcap] at HRn
                subst hcap
                obtain rfl : r' = [] := List.eq_nil_of_length_eq_zero (by omega)
                go_wp2_with fail
                go_roundg 0
                case measure => omega
                case rel =>
                  refine ⟨[], out ++ [c], none, by simp, by simp, rfl, by (simp at hout ⊢) <;> omega, by unfold Hid; simpa using HRn.out, own_cast HO5.out (by simp; try omega) (by simp), by unfold Hid; rw [HE.out, HD.out]; (try simp), HB5⟩
              · rw [if_neg hcap] at HRn
                go_wp2_with fail
                go_roundg r'.length
                case measure => omega
                case rel =>
                  refine ⟨r', out ++ [c], none, Nat.le_refl _, by omega, rfl, by (simp at hout ⊢) <;> omega, by unfold Hid; simpa using HRn.out, own_cast HO5.out (by simp; try omega) (by simp), by unfold Hid; rw [HE.out, HD.out]; (try simp), HB5⟩
            | some q =>
              have HD := Lib.hid (decM_other q hq hbl)
              simp only [endedV, Option.getD_some] at hout HO ⊢
              clear hq hbl
              go_wp2_with fail
              with_reducible refine HWd.out.mono ?_
              rintro e w3 ⟨rfl, hb3⟩
              have HB3 := Lib.hid (HB.out.trans (hb3.mono HB.out.size))
              have HO3 := Lib.hid (ownsRow_below HO.out hb3)
              have hc0 : w3.cell? ⟨b, off, none⟩ = some (.int .u8 (c.toNat : Int)) := (HB3.out.cell (p := ⟨b, off, none⟩) hb).trans hcb
              clear hb3 hcb
              go_wp2_with (first
                | (go_at_call 18; refine (HBc.out w3).mono ?_; rintro e w' ⟨rfl, rfl⟩)
                | (at_builtin; refine wpList_append_own _ rfl _ _ 26 rfl w2.heap.size 5 i0 (.int .u8 0) 1 1 Tryd.underlying26 hi hz0 hz1 hz2 rfl (by decide) _ _ _ rfl (HO3.out.alloc _) ⟨w3.heap.size, 0, none⟩ 1 1 [byteV c] rfl rfl ?c1 ?c2 ?c3 ?c4 ?c5 ?_))
              case c1 => exact (sliceAt_new w3 _ _ #[.int .u8 (c.toNat : Int)] [c] rfl).news
              case c2 => exact news_one [c]
              case c3 => unfold maxLen; omega
              case c4 => omega
              case c5 => simp; have := HB3.out.size; omega
              intro v5 w5 hown5 hgrow5 _
              have HB5 : Hid (Below w2.heap.size w2 w5) := (HB3.out.alloc (by have := HB3.out.size; omega) _).grown hgrow5 (by have := HB3.out.size; simp; omega) (fun q hq => (HO3.out.lt q hq).1)
              have HO5 := Lib.hid hown5
              clear hown5 hgrow5
              by_cases hcap : cap = 1
              · rw [if_pos hcap] at HRn
                subst hcap
                obtain rfl : r' = [] := List.eq_nil_of_length_eq_zero (by omega)
                go_wp2_with fail
                go_roundg 0
                case measure => omega
                case rel =>
                  refine ⟨[], (out ++ q ++ [c]), none, by simp, by simp, rfl, by (simp at hout ⊢) <;> omega, by unfold Hid; simpa using HRn.out, own_cast HO5.out (by simp; try omega) (by simp), by unfold Hid; rw [HE.out, HD.out]; (try simp), HB5⟩
              · rw [if_neg hcap] at HRn
                go_wp2_with fail
                go_roundg r'.length
                case measure => omega
                case rel =>
                  refine ⟨r', (out ++ q ++ [c]), none, Nat.le_refl _, by omega, rfl, by (simp at hout ⊢) <;> omega, by unfold Hid; simpa using HRn.out, own_cast HO5.out (by simp; try omega) (by simp), by unfold Hid; rw [HE.out, HD.out]; (try simp), HB5⟩
      · obtain rfl : r = [] := List.eq_nil_of_length_eq_zero (by omega)
        have HX : Hid (decM none L = out ++ st.getD []) := HE.out
        have HStr := Lib.hid (run_string_of_owned Tryd.underlying26 Tryd.underlying5 Tryd.underlying9 HO.out)
        have hconv := HStr.out
        clear hs
        go_wp2_with fail
        go_ret
        exact ⟨by rw [HX.out]; rfl, HB2.out.trans (HB.out.mono HB2.out.size)⟩
end Go.Proofs.YtolkjaebhhbilaaDoor
