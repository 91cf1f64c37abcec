/- Contracts of package words: word. -/
import Derived.Test.YtolkjaebhhbilaaDoorWdD
import Derived.Lib.SlBytesConst
namespace Go.Proofs.YtolkjaebhhbilaaDoor
open Go Go.RowKit Go.Maps

/-! ### By its parts -/
theorem cutP_nil : cutP [] = ([], []) := rfl
theorem endW_noclose {n : Nat} {nm lt tx l3 : List UInt8} (h : ([61] : List UInt8).isPrefixOf l3 = false) : endW n nm lt tx l3 = none := by
  unfold endW
  split
  · simp [List.isPrefixOf] at h
  · rfl
theorem endW_letter {n : Nat} {nm lt tx l3 : List UInt8} (h : lt.length ≠ 1) : endW n nm lt tx l3 = none := by
  unfold endW
  split
  · simp at h
  · rfl
theorem endW_blank {n : Nat} {nm lt tx l3 : List UInt8} (h : tx.any blk = true) : endW n nm lt tx l3 = none := by
  unfold endW
  split
  · rw [if_pos h]
  · rfl
theorem endW_yes {n : Nat} {nm tx r : List UInt8} {c : UInt8} (h : tx.any blk = false) : endW n nm [c] tx (61 :: r) = (textW nm c tx).map (fun t => (t, n - r.length)) := by
  unfold endW
  simp only
  rw [if_neg (by rw [h]; decide)]
theorem ewL_no {l : List UInt8} (h : ([61, 63] : List UInt8).isPrefixOf l = false) : ewL l = none := by
  match l, h with
  | [], _ => rfl
  | [c], _ => exact ewL_second (by simp)
  | c :: d :: r, h =>
    by_cases hc : c = 61
    · by_cases hd : d = 63
      · subst hc hd; simp [List.isPrefixOf] at h
      · exact ewL_second (by simpa using hd)
    · exact ewL_one _ hc
theorem ewL_yes {l : List UInt8} (h : ([61, 63] : List UInt8).isPrefixOf l = true) :
    ewL l = endW l.length (cutP (l.drop 2)).1 (cutP (cutP (l.drop 2)).2).1 (cutP (cutP (cutP (l.drop 2)).2).2).1 (cutP (cutP (cutP (l.drop 2)).2).2).2 := by
  obtain ⟨l0, rfl⟩ := List.isPrefixOf_iff_prefix.1 h
  show (cutQ l0).bind (fun p => (cutQ p.2).bind (fun q => (cutQ q.2).bind (fun s => endW ([61, 63] ++ l0).length p.1 q.1 s.1 s.2))) = _
  have e0 : ([61, 63] ++ l0).drop 2 = l0 := rfl
  rw [e0]
  have hz : ∀ (nm lt : List UInt8) n, endW n nm lt [] [] = none := fun nm lt n => endW_noclose rfl
  unfold cutP
  cases cutQ l0 with
  | none => exact (hz _ _ _).symm
  | some p =>
    simp only [Option.bind_some, Option.getD_some]
    cases cutQ p.2 with
    | none => exact (hz _ _ _).symm
    | some q =>
      simp only [Option.bind_some, Option.getD_some]
      cases cutQ q.2 with
      | none => exact (hz _ _ _).symm
      | some s => rfl
theorem cutP_len (l : List UInt8) : (cutP l).1.length ≤ l.length ∧ (cutP l).2.length ≤ l.length := by
  unfold cutP
  cases h : cutQ l with
  | none => simp
  | some p =>
    have := (cutQ_len (a := p.1) (r := p.2) h).1
    simp only [Option.getD_some]
    omega
theorem bareS_le (l : List UInt8) : (bareS l).length ≤ l.length := List.length_filter_le _ _
theorem decS_len {t o : List UInt8} (h : decS t = some o) : o.length ≤ t.length := by
  have e := enc_dec t o h
  have := enc_len o
  rw [e] at this
  omega
theorem readL_len {c : UInt8} {t o : List UInt8} (h : readL c t = some o) : o.length ≤ t.length := by
  unfold readL at h
  split at h
  · exact Nat.le_trans (decS_len h) (bareS_le t)
  · split at h
    · exact qL_len _ t o (Nat.le_refl _) h
    · cases h
/-- What is told of a word. -/
def wordV : Option (List UInt8 × Nat) → Value
  | some x => .tuple #[.string ⟨x.1.toArray⟩, .int .i64 (x.2 : Int)]
  | none => .tuple #[.string ⟨#[]⟩, .int .i64 0]
theorem DecGot.calls {v : Value} {o : Option (List UInt8)} {w : World} (h : Calls Tryd.prog 25 #[v] w (DecGot w o)) : Calls Tryd.prog 25 #[v] w (gotQ o w) := h.mono fun _ _ h => h.q
theorem row_fr (W : World) (t : TypeId) (fr : Nat × Nat) (c : UInt8) : sliceAt (W.alloc (.cells #[.int .u8 (c.toNat : Int)] t fr)) (some ⟨W.heap.size, 0, none⟩) [c] := sliceAt_new W t fr #[.int .u8 (c.toNat : Int)] [c] rfl
theorem two_fr (W : World) (t : TypeId) (fr : Nat × Nat) : sliceAt (W.alloc (.cells #[.int .u8 61, .int .u8 63] t fr)) (some ⟨W.heap.size, 0, none⟩) [61, 63] := sliceAt_new W t fr #[.int .u8 61, .int .u8 63] [61, 63] rfl
theorem one61 (W : World) (t : TypeId) (fr : Nat × Nat) : sliceAt (W.alloc (.cells #[.int .u8 61] t fr)) (some ⟨W.heap.size, 0, none⟩) [61] := row_fr W t fr 61
theorem one42 (W : World) (t : TypeId) (fr : Nat × Nat) : (W.alloc (.cells #[.int .u8 42] t fr)).cell? ⟨W.heap.size, 0, none⟩ = some (.int .u8 42) := by
  simp only [World.cell?, heap_alloc_new]
  rfl

set_option maxRecDepth 100000 in
set_option maxHeartbeats 4000000 in
theorem word_any (v m : Value) (l : List UInt8) (w : World) (hv : nzArg w v l) (hm : rdIs w m) (hl : l.length ≤ 100000) (hE : env w) :
    Calls Tryd.prog 17 #[v, m] w fun e w' => e = .returned (wordV (ewL l)) ∧ Below w.heap.size w w' := by
  have kc := fun (w : World) (C : Array Value) (n c : Nat) => Lib.run_convert_bytes_const (P := Tryd.prog) w 26 5 C n c Tryd.underlying26 Tryd.underlying5
  have HV := Lib.hid hv
  have HM := Lib.hid hm
  have HEn := Lib.hid hE
  have HCP := Lib.hid (fun v l pre B m W h1 h2 h3 h4 => cutPrefix_any v l pre B m W h1 h2 h3 h4)
  have HCu := Lib.hid (fun v l W h1 (h2 : l.length ≤ 1000000) => cut_any v l W h1 h2)
  clear hv hm hE
  go_enter Tryd.func17, Tryd.ntmps17
  go_wp2_with fail
  with_reducible refine (HCP.out v l [61, 63] w.heap.size 2 _ ?h1 rfl (by decide) ?h4).mono ?_
  case h1 => exact HV.out.below ((Below.refl _ _).alloc (Nat.le_refl _) _)
  case h4 => exact two_fr w _ _
  rintro e w1 ⟨⟨u0, rfl, hu0⟩, hw1⟩
  have hb1 : Below w.heap.size w w1 := by rw [← hw1]; exact (Below.refl _ _).alloc (Nat.le_refl _) _
  rw [hw1] at hu0
  have HB1 := Lib.hid hb1
  clear hw1 hb1
  cases hq0 : ([61, 63] : List UInt8).isPrefixOf l with
  | false =>
    have HN := Lib.hid (ewL_no hq0)
    clear hq0 hu0
    go_wp2_with fail
    go_ret2
    exact ⟨by rw [HN.out]; rfl, HB1.out⟩
  | true =>
    have HW := Lib.hid (ewL_yes hq0)
    rw [hq0, if_pos rfl] at hu0
    obtain ⟨l0, hl0⟩ : ∃ l0, l0 = l.drop 2 := ⟨_, rfl⟩
    rw [← hl0] at HW hu0
    have hl0l : l0.length ≤ 100000 := by rw [hl0, List.length_drop]; omega
    have hl0m : l0.length ≤ l.length := by rw [hl0, List.length_drop]; omega
    have HU0 := Lib.hid hu0
    clear hq0 hu0 hl0
    go_wp2_with fail
    with_reducible refine (HCu.out u0 l0 _ HU0.out (by omega)).mono ?_
    rintro e w2 ⟨u1, u2, rfl, hu1, hu2, hb2⟩
    have hz1 := cutP_len l0
    obtain ⟨nm, hnm⟩ : ∃ nm, nm = (cutP l0).1 := ⟨_, rfl⟩
    obtain ⟨l1, hl1⟩ : ∃ l1, l1 = (cutP l0).2 := ⟨_, rfl⟩
    rw [← hnm, ← hl1] at HW hz1
    rw [← hnm] at hu1
    rw [← hl1] at hu2
    have HU1 := Lib.hid (hu1.below hb2)
    have HU2 := Lib.hid (hu2.below hb2)
    have HB2 := Lib.hid (HB1.out.trans (hb2.mono HB1.out.size))
    clear hu1 hu2 hb2 hnm hl1 HU0
    go_wp2_with fail
    with_reducible refine (HCu.out u2 l1 _ HU2.out (by omega)).mono ?_
    rintro e w3 ⟨u3, u4, rfl, hu3, hu4, hb3⟩
    have hz2 := cutP_len l1
    obtain ⟨lt, hlt⟩ : ∃ lt, lt = (cutP l1).1 := ⟨_, rfl⟩
    obtain ⟨l2, hl2⟩ : ∃ l2, l2 = (cutP l1).2 := ⟨_, rfl⟩
    rw [← hlt, ← hl2] at HW hz2
    rw [← hlt] at hu3
    rw [← hl2] at hu4
    have HN3 := Lib.hid (HU1.out.below hb3)
    have HU3 := Lib.hid (hu3.below hb3)
    have HU4 := Lib.hid (hu4.below hb3)
    have HB3 := Lib.hid (HB2.out.trans (hb3.mono HB2.out.size))
    clear hu3 hu4 hb3 hlt hl2 HU2 HU1
    go_wp2_with fail
    with_reducible refine (HCu.out u4 l2 _ HU4.out (by omega)).mono ?_
    rintro e w4 ⟨u5, u6, rfl, hu5, hu6, hb4⟩
    have hz3 := cutP_len l2
    obtain ⟨tx, htx⟩ : ∃ tx, tx = (cutP l2).1 := ⟨_, rfl⟩
    obtain ⟨l3, hl3⟩ : ∃ l3, l3 = (cutP l2).2 := ⟨_, rfl⟩
    rw [← htx, ← hl3] at HW hz3
    rw [← htx] at hu5
    rw [← hl3] at hu6
    have HN4 := Lib.hid (HN3.out.below hb4)
    have HL4 := Lib.hid (HU3.out.below hb4)
    have HT4 := Lib.hid (hu5.below hb4)
    have HU6 := Lib.hid (hu6.below hb4)
    have HB4 := Lib.hid (HB3.out.trans (hb4.mono HB3.out.size))
    clear hu5 hu6 hb4 htx hl3 HU4 HN3 HU3 HCu
    go_wp2_with fail
    with_reducible refine (HCP.out u6 l3 [61] w4.heap.size 1 _ ?h1 rfl (by decide) ?h4).mono ?_
    case h1 => exact HU6.out.below ((Below.refl _ _).alloc (Nat.le_refl _) _)
    case h4 => exact one61 w4 _ _
    rintro e w5 ⟨⟨u7, rfl, hu7⟩, hw5⟩
    have hb5 : Below w4.heap.size w4 w5 := by rw [← hw5]; exact (Below.refl _ _).alloc (Nat.le_refl _) _
    rw [hw5] at hu7
    have HN5 := Lib.hid (HN4.out.below hb5)
    have HL5 := Lib.hid (HL4.out.below hb5)
    have HT5 := Lib.hid (HT4.out.below hb5)
    have HB5 := Lib.hid (HB4.out.trans (hb5.mono HB4.out.size))
    clear hw5 hb5 HN4 HL4 HT4 HU6 HCP
    cases hq1 : ([61] : List UInt8).isPrefixOf l3 with
    | false =>
      have HN : Hid (ewL l = none) := by unfold Hid; rw [HW.out, endW_noclose hq1]
      clear hq1 hu7
      obtain ⟨ao3, c3, rfl, _⟩ := HL5.out.1
      go_wp2_with fail
      go_ret2
      exact ⟨by rw [HN.out]; rfl, HB5.out⟩
    | true =>
      rw [hq1, if_pos rfl] at hu7
      obtain ⟨r, hr⟩ := List.isPrefixOf_iff_prefix.1 hq1
      have hdr : l3.drop 1 = r := by rw [← hr]; rfl
      rw [hdr] at hu7
      have hrl : r.length < l3.length := by rw [← hr]; simp
      have HU7 := Lib.hid hu7
      have HR3 : Hid (l3 = 61 :: r) := hr.symm
      clear hq1 hu7 hr hdr
      by_cases hlt1 : lt.length = 1
      · obtain ⟨c, rfl⟩ : ∃ c, lt = [c] := by
          match lt, hlt1 with
          | [c], _ => exact ⟨c, rfl⟩
        obtain ⟨ao3, c3, e3, _, _, hs3⟩ := HL5.out.1
        subst e3
        rcases hs3 with e | ⟨b3, o3, rfl, hb3, hcell3⟩
        · cases e
        have hc3 : w5.cell? ⟨b3, o3, none⟩ = some (.int .u8 (c.toNat : Int)) := hcell3 0 (by simp)
        have HCo := Lib.hid (containsBlank_any u5 tx w5 HT5.out.1 (by omega))
        clear hcell3
        cases hq2 : tx.any blk with
        | true =>
          rw [hq2] at HCo
          have HN : Hid (ewL l = none) := by unfold Hid; rw [HW.out, endW_blank hq2]
          clear hq2
          go_wp2_with (first | (go_at_call 29; refine HCo.out.mono ?_; rintro e w' ⟨rfl, rfl⟩))
          go_ret2
          exact ⟨by rw [HN.out]; rfl, HB5.out⟩
        | false =>
          rw [hq2] at HCo
          have HY : Hid (ewL l = (textW nm c tx).map (fun t => (t, l.length - r.length))) := by unfold Hid; rw [HW.out, HR3.out, endW_yes hq2]
          have hc256 := c.toNat_lt
          have HLo := Lib.hid (lowerB_any c w5)
          clear hq2
          go_wp2_with (first | (go_at_call 29; refine HCo.out.mono ?_; rintro e w' ⟨rfl, rfl⟩))
          with_reducible refine HLo.out.mono ?_
          rintro e w' ⟨rfl, rfl⟩
          obtain ⟨bm, n, D, B1, B2, rfl, hn2, hO5, hD, hC1, hC2⟩ := HM.out.below HB5.out
          have HO5 := Lib.hid hO5
          have HC1 := Lib.hid hC1
          have HC2 := Lib.hid hC2
          have HE5 := Lib.hid (HEn.out.below HB5.out)
          have HSt := Lib.hid (fun B W h1 h2 => cutStar_any u1 nm B W h1 (by omega) h2)
          obtain ⟨x, hx⟩ : ∃ x, x = lowB c := ⟨_, rfl⟩
          have HK8 := Lib.hid (key8 x)
          have hDx := hD x
          have HTW : Hid (textW nm c tx = (readL c tx).bind (textK (kindL (starL nm)))) := rfl
          have HTk : Hid ((readL c tx).bind (textK (kindL (⟨(starL nm).toArray⟩ : ByteArray).data.toList)) = textW nm c tx) := rfl
          have hRd : readL c tx = if x = 98 then decS (bareS tx) else if x = 113 then qL tx else none := by rw [hx]; rfl
          obtain ⟨aov, capv, rfl, _, _, _⟩ := HV.out.1
          obtain ⟨ao7, cap7, rfl, _, _, _⟩ := HU7.out.1
          rw [← hx]
          have hl03 : r.length < l.length := by omega
          clear hO5 hC1 hC2 hx hD HLo HV HU7 HCo HW
          by_cases q98 : x = 98
          · subst q98
            rw [if_pos rfl] at hRd
            have HRd := Lib.hid hRd
            have HAt : Hid (D.atKey (.int .u8 ((98 : UInt8).toNat : Int)) (.lit (.int .i64 0)) = .lit (.int .i64 ((B1 + 1 : Nat) : Int))) := hDx.2
            have HHas : Hid (Maps.has D (.int .u8 ((98 : UInt8).toNat : Int)) = true) := hDx.1
            have HDe := Lib.hid (fun W (h : Below w5.heap.size w5 W) => DecGot.calls (decode_any u5 tx W (HT5.out.below h).1 (by omega) (HE5.out.below h).2.1))
            clear hRd hDx
            have HCl := Lib.hid (fun W (h1 : Below w5.heap.size w5 W) => clo_dec (readL c tx) B1 ⟨(starL nm).toArray⟩ u5 W (by show (starL nm).length ≤ 1000000; unfold starL; rw [List.length_take]; omega) (fun t ht => Nat.le_trans (readL_len ht) (by omega)) (HE5.out.below h1) ((h1.cell (p := ⟨B1, 0, none⟩) (World.block_lt_of_cell? _ _ HC1.out)).trans HC1.out) (by rw [HRd.out]; exact HDe.out W h1))
            go_wp2_with (first | (at_lookup; refine wpList_lookup_own_ok _ rfl _ _ 36 rfl 5 45 keyLaw8 Tryd.underlying36 rdR (zeroRd _) (.lit (.int .i64 0)) [] rdR_nil bm n D rfl HO5.out _ _ rfl HK8.out ?_; intro v8 ps hv8; obtain rfl : v8 = .func (.func 32) #[] #[.pointer (some ⟨B1, 0, none⟩)] := (by rw [HAt.out] at hv8; exact rdR_inv hv8); rw [HHas.out]))
            with_reducible refine (HSt.out w5.heap.size _ ?h1 ?h2).mono ?_
            case h1 => exact HN5.out.below ((Below.refl _ _).alloc (Nat.le_refl _) _)
            case h2 => exact one42 w5 _ _
            rintro e w6 ⟨⟨u8, x8, y8, rfl, hu8⟩, hb6⟩
            have hb56 : Below w5.heap.size w5 w6 := ((Below.refl w5.heap.size w5).alloc (Nat.le_refl _) _).trans (hb6.mono (by simp))
            have hconv : (convert 26 9 u8).run Tryd.prog w6 = .ok (.string ⟨(starL nm).toArray⟩) w6 := bytesArg_string (hu8.below hb6).1
            have HB6 := Lib.hid (HB5.out.trans (hb56.mono HB5.out.size))
            have HCl6 := Lib.hid (HCl.out w6 hb56)
            clear hu8 hb6 hb56 HSt HCl HO5
            rw [HTk.out] at HCl6
            cases hO : textW nm c tx with
            | none =>
              rw [hO] at HCl6 HY
              unfold textV at HCl6
              clear hO
              go_wp2_with fail
              with_reducible refine HCl6.out.mono ?_
              rintro e w7 ⟨rfl, hb7⟩
              have HB7 := Lib.hid (HB6.out.trans (hb7.mono HB6.out.size))
              clear hb7
              go_wp2_with fail
              go_ret2
              exact ⟨by rw [HY.out]; rfl, HB7.out⟩
            | some t =>
              rw [hO] at HCl6 HY
              unfold textV at HCl6
              clear hO
              go_wp2_with fail
              with_reducible refine HCl6.out.mono ?_
              rintro e w7 ⟨rfl, hb7⟩
              have HB7 := Lib.hid (HB6.out.trans (hb7.mono HB6.out.size))
              clear hb7
              go_wp2_with fail
              go_ret2
              refine ⟨?_, HB7.out⟩
              rw [HY.out]
              show _ = Ending.returned (.tuple #[.string ⟨t.toArray⟩, .int .i64 ((l.length - r.length : Nat) : Int)])
              refine congrArg (fun z => Ending.returned (.tuple #[.string ⟨t.toArray⟩, .int .i64 z])) ?_
              omega
          · by_cases q113 : x = 113
            · subst q113
              rw [if_neg (by decide), if_pos rfl] at hRd
              have HRd := Lib.hid hRd
              have HAt : Hid (D.atKey (.int .u8 ((113 : UInt8).toNat : Int)) (.lit (.int .i64 0)) = .lit (.int .i64 ((B2 + 1 : Nat) : Int))) := hDx.2
              have HHas : Hid (Maps.has D (.int .u8 ((113 : UInt8).toNat : Int)) = true) := hDx.1
              have HQu := Lib.hid (fun W (h : Below w5.heap.size w5 W) => quoted_any u5 tx W (HT5.out.below h).1 (by omega) (HE5.out.below h).2.2)
              clear hRd hDx q98
              have HCl := Lib.hid (fun W (h1 : Below w5.heap.size w5 W) => clo_quo (readL c tx) B2 ⟨(starL nm).toArray⟩ u5 W (by show (starL nm).length ≤ 1000000; unfold starL; rw [List.length_take]; omega) (fun t ht => Nat.le_trans (readL_len ht) (by omega)) (HE5.out.below h1) ((h1.cell (p := ⟨B2, 0, none⟩) (World.block_lt_of_cell? _ _ HC2.out)).trans HC2.out) (by rw [HRd.out]; exact HQu.out W h1))
              go_wp2_with (first | (at_lookup; refine wpList_lookup_own_ok _ rfl _ _ 36 rfl 5 45 keyLaw8 Tryd.underlying36 rdR (zeroRd _) (.lit (.int .i64 0)) [] rdR_nil bm n D rfl HO5.out _ _ rfl HK8.out ?_; intro v8 ps hv8; obtain rfl : v8 = .func (.func 32) #[] #[.pointer (some ⟨B2, 0, none⟩)] := (by rw [HAt.out] at hv8; exact rdR_inv hv8); rw [HHas.out]))
              with_reducible refine (HSt.out w5.heap.size _ ?h1 ?h2).mono ?_
              case h1 => exact HN5.out.below ((Below.refl _ _).alloc (Nat.le_refl _) _)
              case h2 => exact one42 w5 _ _
              rintro e w6 ⟨⟨u8, x8, y8, rfl, hu8⟩, hb6⟩
              have hb56 : Below w5.heap.size w5 w6 := ((Below.refl w5.heap.size w5).alloc (Nat.le_refl _) _).trans (hb6.mono (by simp))
              have hconv : (convert 26 9 u8).run Tryd.prog w6 = .ok (.string ⟨(starL nm).toArray⟩) w6 := bytesArg_string (hu8.below hb6).1
              have HB6 := Lib.hid (HB5.out.trans (hb56.mono HB5.out.size))
              have HCl6 := Lib.hid (HCl.out w6 hb56)
              clear hu8 hb6 hb56 HSt HCl HO5
              rw [HTk.out] at HCl6
              cases hO : textW nm c tx with
              | none =>
                rw [hO] at HCl6 HY
                unfold textV at HCl6
                clear hO
                go_wp2_with fail
                with_reducible refine HCl6.out.mono ?_
                rintro e w7 ⟨rfl, hb7⟩
                have HB7 := Lib.hid (HB6.out.trans (hb7.mono HB6.out.size))
                clear hb7
                go_wp2_with fail
                go_ret2
                exact ⟨by rw [HY.out]; rfl, HB7.out⟩
              | some t =>
                rw [hO] at HCl6 HY
                unfold textV at HCl6
                clear hO
                go_wp2_with fail
                with_reducible refine HCl6.out.mono ?_
                rintro e w7 ⟨rfl, hb7⟩
                have HB7 := Lib.hid (HB6.out.trans (hb7.mono HB6.out.size))
                clear hb7
                go_wp2_with fail
                go_ret2
                refine ⟨?_, HB7.out⟩
                rw [HY.out]
                show _ = Ending.returned (.tuple #[.string ⟨t.toArray⟩, .int .i64 ((l.length - r.length : Nat) : Int)])
                refine congrArg (fun z => Ending.returned (.tuple #[.string ⟨t.toArray⟩, .int .i64 z])) ?_
                omega
            · rw [if_neg q98, if_neg q113] at hRd
              have HN : Hid (ewL l = none) := by
                unfold Hid
                rw [HY.out, HTW.out, hRd]
                rfl
              have HAt : Hid (D.atKey (.int .u8 (x.toNat : Int)) (.lit (.int .i64 0)) = .lit (.int .i64 0)) := by
                have e := hDx.2
                unfold rdN at e
                rw [if_neg q98, if_neg q113] at e
                exact e
              have HHas : Hid (Maps.has D (.int .u8 (x.toNat : Int)) = false) := by
                unfold Hid
                rw [hDx.1]
                exact decide_eq_false (by rintro (h | h); exact q98 h; exact q113 h)
              clear hRd hDx q98 q113 HY HTW HTk
              go_wp2_with (first | (at_lookup; refine wpList_lookup_own_ok _ rfl _ _ 36 rfl 5 45 keyLaw8 Tryd.underlying36 rdR (zeroRd _) (.lit (.int .i64 0)) [] rdR_nil bm n D rfl HO5.out _ _ rfl HK8.out ?_; intro v8 ps hv8; obtain rfl : v8 = .nilFunc := (by rw [HAt.out] at hv8; exact rdR_zero hv8); rw [HHas.out]))
              go_ret2
              exact ⟨by rw [HN.out]; rfl, HB5.out⟩
      · have HN : Hid (ewL l = none) := by unfold Hid; rw [HW.out, endW_letter hlt1]
        obtain ⟨ao3, c3, rfl, _⟩ := HL5.out.1
        have hlti : ¬ (lt.length : Int) = 1 := by omega
        have hltb : ((lt.length : Int) != 1) = true := bne_yes hlti
        clear hlt1
        go_wp2_with fail
        go_ret2
        exact ⟨by rw [HN.out]; rfl, HB5.out⟩
end Go.Proofs.YtolkjaebhhbilaaDoor
