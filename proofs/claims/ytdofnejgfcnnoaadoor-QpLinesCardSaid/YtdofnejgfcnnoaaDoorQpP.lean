/- The laws of layer 3 (quoted-printable): QpLines. -/
import Derived.Test.YtdofnejgfcnnoaaDoorQpK
import Derived.Deep.Matrix
namespace Go.Proofs.YtdofnejgfcnnoaaDoor
open Go Go.RowKit Go.ChangeShapes Go.WideShapes Go.ChangeAt Go.Deep

/-- What a slice of slices of bytes that came in reads as. -/
def rowsArg (W : World) (v : Value) (ls : List (List UInt8)) : Prop :=
  ∃ ao cap, v = .slice ao ls.length cap ∧ ls.length ≤ cap ∧ cap ≤ maxLen ∧ (ls = [] ∨ ∃ b off, ao = some ⟨b, off, none⟩ ∧ b < W.heap.size ∧ ∀ j, (h : j < ls.length) → ∃ ra rc, W.cell? ⟨b, off + j, none⟩ = some (.slice ra ls[j].length rc) ∧ bytesArg W (.slice ra ls[j].length rc) ls[j])

theorem rowsArg_open {H : Type} {enc : TypeId × Value → H} {P : Program} {W : World} {base : Nat} {t q e : TypeId} {v : Value} {d : DataW H} {p : List MemPlace}
    (ht : P.underlying t = some (.slice q)) (hq : P.underlying q = some (.slice e)) (he : P.underlying e = some (.int .u8)) (cq : P.cellsOf q = 1) (ce : P.cellsOf e = 1)
    (hv : Value.okWide P W .any base t v) (h : DataW.Trod enc P W 0 (fun _ => true) true t v d p) : ∃ ls, rowsArg W v ls := by
  obtain ⟨a0, len, cap, rfl⟩ := okWide_slice ht hv
  obtain ⟨fuel, hf⟩ := h
  rcases open_int_rows ht hq he cq ce hf with ⟨hcs, hx⟩ | ⟨a, len', cap', A, L, C, Z, hcs, _, hl, hm, hx, hr⟩
  · simp [Value.cells] at hcs
    obtain ⟨rfl, rfl, rfl⟩ := hcs
    exact ⟨[], none, 0, rfl, Nat.le_refl _, Nat.zero_le _, .inl rfl⟩
  · simp [Value.cells] at hcs
    obtain ⟨rfl, rfl, rfl⟩ := hcs
    refine ⟨(List.range len).map fun r => ((Z r).take (L r)).map (fun n => UInt8.ofNat n.toNat), some a, cap, by simp, by simpa using hl, hm, ?_⟩
    by_cases h0 : len = 0
    · left; subst h0; rfl
    · right
      have hc0 := (hr 0 (by omega)).1
      obtain ⟨b, off, spot⟩ := a
      have hspot : spot = none := by simpa [Addr.add] using World.cell?_spot hc0
      subst hspot
      refine ⟨b, off, rfl, ?_, fun j hj => ?_⟩
      · have := World.block_lt_of_cell? W _ hc0
        simpa [Addr.add_lit] using this
      · have hj' : j < len := by simpa using hj
        obtain ⟨r1, r2, r3, r4, r5, r6, r7⟩ := hr j (by omega)
        have hlen : (((Z j).take (L j)).map (fun n => UInt8.ofNat n.toNat)).length = L j := by simp; omega
        simp only [List.getElem_map, List.getElem_range]
        rw [hlen]
        rw [Addr.add_lit] at r1
        refine ⟨A j, C j, r1, A j, C j, by rw [hlen], by rw [hlen]; exact r2, r3, ?_⟩
        by_cases hL : L j = 0
        · left; rw [hL]; simp
        · right
          rcases hA : A j with _ | a'
          · have := r6 hA
            omega
          · have hcc := (r7 a' hA).2
            have hcc0 := hcc 0 (by omega)
            obtain ⟨b', off', spot⟩ := a'
            have hspot : spot = none := by simpa [Addr.add] using World.cell?_spot hcc0
            subst hspot
            refine ⟨b', off', rfl, ?_, fun i hi => ?_⟩
            · have := World.block_lt_of_cell? W _ hcc0
              simpa [Addr.add_lit] using this
            · have hi' : i < L j := by rw [← hlen]; exact hi
              have hiZ : i < (Z j).length := by omega
              have := hcc i (by omega)
              rw [Addr.add_lit] at this
              rw [this]
              simp only [List.getElem_map, List.getElem_take]
              rw [u8_of_wf (r5 _ (List.getElem_mem hiZ))]
              simp [List.getD, hiZ]
theorem textS_plain : ∀ p : List UInt8, (∀ x ∈ p, seenB x = true ∧ x ≠ 61) → textS p = some p
  | [], _ => rfl
  | c :: r, h => by
    have hc := h c (by simp)
    rw [textS_seen c r (by unfold okB; rw [hc.1]; rfl) hc.2, textS_plain r (fun x hx => h x (by simp [hx]))]
    rfl
theorem ahead_plain {p : List UInt8} (h : ∀ x ∈ p, seenB x = true ∧ x ≠ 61) (bl : List UInt8) (hb : ∀ x ∈ bl, isBl x = true) (cr : Bool) :
    Ahead (p ++ bl ++ ((if cr then [13] else []) ++ [10])) (p ++ ((if cr then [13] else []) ++ [10])) :=
  ahead_line cr (fun x hx => (h x hx).1) hb (fun hl => (h 61 (List.mem_of_getLast? hl)).2 rfl) (textS_plain p h)
theorem Ahead.whole {b v : List UInt8} (h : Ahead b v) : decQ b = some v := by
  have := h []
  rw [List.append_nil, decQ_nil] at this
  simpa using this
theorem snoc_plain {p : List UInt8} {c : UInt8} (h : ∀ x ∈ p, seenB x = true ∧ x ≠ 61) (h1 : seenB c = true) (h2 : c ≠ 61) : ∀ x ∈ p ++ [c], seenB x = true ∧ x ≠ 61 := by
  intro x hx
  rcases List.mem_append.1 hx with hx | hx
  · exact h x hx
  · simp at hx
    subst hx
    exact ⟨h1, h2⟩
theorem conv_one' (w : World) {x : Int} (n : Nat) (hx : x = (n : Int)) (hn : n < 256) : (convert 22 9 (.slice (some ⟨w.heap.size, 0, none⟩) 1 1)).run Tryd.prog (w.alloc (.cells #[.int .u8 x] 5)) = .ok (.string ⟨#[byteN n]⟩) (w.alloc (.cells #[.int .u8 x] 5)) := by
  subst hx
  refine run_string_of_row (l := [byteN n]) Tryd.underlying22 Tryd.underlying5 Tryd.underlying9 ⟨#[.int .u8 (n : Int)], 0, 0, heap_alloc_new w _, fun j _ h => by omega, ?_⟩ rfl
  have e : byteV (byteN n) = .int .u8 (n : Int) := by unfold byteV; rw [byteN_toNat n hn]
  simp [e]

set_option maxRecDepth 100000 in
set_option maxHeartbeats 8000000 in
theorem qpLines_any (v : Value) (ls : List (List UInt8)) (ev : Value) (es : List UInt8) (w : World) (hv : rowsArg w v ls) (hev : bytesArg w ev es) :
    Calls Tryd.prog 5 #[v, ev] w fun e w' => e = .returned (.bool true) ∧ Below w.heap.size w w' := by
  obtain ⟨i0, hi0, hz0, hz1, hz2⟩ := info_parts Tryd.infoB
  obtain ⟨ao, cap, rfl, hc, hm, hs⟩ := hv
  obtain ⟨eo, ecap, rfl, hec, hem, hes⟩ := hev
  have HR := Lib.hid hs
  have HE : Hid (sliceAt w eo es) := hes
  clear hs hes
  unfold maxLen at hm hem
  have hl : 10 < ls.length ∨ (ls.length ≤ 10 ∧ es.length < ls.length) ∨ (ls.length ≤ 10 ∧ ls.length ≤ es.length) := by omega
  rcases hl with hl | ⟨hl, hl2⟩ | ⟨hl, hl2⟩
  iterate 2
    · go_enter Tryd.func5, Tryd.ntmps5
      go_wp2_with fail
      refine (awake_any _).mono ?_
      rintro e w1 ⟨rfl, hb1⟩
      have HB1 := Lib.hid hb1; clear hb1
      go_wp2
      go_ret
      exact ⟨rfl, HB1.out⟩
  · have d1 : decide (es.length < ls.length) = false := by simp; omega
    have d2 : decide ((10 : Int) < (ls.length : Int)) = false := by simp; omega
    go_enter Tryd.func5, Tryd.ntmps5
    go_wp2_with fail
    refine (awake_any _).mono ?_
    rintro e w1 ⟨rfl, hb1⟩
    have HB1 := Lib.hid hb1; clear hb1
    go_wp2_with fail
    go_loopg [6, 7, 8] ls.length (fun g o s iv wr => ∃ (i : Nat) (f : List UInt8) (O : ByteArray), i ≤ ls.length ∧ g = ls.length - i ∧ iv = .int .i64 i ∧ s = .string O ∧ O.size ≤ 44 * i ∧ f.length ≤ 44 * i ∧ Hid (wr.ownsRow w.heap.size 5 1 o f.length (f.map byteV)) ∧ Hid (Ahead f O.data.toList) ∧ Hid (Below w.heap.size w wr))
    case atStart => exact ⟨0, [], ⟨#[]⟩, by omega, by omega, rfl, rfl, Nat.zero_le _, by simp, World.ownsRow_nil _ _ _ _, Ahead.nil, HB1.out⟩
    case round =>
      obtain ⟨i, f, O, hi, rfl, rfl, rfl, hOs, hfl, HO, HA, HB⟩ := hrel
      by_cases hlt : i < ls.length
      · have hcell : ∃ b off ra rc, ao = some ⟨b, off, none⟩ ∧ b < w.heap.size ∧ w.cell? ⟨b, off + i, none⟩ = some (.slice ra ls[i].length rc) ∧ bytesArg w (.slice ra ls[i].length rc) ls[i] := by
          rcases HR.out with h | ⟨b, off, e, hb, hcl⟩
          · rw [h] at hlt; simp at hlt
          · obtain ⟨ra, rc, h1, h2⟩ := hcl i hlt
            exact ⟨b, off, ra, rc, e, hb, h1, h2⟩
        obtain ⟨b, off, ra, rc, rfl, hb, hcl, hrow⟩ := hcell
        obtain ⟨ra', rc', he, hrc, hrcm, hrs⟩ := hrow
        cases he
        obtain ⟨row, hrw⟩ : ∃ row, row = ls[i] := ⟨_, rfl⟩
        rw [← hrw] at hcl hrs hrc
        have HRS : Hid (sliceAt w ra row) := hrs
        clear hrs hrw
        unfold maxLen at hrcm
        have hcl0 : wr.cell? ⟨b, off + i, none⟩ = some (.slice ra row.length rc) := (HB.out.cell (p := ⟨b, off + i, none⟩) hb).trans hcl
        by_cases h40 : 40 < row.length
        · go_wp2
          go_ret
          exact ⟨rfl, HB.out⟩
        · have h40' : row.length ≤ 40 := by omega
          clear h40
          go_upto_block 2 with fail
          go_cut [6, 7] (fun o sv wx => ∃ (p : List UInt8) (O2 : ByteArray), sv = .string O2 ∧ p.length ≤ 40 ∧ O2.size ≤ 44 * i + 40 ∧ Hid (wx.ownsRow w.heap.size 5 1 o (f ++ p).length ((f ++ p).map byteV)) ∧ Hid (O2.data.toList = O.data.toList ++ p) ∧ Hid (∀ x ∈ p, seenB x = true ∧ x ≠ 61) ∧ Hid (Below w.heap.size w wx))
          case first =>
            obtain ⟨wo, hwo⟩ : ∃ wo : World, wo = wr := ⟨_, rfl⟩
            rw [← hwo] at HO HB hcl0 ⊢
            clear hwo
            go_wp2_with fail
            go_loopg [6, 7, 9] row.length (fun g o sv kv wx => ∃ (k : Nat) (p : List UInt8) (O2 : ByteArray), k ≤ row.length ∧ g = row.length - k ∧ kv = .int .i64 k ∧ sv = .string O2 ∧ p.length ≤ k ∧ O2.size ≤ 44 * i + k ∧ Hid (wx.ownsRow w.heap.size 5 1 o (f ++ p).length ((f ++ p).map byteV)) ∧ Hid (O2.data.toList = O.data.toList ++ p) ∧ Hid (∀ x ∈ p, seenB x = true ∧ x ≠ 61) ∧ Hid (Below w.heap.size w wx))
            case atStart => exact ⟨0, [], O, by omega, by omega, rfl, rfl, by simp, by omega, own_cast HO.out (by simp) (by simp), by unfold Hid; simp, by unfold Hid; simp, HB.out⟩
            case round =>
              obtain ⟨k, p, O2, hk, rfl, rfl, rfl, hp, hO2, HO2, HQ, HP, HB2⟩ := hrel
              have hclr : wr.cell? ⟨b, off + i, none⟩ = some (.slice ra row.length rc) := (HB2.out.cell (p := ⟨b, off + i, none⟩) hb).trans hcl
              by_cases hkr : k < row.length
              · obtain ⟨b3, off3, rfl, hb3, hx3⟩ := HRS.out.cell k hkr
                obtain ⟨y, hy⟩ : ∃ y, y = row[k] := ⟨_, rfl⟩
                rw [← hy] at hx3
                have hyt := y.toNat_lt
                have hx4 : wr.cell? ⟨b3, off3 + k, none⟩ = some (.int .u8 (y.toNat : Int)) := (HB2.out.cell (p := ⟨b3, off3 + k, none⟩) hb3).trans hx3
                obtain ⟨n, hn⟩ : ∃ n : Nat, n = 33 + y.toNat % 94 := ⟨_, rfl⟩
                have hfp : (f ++ p).length ≤ 500 := by simp only [List.length_append]; omega
                have en : (33 : Int) + (y.toNat : Int) % 94 = (n : Int) := by omega
                have hn1 : 33 ≤ n := by omega
                have hn2 : n ≤ 126 := by omega
                clear hn hy
                by_cases h61 : n = 61
                · have t61 : ((n : Int) == 61) = true := beq_yes (by omega)
                  clear h61
                  go_wp2_with (at_builtin; refine wpList_append_own _ rfl _ _ 22 rfl w.heap.size 5 i0 (.int .u8 0) 1 1 Tryd.underlying22 hi0 hz0 hz1 hz2 rfl (by decide) _ _ _ rfl (HO2.out.alloc _) ⟨wr.heap.size, 0, none⟩ 1 1 [byteV (byteN 45)] rfl rfl ?c1 ?c2 ?c3 ?c4 ?c5 ?_)
                  case c1 => exact cell_one_new wr _ _
                  case c2 => exact news_one [(byteN 45)]
                  case c3 => unfold maxLen; omega
                  case c4 => omega
                  case c5 => simp; have := HB2.out.size; omega
                  intro v3 w3 hown3 hgrow3 _
                  have HO3 : Hid (w3.ownsRow w.heap.size 5 1 v3 ((f ++ p) ++ [(byteN 45)]).length (((f ++ p) ++ [(byteN 45)]).map byteV)) := own_cast hown3 (by simp only [List.length_append, List.length_cons, List.length_nil] <;> omega) (by simp)
                  have HB3 : Hid (Below w.heap.size w w3) := (HB2.out.alloc (by have := HB2.out.size; omega) _).grown hgrow3 (by have := HB2.out.size; simp; omega) (fun q hq => (HO2.out.lt q hq).1)
                  have hl3 : ((f ++ p) ++ [(byteN 45)]).length = ((f ++ p)).length + 1 := by simp only [List.length_append, List.length_cons, List.length_nil] <;> omega
                  clear hown3 hgrow3
                  have hcv := conv_one' w3 (x := 45) 45 rfl (by omega)
                  have hclr3 : w3.cell? ⟨b, off + i, none⟩ = some (.slice (some ⟨b3, off3, none⟩) row.length rc) := (HB3.out.cell (p := ⟨b, off + i, none⟩) hb).trans hcl
                  go_wp2
                  go_roundg (row.length - (k + 1))
                  case measure => omega
                  case rel =>
                    refine ⟨k + 1, p ++ [byteN 45], O2 ++ ⟨#[byteN 45]⟩, by omega, rfl, by go_num, rfl, by simp; omega, by rw [ByteArray.size_append]; show O2.size + 1 ≤ _; omega, ownsRow_below (own_cast HO3.out (by simp only [List.length_append, List.length_cons, List.length_nil]; omega) (by simp)) ((Below.refl _ _).alloc (Nat.le_refl _) _), ?_, ?_, HB3.out.alloc HB3.out.size _⟩
                    · unfold Hid
                      rw [cat_toList, HQ.out]
                      simp
                    · exact snoc_plain HP.out (by decide) (by decide)
                · have t61 : ((n : Int) == 61) = false := beq_no (by omega)
                  have H61 := Lib.hid h61
                  clear h61
                  go_wp2_with (at_builtin; refine wpList_append_own _ rfl _ _ 22 rfl w.heap.size 5 i0 (.int .u8 0) 1 1 Tryd.underlying22 hi0 hz0 hz1 hz2 rfl (by decide) _ _ _ rfl (HO2.out.alloc _) ⟨wr.heap.size, 0, none⟩ 1 1 [byteV (byteN n)] rfl rfl ?c1 ?c2 ?c3 ?c4 ?c5 ?_)
                  case c1 => exact cell_byte wr _ rfl (by omega)
                  case c2 => exact news_one [(byteN n)]
                  case c3 => unfold maxLen; omega
                  case c4 => omega
                  case c5 => simp; have := HB2.out.size; omega
                  intro v3 w3 hown3 hgrow3 _
                  have HO3 : Hid (w3.ownsRow w.heap.size 5 1 v3 ((f ++ p) ++ [(byteN n)]).length (((f ++ p) ++ [(byteN n)]).map byteV)) := own_cast hown3 (by simp only [List.length_append, List.length_cons, List.length_nil] <;> omega) (by simp)
                  have HB3 : Hid (Below w.heap.size w w3) := (HB2.out.alloc (by have := HB2.out.size; omega) _).grown hgrow3 (by have := HB2.out.size; simp; omega) (fun q hq => (HO2.out.lt q hq).1)
                  have hl3 : ((f ++ p) ++ [(byteN n)]).length = ((f ++ p)).length + 1 := by simp only [List.length_append, List.length_cons, List.length_nil] <;> omega
                  clear hown3 hgrow3
                  have hcv := conv_one' w3 (x := (n : Int)) n rfl (by omega)
                  have hclr3 : w3.cell? ⟨b, off + i, none⟩ = some (.slice (some ⟨b3, off3, none⟩) row.length rc) := (HB3.out.cell (p := ⟨b, off + i, none⟩) hb).trans hcl
                  go_wp2
                  go_roundg (row.length - (k + 1))
                  case measure => omega
                  case rel =>
                    refine ⟨k + 1, p ++ [byteN n], O2 ++ ⟨#[byteN n]⟩, by omega, rfl, by go_num, rfl, by simp; omega, by rw [ByteArray.size_append]; show O2.size + 1 ≤ _; omega, ownsRow_below (own_cast HO3.out (by simp only [List.length_append, List.length_cons, List.length_nil]; omega) (by simp)) ((Below.refl _ _).alloc (Nat.le_refl _) _), ?_, ?_, HB3.out.alloc HB3.out.size _⟩
                    · unfold Hid
                      rw [cat_toList, HQ.out]
                      simp
                    · exact snoc_plain HP.out ((seenB_iff _).2 (by rw [byteN_toNat _ (by omega)]; omega)) (fun h => H61.out (by have := congrArg UInt8.toNat h; rw [byteN_toNat _ (by omega)] at this; exact this))
              · obtain rfl : k = row.length := by omega
                go_wp2_with fail
                go_meet
                exact ⟨p, O2, rfl, by omega, by omega, HO2, HQ, HP, HB2⟩
          case rest =>
            obtain ⟨p, O2, rfl, hp, hO2, HO2, HQ, HP, HB2⟩ := hcut
            obtain ⟨b4, off4, rfl, hb4, hye⟩ := HE.out.cell i (by omega)
            obtain ⟨y, hy⟩ : ∃ y, y = es[i] := ⟨_, rfl⟩
            rw [← hy] at hye
            clear hy
            have hfp : (f ++ p).length ≤ 44 * i + 40 := by simp only [List.length_append]; omega
            have hyc : wc.cell? ⟨b4, off4 + i, none⟩ = some (.int .u8 (y.toNat : Int)) := (HB2.out.cell (p := ⟨b4, off4 + i, none⟩) hb4).trans hye
            obtain ⟨z1, e1⟩ : ∃ z, bits .and .u8 (y.toNat : Int) 1 = z := ⟨_, rfl⟩
            obtain ⟨z2, e2⟩ : ∃ z, bits .and .u8 (y.toNat : Int) 2 = z := ⟨_, rfl⟩
            rcases Bool.eq_false_or_eq_true (z1 == 1) with t1 | t1
            · go_wp2_with (at_builtin; refine wpList_append_own _ rfl _ _ 22 rfl w.heap.size 5 i0 (.int .u8 0) 1 1 Tryd.underlying22 hi0 hz0 hz1 hz2 rfl (by decide) _ _ _ rfl (HO2.out.alloc _) ⟨wc.heap.size, 0, none⟩ 2 2 [byteV 32, byteV 9] rfl rfl ?c1 ?c2 ?c3 ?c4 ?c5 ?_)
              case c1 => exact cells_two_new wc _ _ _
              case c2 => exact news_one [32, 9]
              case c3 => unfold maxLen; omega
              case c4 => omega
              case c5 => simp; have := HB2.out.size; omega
              intro v5 w5 hown5 hgrow5 _
              have HO5 : Hid (w5.ownsRow w.heap.size 5 1 v5 ((f ++ p) ++ [32, 9]).length (((f ++ p) ++ [32, 9]).map byteV)) := own_cast hown5 (by simp only [List.length_append, List.length_cons, List.length_nil] <;> omega) (by simp)
              have HB5 : Hid (Below w.heap.size w w5) := (HB2.out.alloc (by have := HB2.out.size; omega) _).grown hgrow5 (by have := HB2.out.size; simp; omega) (fun q hq => (HO2.out.lt q hq).1)
              have hl5 : ((f ++ p) ++ [32, 9]).length = ((f ++ p)).length + 2 := by simp only [List.length_append, List.length_cons, List.length_nil] <;> omega
              clear hown5 hgrow5
              have hyc5 : w5.cell? ⟨b4, off4 + i, none⟩ = some (.int .u8 (y.toNat : Int)) := (HB5.out.cell (p := ⟨b4, off4 + i, none⟩) hb4).trans hye
              rcases Bool.eq_false_or_eq_true (z2 == 2) with t2 | t2
              · go_wp2_with (at_builtin; refine wpList_append_own _ rfl _ _ 22 rfl w.heap.size 5 i0 (.int .u8 0) 1 1 Tryd.underlying22 hi0 hz0 hz1 hz2 rfl (by decide) _ _ _ rfl (HO5.out.alloc _) ⟨w5.heap.size, 0, none⟩ 1 1 [byteV 13] rfl rfl ?c1 ?c2 ?c3 ?c4 ?c5 ?_)
                case c1 => exact cell_one_new w5 _ _
                case c2 => exact news_one [13]
                case c3 => unfold maxLen; omega
                case c4 => omega
                case c5 => simp; have := HB5.out.size; omega
                intro v6 w6 hown6 hgrow6 _
                have HO6 : Hid (w6.ownsRow w.heap.size 5 1 v6 ((f ++ p ++ [32, 9]) ++ [13]).length (((f ++ p ++ [32, 9]) ++ [13]).map byteV)) := own_cast hown6 (by simp only [List.length_append, List.length_cons, List.length_nil] <;> omega) (by simp)
                have HB6 : Hid (Below w.heap.size w w6) := (HB5.out.alloc (by have := HB5.out.size; omega) _).grown hgrow6 (by have := HB5.out.size; simp; omega) (fun q hq => (HO5.out.lt q hq).1)
                have hl6 : ((f ++ p ++ [32, 9]) ++ [13]).length = ((f ++ p ++ [32, 9])).length + 1 := by simp only [List.length_append, List.length_cons, List.length_nil] <;> omega
                clear hown6 hgrow6
                go_wp2_with (at_builtin; refine wpList_append_own _ rfl _ _ 22 rfl w.heap.size 5 i0 (.int .u8 0) 1 1 Tryd.underlying22 hi0 hz0 hz1 hz2 rfl (by decide) _ _ _ rfl (HO6.out.alloc _) ⟨w6.heap.size, 0, none⟩ 1 1 [byteV 10] rfl rfl ?c1 ?c2 ?c3 ?c4 ?c5 ?_)
                case c1 => exact cell_one_new w6 _ _
                case c2 => exact news_one [10]
                case c3 => unfold maxLen; omega
                case c4 => omega
                case c5 => simp; have := HB6.out.size; omega
                intro v7 w7 hown7 hgrow7 _
                have HO7 : Hid (w7.ownsRow w.heap.size 5 1 v7 ((f ++ p ++ [32, 9] ++ [13]) ++ [10]).length (((f ++ p ++ [32, 9] ++ [13]) ++ [10]).map byteV)) := own_cast hown7 (by simp only [List.length_append, List.length_cons, List.length_nil] <;> omega) (by simp)
                have HB7 : Hid (Below w.heap.size w w7) := (HB6.out.alloc (by have := HB6.out.size; omega) _).grown hgrow7 (by have := HB6.out.size; simp; omega) (fun q hq => (HO6.out.lt q hq).1)
                have hl7 : ((f ++ p ++ [32, 9] ++ [13]) ++ [10]).length = ((f ++ p ++ [32, 9] ++ [13])).length + 1 := by simp only [List.length_append, List.length_cons, List.length_nil] <;> omega
                clear hown7 hgrow7
                go_wp2
                go_roundg (ls.length - (i + 1))
                case measure => omega
                case rel =>
                  refine ⟨i + 1, f ++ p ++ [32, 9] ++ [13] ++ [10], O2 ++ ⟨#[13]⟩ ++ ⟨#[10]⟩, by omega, rfl, by go_num, rfl, ?_, by omega, HO7.out, ?_, HB7.out⟩
                  · simp only [ByteArray.size_append]
                    have : (⟨#[10]⟩ : ByteArray).size = 1 := rfl
                    have : (⟨#[13]⟩ : ByteArray).size = 1 := rfl
                    omega
                  · have := HA.out.append (ahead_plain HP.out [32, 9] (by simp [isBl]) true)
                    unfold Hid
                    simp only [cat_toList, HQ.out]
                    simpa using this
              · go_wp2_with (at_builtin; refine wpList_append_own _ rfl _ _ 22 rfl w.heap.size 5 i0 (.int .u8 0) 1 1 Tryd.underlying22 hi0 hz0 hz1 hz2 rfl (by decide) _ _ _ rfl (HO5.out.alloc _) ⟨w5.heap.size, 0, none⟩ 1 1 [byteV 10] rfl rfl ?c1 ?c2 ?c3 ?c4 ?c5 ?_)
                case c1 => exact cell_one_new w5 _ _
                case c2 => exact news_one [10]
                case c3 => unfold maxLen; omega
                case c4 => omega
                case c5 => simp; have := HB5.out.size; omega
                intro v7 w7 hown7 hgrow7 _
                have HO7 : Hid (w7.ownsRow w.heap.size 5 1 v7 ((f ++ p ++ [32, 9]) ++ [10]).length (((f ++ p ++ [32, 9]) ++ [10]).map byteV)) := own_cast hown7 (by simp only [List.length_append, List.length_cons, List.length_nil] <;> omega) (by simp)
                have HB7 : Hid (Below w.heap.size w w7) := (HB5.out.alloc (by have := HB5.out.size; omega) _).grown hgrow7 (by have := HB5.out.size; simp; omega) (fun q hq => (HO5.out.lt q hq).1)
                have hl7 : ((f ++ p ++ [32, 9]) ++ [10]).length = ((f ++ p ++ [32, 9])).length + 1 := by simp only [List.length_append, List.length_cons, List.length_nil] <;> omega
                clear hown7 hgrow7
                go_wp2
                go_roundg (ls.length - (i + 1))
                case measure => omega
                case rel =>
                  refine ⟨i + 1, f ++ p ++ [32, 9] ++ [10], O2 ++ ⟨#[10]⟩, by omega, rfl, by go_num, rfl, ?_, by omega, HO7.out, ?_, HB7.out⟩
                  · simp only [ByteArray.size_append]
                    have : (⟨#[10]⟩ : ByteArray).size = 1 := rfl
                    have : (⟨#[13]⟩ : ByteArray).size = 1 := rfl
                    omega
                  · have := HA.out.append (ahead_plain HP.out [32, 9] (by simp [isBl]) false)
                    unfold Hid
                    simp only [cat_toList, HQ.out]
                    simpa using this
            · rcases Bool.eq_false_or_eq_true (z2 == 2) with t2 | t2
              · go_wp2_with (at_builtin; refine wpList_append_own _ rfl _ _ 22 rfl w.heap.size 5 i0 (.int .u8 0) 1 1 Tryd.underlying22 hi0 hz0 hz1 hz2 rfl (by decide) _ _ _ rfl (HO2.out.alloc _) ⟨wc.heap.size, 0, none⟩ 1 1 [byteV 13] rfl rfl ?c1 ?c2 ?c3 ?c4 ?c5 ?_)
                case c1 => exact cell_one_new wc _ _
                case c2 => exact news_one [13]
                case c3 => unfold maxLen; omega
                case c4 => omega
                case c5 => simp; have := HB2.out.size; omega
                intro v6 w6 hown6 hgrow6 _
                have HO6 : Hid (w6.ownsRow w.heap.size 5 1 v6 ((f ++ p) ++ [13]).length (((f ++ p) ++ [13]).map byteV)) := own_cast hown6 (by simp only [List.length_append, List.length_cons, List.length_nil] <;> omega) (by simp)
                have HB6 : Hid (Below w.heap.size w w6) := (HB2.out.alloc (by have := HB2.out.size; omega) _).grown hgrow6 (by have := HB2.out.size; simp; omega) (fun q hq => (HO2.out.lt q hq).1)
                have hl6 : ((f ++ p) ++ [13]).length = ((f ++ p)).length + 1 := by simp only [List.length_append, List.length_cons, List.length_nil] <;> omega
                clear hown6 hgrow6
                go_wp2_with (at_builtin; refine wpList_append_own _ rfl _ _ 22 rfl w.heap.size 5 i0 (.int .u8 0) 1 1 Tryd.underlying22 hi0 hz0 hz1 hz2 rfl (by decide) _ _ _ rfl (HO6.out.alloc _) ⟨w6.heap.size, 0, none⟩ 1 1 [byteV 10] rfl rfl ?c1 ?c2 ?c3 ?c4 ?c5 ?_)
                case c1 => exact cell_one_new w6 _ _
                case c2 => exact news_one [10]
                case c3 => unfold maxLen; omega
                case c4 => omega
                case c5 => simp; have := HB6.out.size; omega
                intro v7 w7 hown7 hgrow7 _
                have HO7 : Hid (w7.ownsRow w.heap.size 5 1 v7 ((f ++ p ++ [13]) ++ [10]).length (((f ++ p ++ [13]) ++ [10]).map byteV)) := own_cast hown7 (by simp only [List.length_append, List.length_cons, List.length_nil] <;> omega) (by simp)
                have HB7 : Hid (Below w.heap.size w w7) := (HB6.out.alloc (by have := HB6.out.size; omega) _).grown hgrow7 (by have := HB6.out.size; simp; omega) (fun q hq => (HO6.out.lt q hq).1)
                have hl7 : ((f ++ p ++ [13]) ++ [10]).length = ((f ++ p ++ [13])).length + 1 := by simp only [List.length_append, List.length_cons, List.length_nil] <;> omega
                clear hown7 hgrow7
                go_wp2
                go_roundg (ls.length - (i + 1))
                case measure => omega
                case rel =>
                  refine ⟨i + 1, f ++ p ++ [13] ++ [10], O2 ++ ⟨#[13]⟩ ++ ⟨#[10]⟩, by omega, rfl, by go_num, rfl, ?_, by omega, HO7.out, ?_, HB7.out⟩
                  · simp only [ByteArray.size_append]
                    have : (⟨#[10]⟩ : ByteArray).size = 1 := rfl
                    have : (⟨#[13]⟩ : ByteArray).size = 1 := rfl
                    omega
                  · have := HA.out.append (ahead_plain HP.out [] (by simp [isBl]) true)
                    unfold Hid
                    simp only [cat_toList, HQ.out]
                    simpa using this
              · go_wp2_with (at_builtin; refine wpList_append_own _ rfl _ _ 22 rfl w.heap.size 5 i0 (.int .u8 0) 1 1 Tryd.underlying22 hi0 hz0 hz1 hz2 rfl (by decide) _ _ _ rfl (HO2.out.alloc _) ⟨wc.heap.size, 0, none⟩ 1 1 [byteV 10] rfl rfl ?c1 ?c2 ?c3 ?c4 ?c5 ?_)
                case c1 => exact cell_one_new wc _ _
                case c2 => exact news_one [10]
                case c3 => unfold maxLen; omega
                case c4 => omega
                case c5 => simp; have := HB2.out.size; omega
                intro v7 w7 hown7 hgrow7 _
                have HO7 : Hid (w7.ownsRow w.heap.size 5 1 v7 ((f ++ p) ++ [10]).length (((f ++ p) ++ [10]).map byteV)) := own_cast hown7 (by simp only [List.length_append, List.length_cons, List.length_nil] <;> omega) (by simp)
                have HB7 : Hid (Below w.heap.size w w7) := (HB2.out.alloc (by have := HB2.out.size; omega) _).grown hgrow7 (by have := HB2.out.size; simp; omega) (fun q hq => (HO2.out.lt q hq).1)
                have hl7 : ((f ++ p) ++ [10]).length = ((f ++ p)).length + 1 := by simp only [List.length_append, List.length_cons, List.length_nil] <;> omega
                clear hown7 hgrow7
                go_wp2
                go_roundg (ls.length - (i + 1))
                case measure => omega
                case rel =>
                  refine ⟨i + 1, f ++ p ++ [10], O2 ++ ⟨#[10]⟩, by omega, rfl, by go_num, rfl, ?_, by omega, HO7.out, ?_, HB7.out⟩
                  · simp only [ByteArray.size_append]
                    have : (⟨#[10]⟩ : ByteArray).size = 1 := rfl
                    have : (⟨#[13]⟩ : ByteArray).size = 1 := rfl
                    omega
                  · have := HA.out.append (ahead_plain HP.out [] (by simp [isBl]) false)
                    unfold Hid
                    simp only [cat_toList, HQ.out]
                    simpa using this
      · obtain rfl : i = ls.length := by omega
        have HD : Hid (decQ f = some O.data.toList) := HA.out.whole
        have HF := Lib.hid (decode_any _ f wr (bytesArg_owned HO.out) (by omega))
        go_wp2_with fail
        with_reducible refine HF.out.mono ?_
        rintro e w3 ⟨hb3, u, rfl, hown3⟩
        rw [HD.out] at hown3
        rw [HD.out]
        have hst := run_string_of_owned (P := Tryd.prog) Tryd.underlying22 Tryd.underlying5 Tryd.underlying9 hown3
        have HB3 := Lib.hid (HB.out.trans (hb3.mono HB.out.size))
        have hZ : (⟨(some O.data.toList : Option (List UInt8)).getD [] |>.toArray⟩ : ByteArray) = O := bytes_eq (by simp)
        rw [hZ] at hst
        clear hb3 hown3 hZ
        go_wp2
        go_ret
        exact ⟨rfl, HB3.out⟩
end Go.Proofs.YtdofnejgfcnnoaaDoor
