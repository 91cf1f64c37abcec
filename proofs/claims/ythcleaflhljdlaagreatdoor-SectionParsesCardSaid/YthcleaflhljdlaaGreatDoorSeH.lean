/- Contracts of package section: spec. -/
import Derived.Test.YthcleaflhljdlaaGreatDoorSeG
import Derived.Deep.RegionHeld
import Derived.Laws.Rows
import Derived.Deep.DeepCutAuto
import Derived.Deep.CutBlock
namespace Go.Proofs.YthcleaflhljdlaaGreatDoor
open Go Go.RowKit

def specT (l : List UInt8) : Option (Spc × List UInt8) :=
  match takeP [91] l with
  | none => none
  | some l1 =>
    match askL (l1.length + 1) l1 [] with
    | none => none
    | some (p, k, l2) =>
      match namesL l2 with
      | none => none
      | some (ns, l3) =>
        match takeP [93] l3 with
        | none => none
        | some l4 =>
          match cutL l4 with
          | none => none
          | some (c, a, b, l5) => some (⟨p, (k : Int), ns, c, a, b⟩, l5)
theorem specL_T (l : List UInt8) : specL l = match specT l with | some (s, r) => if r = [] then some s else none | none => none := by
  unfold specL specT
  cases takeP [91] l with
  | none => rfl
  | some l1 =>
    simp only
    cases askL (l1.length + 1) l1 [] with
    | none => rfl
    | some x =>
      obtain ⟨p, k, l2⟩ := x
      simp only
      cases namesL l2 with
      | none => rfl
      | some y =>
        obtain ⟨ns, l3⟩ := y
        simp only
        cases takeP [93] l3 with
        | none => rfl
        | some l4 =>
          simp only
          cases cutL l4 with
          | none => rfl
          | some z => rfl
theorem specT_1 {l : List UInt8} (h : takeP [91] l = none) : specT l = none := by unfold specT; rw [h]
theorem specT_2 {l l1 : List UInt8} (h : takeP [91] l = some l1) (h2 : askL (l1.length + 1) l1 [] = none) : specT l = none := by unfold specT; rw [h]; simp only; rw [h2]
theorem specT_3 {l l1 l2 : List UInt8} {p : List Int} {k : Nat} (h : takeP [91] l = some l1) (h2 : askL (l1.length + 1) l1 [] = some (p, k, l2)) (h3 : namesL l2 = none) : specT l = none := by unfold specT; rw [h]; simp only; rw [h2]; simp only; rw [h3]
theorem specT_4 {l l1 l2 l3 : List UInt8} {p : List Int} {k : Nat} {ns : List (List UInt8)} (h : takeP [91] l = some l1) (h2 : askL (l1.length + 1) l1 [] = some (p, k, l2)) (h3 : namesL l2 = some (ns, l3)) (h4 : takeP [93] l3 = none) : specT l = none := by
  unfold specT; rw [h]; simp only; rw [h2]; simp only; rw [h3]; simp only; rw [h4]
theorem specT_5 {l l1 l2 l3 l4 : List UInt8} {p : List Int} {k : Nat} {ns : List (List UInt8)} (h : takeP [91] l = some l1) (h2 : askL (l1.length + 1) l1 [] = some (p, k, l2)) (h3 : namesL l2 = some (ns, l3)) (h4 : takeP [93] l3 = some l4) (h5 : cutL l4 = none) : specT l = none := by
  unfold specT; rw [h]; simp only; rw [h2]; simp only; rw [h3]; simp only; rw [h4]; simp only; rw [h5]
theorem specT_6 {l l1 l2 l3 l4 l5 : List UInt8} {p : List Int} {k : Nat} {ns : List (List UInt8)} {c : Bool} {a b : Int} (h : takeP [91] l = some l1) (h2 : askL (l1.length + 1) l1 [] = some (p, k, l2)) (h3 : namesL l2 = some (ns, l3)) (h4 : takeP [93] l3 = some l4) (h5 : cutL l4 = some (c, a, b, l5)) : specT l = some (⟨p, (k : Int), ns, c, a, b⟩, l5) := by
  unfold specT; rw [h]; simp only; rw [h2]; simp only; rw [h3]; simp only; rw [h4]; simp only; rw [h5]

/-- A spec as a value: its rows are the call's own. -/
def SpV (base : Nat) (W : World) (s : Spc) (v : Value) : Prop :=
  ∃ a1 c1 a2 c2, v = .agg #[.slice a1 s.path.length c1, .int .i64 s.what, .slice a2 s.names.length c2, .bool s.cut, .int .i64 s.frm, .int .i64 s.many] ∧
    W.ownsRow base 3 1 (.slice a1 s.path.length c1) s.path.length (s.path.map intV) ∧ W.ownsRow base 9 1 (.slice a2 s.names.length c2) s.names.length (s.names.map strV)
theorem SpV.below {base : Nat} {W W' : World} {s : Spc} {v : Value} (h : SpV base W s v) (hb : Below W.heap.size W W') : SpV base W' s v := by
  obtain ⟨a1, c1, a2, c2, e, h1, h2⟩ := h
  exact ⟨a1, c1, a2, c2, e, ownsRow_below h1 hb, ownsRow_below h2 hb⟩
theorem wpAnyH_skip {P : Program} {ops : Array Oper} {Q : Exit → Act → World → Prop} {md : Region.Mode} {S : World → Prop} {i : Nat} {oi : Oper} {fuel : Nat} {listed : Array Bool} {a : Act} {w : World} (hi : ops[i]? = some oi)
    (hs : Region.noSelect ops = true) (hf : Region.free md ops listed i = true) (hr : (Region.ready md ops listed).contains i = true)
    (hQ : ∀ c a w, Q (.panic c) (a.put oi.dst undef) w → Q (.panic c) a w) (hw : Region.wanted oi (yielded ops a.tmps) = false) (hS : S w)
    (h : wpAnyH P md ops Q S fuel (listed.setIfInBounds i true) (a.put oi.dst undef) w) : wpAnyH P md ops Q S (fuel + 1) listed a w :=
  wpAnyH_take hi hs hf hr hQ (.inr ⟨hw, rfl⟩) hS h
theorem wpAnyH_takeV {P : Program} {ops : Array Oper} {Q : Exit → Act → World → Prop} {md : Region.Mode} {S : World → Prop} {i : Nat} {oi : Oper} {fuel : Nat} {listed : Array Bool} {a : Act} {w : World} (hi : ops[i]? = some oi)
    (hs : Region.noSelect ops = true) (hf : Region.free md ops listed i = true) (hr : (Region.ready md ops listed).contains i = true)
    (hQ : ∀ v c a w, Q (.panic c) (a.put oi.dst v) w → Q (.panic c) a w) (hw : Region.wanted oi (yielded ops a.tmps) = true) (hS : S w)
    (h : ∃ v, (∀ w, S w → (execOp a.eval oi).run P w = .ok (.value v) w) ∧ wpAnyH P md ops Q S fuel (listed.setIfInBounds i true) (a.put oi.dst v) w) : wpAnyH P md ops Q S (fuel + 1) listed a w :=
  let ⟨v, h1, h2⟩ := h
  wpAnyH_take hi hs hf hr (hQ v) (.inl ⟨hw, h1⟩) hS h2
theorem results_cell_row2 {P : Program} {fn : Func} {p u : Tmp} {ty : TypeId} (h : fn.results = #[.cell p ty, .tmp u]) (tmps : Array Value) (w : World) (g : Nat) (t : TypeId) (cs : Array Value) (fr : Nat × Nat) (d : TypeDesc)
    (hp : tmps.getD p undef = .pointer (some ⟨g, 0, none⟩)) (hg : w.heap[g]? = some (.cells cs t fr))
    (hu : P.underlying ty = some d) (hd : (match d with | .struct _ | .array _ _ => true | _ => false) = true) (hi : (P.info? ty).map (·.size) = some cs.size) :
    (results fn tmps).run P w = .ok (.tuple #[.agg cs, tmps.getD u undef]) w := by
  have hp' : tmps[p]?.getD undef = .pointer (some ⟨g, 0, none⟩) := by simpa using hp
  simp [results, h, hp', asAddr, run_loadVar_row w g t ty cs fr d hg hu hd hi]
theorem Box.six {W : World} {S : Nat} {vp : Value} {k : Int} {vn : Value} {c : Bool} {a b : Int} (h : Box W S vp k vn c a b) (up un : Value) (q x y : Int) (e : Bool) :
    Box ((((((W.setCell ⟨S, 0, none⟩ up).setCell ⟨S, 1, none⟩ (.int .i64 q)).setCell ⟨S, 2, none⟩ un).setCell ⟨S, 3, none⟩ (.bool e)).setCell ⟨S, 4, none⟩ (.int .i64 x)).setCell ⟨S, 5, none⟩ (.int .i64 y)).drew S up q un e x y :=
  have h0 := h.set0 up
  have h1 := h0.set1 q
  have h2 := h1.set2 un
  have h3 := h2.set3 e
  have h4 := h3.set45 x y
  h4.below (Below.refl _ _).drew
theorem Gr.six {B R : Nat} {w W : World} (h : Gr B w W) (hR : w.heap.size ≤ R) (v0 v1 v2 v3 v4 v5 : Value) :
    Gr B w ((((((W.setCell ⟨R, 0, none⟩ v0).setCell ⟨R, 1, none⟩ v1).setCell ⟨R, 2, none⟩ v2).setCell ⟨R, 3, none⟩ v3).setCell ⟨R, 4, none⟩ v4).setCell ⟨R, 5, none⟩ v5).drew :=
  h.low (((((((Below.refl w.heap.size W).setCell (p := ⟨R, 0, none⟩) hR _).setCell (p := ⟨R, 1, none⟩) hR _).setCell (p := ⟨R, 2, none⟩) hR _).setCell (p := ⟨R, 3, none⟩) hR _).setCell (p := ⟨R, 4, none⟩) hR _).setCell (p := ⟨R, 5, none⟩) hR _).drew
theorem own_six {R base : Nat} {W : World} {e : TypeId} {v : Value} {n : Nat} {xs : List Value} (h : W.ownsRow base e 1 v n xs) (hB : R < base) (v0 v1 v2 v3 v4 v5 : Value) :
    ((((((W.setCell ⟨R, 0, none⟩ v0).setCell ⟨R, 1, none⟩ v1).setCell ⟨R, 2, none⟩ v2).setCell ⟨R, 3, none⟩ v3).setCell ⟨R, 4, none⟩ v4).setCell ⟨R, 5, none⟩ v5).drew.ownsRow base e 1 v n xs :=
  have h0 := own_set (j := 0) (u := v0) h hB
  have h1 := own_set (j := 1) (u := v1) h0 hB
  have h2 := own_set (j := 2) (u := v2) h1 hB
  have h3 := own_set (j := 3) (u := v3) h2 hB
  have h4 := own_set (j := 4) (u := v4) h3 hB
  have h5 := own_set (j := 5) (u := v5) h4 hB
  ownsRow_below h5 (Below.refl _ _).drew
def SpecIs (B : Nat) (w : World) (o : Option Spc) (e : Ending) (w' : World) : Prop :=
  match o with
  | some sp => ∃ v, e = .returned (.tuple #[v, .bool true]) ∧ SpV w.heap.size w' sp v ∧ Gr B w w'
  | none => ∃ a1 n1 c1 q a2 n2 c2 c x y, e = .returned (.tuple #[.agg #[.slice a1 n1 c1, .int .i64 q, .slice a2 n2 c2, .bool c, .int .i64 x, .int .i64 y], .bool false]) ∧ Gr B w w'
theorem G2.toGr {B S : Nat} {w w1 w' : World} (hb : Below w.heap.size w w1) (h : G2 B S w1 w') (hS : w.heap.size ≤ S) : Gr B w w' :=
  ⟨h.os.trans hb.os, h.tape.trans hb.tape, h.output.trans hb.output, Nat.le_trans hb.size h.size, fun i hi hne => (h.block i (Nat.lt_of_lt_of_le hi hb.size) (fun e => hne (by rw [e])) (by omega)).trans (hb.block i hi)⟩
theorem Box.g2 {B S : Nat} {W W' : World} {R : Nat} {vp : Value} {k : Int} {vn : Value} {c : Bool} {a b : Int} (h : Box W R vp k vn c a b) (hg : G2 B S W W') (h1 : R ≠ B) (h2 : R ≠ S) : Box W' R vp k vn c a b := h.block (hg.block R h.lt h1 h2)
theorem own_g2 {B S base : Nat} {W W' : World} {e : TypeId} {v : Value} {n : Nat} {xs : List Value} (h : W.ownsRow base e 1 v n xs) (hg : G2 B S W W') (hB : B < base) (hS : S < base) : W'.ownsRow base e 1 v n xs := by
  refine ⟨h.1, ?_⟩
  rcases h.2 with h2 | ⟨g, cap, cur, hv, hbg, hh, r⟩
  · exact .inl h2
  · exact .inr ⟨g, cap, cur, hv, hbg, (hg.block g (Array.getElem?_eq_some_iff.1 hh).1 (by omega) (by omega)).trans hh, r⟩
theorem SpV.of {base : Nat} {W : World} {sp : Spc} {a1 a2 : Option Addr} {n1 n2 c1 c2 : Nat} (hp : n1 = sp.path.length) (hn : n2 = sp.names.length) (h1 : W.ownsRow base 3 1 (.slice a1 n1 c1) sp.path.length (sp.path.map intV)) (h2 : W.ownsRow base 9 1 (.slice a2 n2 c2) sp.names.length (sp.names.map strV)) :
    SpV base W sp (.agg #[.slice a1 n1 c1, .int .i64 sp.what, .slice a2 n2 c2, .bool sp.cut, .int .i64 sp.frm, .int .i64 sp.many]) := by
  subst hp hn
  exact ⟨a1, c1, a2, c2, rfl, h1, h2⟩
set_option maxRecDepth 100000 in
set_option maxHeartbeats 4000000 in
theorem spec_any (B : Nat) (s : ByteArray) (w : World) (hr : Rd w B s 0) (hl : s.size ≤ 1000000000) (hw : wrds w) (hB : 0 ≠ B) :
    Calls Tryz.prog 17 #[.pointer (some ⟨B, 0, none⟩)] w (SpecIs B w (specL s.data.toList)) := by
  have hBw := hr.lt
  have hgl := hw.lt
  obtain ⟨W1, hW1⟩ : ∃ W1, W1 = (w.alloc (.cells #[.slice none 0 0, .int .i64 0, .slice none 0 0, .bool false, .int .i64 0, .int .i64 0] 26)).alloc (.cells #[.slice none 0 0, .int .i64 0, .slice none 0 0, .bool false, .int .i64 0, .int .i64 0] 26) := ⟨_, rfl⟩
  have hb0 := (Below.refl w.heap.size w).alloc (Nat.le_refl _) (.cells #[.slice none 0 0, .int .i64 0, .slice none 0 0, .bool false, .int .i64 0, .int .i64 0] 26)
  have hs0 : (w.alloc (.cells #[.slice none 0 0, .int .i64 0, .slice none 0 0, .bool false, .int .i64 0, .int .i64 0] 26)).heap.size = w.heap.size + 1 := by simp
  have HB1 : Hid (Below w.heap.size w W1) := by rw [hW1]; exact hb0.alloc (by omega) _
  have HR0 : Hid (Box W1 w.heap.size nilV 0 nilV false 0 0) := by
    unfold Hid Box
    rw [hW1, Below.heap_alloc _ _ _ (by omega)]
    exact heap_alloc_new _ _
  have HS0 : Hid (Box W1 (w.heap.size + 1) nilV 0 nilV false 0 0) := by
    unfold Hid Box
    rw [hW1, ← hs0]
    exact heap_alloc_new _ _
  have HRd := Lib.hid (hr.below HB1.out)
  have HWr := Lib.hid (hw.below HB1.out)
  obtain ⟨R, hR⟩ : ∃ R, R = w.heap.size := ⟨_, rfl⟩
  obtain ⟨S, hS⟩ : ∃ S, S = w.heap.size + 1 := ⟨_, rfl⟩
  rw [← hR] at HR0
  rw [← hS] at HS0
  have hBR : B < R := by omega
  have hRS : R < S := by omega
  have hBS : B ≠ S := by omega
  have HRE := Lib.hid hR
  clear hr hw hb0
  go_enter Tryz.func17, Tryz.ntmps17
  go_upto_region 2 with fail
  rw [← hW1, ← hS, ← hR]
  have HSE := Lib.hid hS
  clear hW1 hS hR hs0
  go_cut [5] (fun v5 wx => ∃ (b : Bool) (j n1 n2 c1 c2 : Nat) (a1 a2 : Option Addr) (q : Int) (c : Bool) (x y : Int), v5 = .bool b ∧ j ≤ s.size ∧ Hid (Rd wx B s j) ∧ Hid (Box wx S (.slice a1 n1 c1) q (.slice a2 n2 c2) c x y) ∧ Hid (Box wx R nilV 0 nilV false 0 0) ∧ Hid (Gr B w wx) ∧
    Hid (if b = true then ∃ sp, specT s.data.toList = some (sp, s.data.toList.drop j) ∧ sp.path.length = n1 ∧ sp.what = q ∧ sp.names.length = n2 ∧ sp.cut = c ∧ sp.frm = x ∧ sp.many = y ∧ wx.ownsRow (S + 1) 3 1 (.slice a1 n1 c1) sp.path.length (sp.path.map intV) ∧ wx.ownsRow (S + 1) 9 1 (.slice a2 n2 c2) sp.names.length (sp.names.map strV) else specT s.data.toList = none))
  case first =>
    have HG0 : Hid (∀ W, G2 B S W1 W → Gr B w W) := fun W h => h.toGr HB1.out (by have := HSE.out; omega)
    have HD0 : Hid (s.data.toList.drop 0 = s.data.toList) := List.drop_zero
    cases h1 : takeP [91] s.data.toList with
    | none =>
      have HT := Lib.hid (takes_no B s 0 _ [91] ⟨#[91]⟩ W1 rfl (by decide) HD0.out h1 HRd.out hl (Nat.zero_le _))
      have HE := Lib.hid (specT_1 h1)
      clear h1
      go_wp2_with fail
      with_reducible refine HT.out.mono ?_
      rintro e w2 ⟨rfl, hR2, hG2⟩
      have HG2 := Lib.hid ((G2.refl B S W1).gr hG2)
      have HR2 := Lib.hid hR2
      have HS2 := Lib.hid (HS0.out.gr hG2 hBS.symm)
      clear hR2 hG2
      go_wp2_with fail
      go_meet
      exact ⟨false, 0, 0, 0, 0, 0, none, none, 0, false, 0, 0, rfl, Nat.zero_le _, HR2.out, HS2.out, HR0.out.g2 HG2.out (by omega) (by omega), HG0.out _ HG2.out, HE.out⟩
    | some l1 =>
      have HT := Lib.hid (takes_yes B s 0 _ [91] ⟨#[91]⟩ l1 W1 rfl (by decide) HD0.out h1 HRd.out hl (Nat.zero_le _))
      have H1 := Lib.hid h1
      clear h1
      go_wp2_with fail
      with_reducible refine HT.out.mono ?_
      rintro e w2 ⟨rfl, k2, hR2, hk2, hD2, hG2⟩
      have HG2 := Lib.hid ((G2.refl B S W1).gr hG2)
      have HS2 := Lib.hid (HS0.out.gr hG2 hBS.symm)
      have HZ2 : Hid (S + 1 ≤ w2.heap.size) := HS2.out.lt
      have HWr2 : Hid (wrds w2) := HWr.out.gr hG2 hB
      have HA := asked_any B S s k2 w2 hR2 HS2.out hBS hl hk2 HWr2.out hB (by have := HSE.out; omega)
      rw [hD2] at HA
      unfold AskIs at HA
      clear hR2 hG2 hD2 HT
      cases h2 : askL (l1.length + 1) l1 [] with
      | none =>
        rw [h2] at HA
        have HA := Lib.hid HA
        have HE := Lib.hid (specT_2 H1.out h2)
        clear h2
        go_wp2_with fail
        with_reducible refine HA.out.mono ?_
        rintro e w3 ⟨rfl, k3, ao, n, cap, q, hR3, hk3, hX3, hG3⟩
        have HG3 := Lib.hid (HG2.out.trans hG3)
        have HR3 := Lib.hid hR3
        have HX3 := Lib.hid hX3
        clear hR3 hX3 hG3
        go_wp2_with fail
        go_meet
        exact ⟨false, k3, n, 0, cap, 0, ao, none, q, false, 0, 0, rfl, hk3, HR3.out, HX3.out, HR0.out.g2 HG3.out (by omega) (by omega), HG0.out _ HG3.out, HE.out⟩
      | some pk =>
        obtain ⟨p, k, l2⟩ := pk
        rw [h2] at HA
        have HA := Lib.hid HA
        simp only at HA
        have H2 := Lib.hid h2
        clear h2
        go_wp2_with fail
        with_reducible refine HA.out.mono ?_
        rintro e w3 ⟨rfl, k3, vp, hR3, hk3, hD3, hX3, hO3, hG3⟩
        obtain ⟨ap, cp, rfl⟩ := own_slice hO3
        have HO3 := Lib.hid (own_base hO3 HZ2.out)
        have HG3 := Lib.hid (HG2.out.trans hG3)
        have HX3 := Lib.hid hX3
        have HZ3 : Hid (S + 1 ≤ w3.heap.size) := HX3.out.lt
        have HN := names_any B S s k3 _ _ w3 hR3 hX3 hBS hl hk3
        rw [hD3] at HN
        unfold NmsIs at HN
        clear hR3 hX3 hG3 hD3 hO3 HA HG2 HS2
        cases h3 : namesL l2 with
        | none =>
          rw [h3] at HN
          have HN := Lib.hid HN
          have HE := Lib.hid (specT_3 H1.out H2.out h3)
          clear h3
          go_wp2_with fail
          with_reducible refine HN.out.mono ?_
          rintro e w4 ⟨rfl, k4, ao, n, cap, hR4, hk4, hX4, hG4⟩
          have HG4 := Lib.hid (HG3.out.trans hG4)
          have HR4 := Lib.hid hR4
          have HX4 := Lib.hid hX4
          clear hR4 hX4 hG4
          go_wp2_with fail
          go_meet
          exact ⟨false, k4, p.length, n, cp, cap, ap, ao, _, false, 0, 0, rfl, hk4, HR4.out, HX4.out, HR0.out.g2 HG4.out (by omega) (by omega), HG0.out _ HG4.out, HE.out⟩
        | some nr =>
          obtain ⟨ns, l3⟩ := nr
          rw [h3] at HN
          have HN := Lib.hid HN
          simp only at HN
          have H3 := Lib.hid h3
          clear h3
          go_wp2_with fail
          with_reducible refine HN.out.mono ?_
          rintro e w4 ⟨rfl, k4, vn, hR4, hk4, hD4, hX4, hO4, hG4⟩
          obtain ⟨an, cn, rfl⟩ := own_slice hO4
          have HO4n := Lib.hid (own_base hO4 HZ3.out)
          have HO4 := Lib.hid (own_g2 HO3.out hG4 (by omega) (by omega))
          have HG4 := Lib.hid (HG3.out.trans hG4)
          have HX4 := Lib.hid hX4
          have HR4 := Lib.hid hR4
          have HD4 := Lib.hid hD4
          clear hR4 hX4 hG4 hD4 hO4 HN HG3 HX3 HO3
          cases h4 : takeP [93] l3 with
          | none =>
            have HT := Lib.hid (takes_no B s k4 _ [93] ⟨#[93]⟩ w4 rfl (by decide) HD4.out h4 HR4.out hl hk4)
            have HE := Lib.hid (specT_4 H1.out H2.out H3.out h4)
            clear h4
            go_wp2_with fail
            with_reducible refine HT.out.mono ?_
            rintro e w5 ⟨rfl, hR5, hG5⟩
            have HG5 := Lib.hid (HG4.out.gr hG5)
            have HR5 := Lib.hid hR5
            have HX5 := Lib.hid (HX4.out.gr hG5 hBS.symm)
            clear hR5 hG5
            go_wp2_with fail
            go_meet
            exact ⟨false, k4, _, _, _, _, _, _, _, _, _, _, rfl, hk4, HR5.out, HX5.out, HR0.out.g2 HG5.out (by omega) (by omega), HG0.out _ HG5.out, HE.out⟩
          | some l4 =>
            have HT := Lib.hid (takes_yes B s k4 _ [93] ⟨#[93]⟩ l4 w4 rfl (by decide) HD4.out h4 HR4.out hl hk4)
            have H4 := Lib.hid h4
            clear h4
            go_wp2_with fail
            with_reducible refine HT.out.mono ?_
            rintro e w5 ⟨rfl, k5, hR5, hk5, hD5, hG5⟩
            have HG5 := Lib.hid (HG4.out.gr hG5)
            have HX5 := Lib.hid (HX4.out.gr hG5 hBS.symm)
            have HO5 := Lib.hid (own_gr HO4.out hG5 (by omega))
            have HO5n := Lib.hid (own_gr HO4n.out hG5 (by omega))
            have HC := cut_sec B S s k5 _ _ _ w5 hR5 HX5.out hBS hl hk5
            rw [hD5] at HC
            unfold CutIs at HC
            clear hR5 hG5 hD5 HT HG4 HX4 HO4 HO4n HR4
            cases h5 : cutL l4 with
            | none =>
              rw [h5] at HC
              have HC := Lib.hid HC
              have HE := Lib.hid (specT_5 H1.out H2.out H3.out H4.out h5)
              clear h5
              go_wp2_with fail
              with_reducible refine HC.out.mono ?_
              rintro e w6 ⟨rfl, k6, c, a, b, hR6, hk6, hX6, hG6⟩
              have HG6 := Lib.hid (HG5.out.trans hG6)
              have HR6 := Lib.hid hR6
              have HX6 := Lib.hid hX6
              clear hR6 hX6 hG6
              go_wp2_with fail
              go_meet
              exact ⟨false, k6, _, _, _, _, _, _, _, _, _, _, rfl, hk6, HR6.out, HX6.out, HR0.out.g2 HG6.out (by omega) (by omega), HG0.out _ HG6.out, HE.out⟩
            | some cr =>
              obtain ⟨c, a, b, l5⟩ := cr
              rw [h5] at HC
              have HC := Lib.hid HC
              simp only at HC
              have HE := Lib.hid (specT_6 H1.out H2.out H3.out H4.out h5)
              clear h5
              go_wp2_with fail
              with_reducible refine HC.out.mono ?_
              rintro e w6 ⟨rfl, k6, hR6, hk6, hD6, hX6, hG6⟩
              have HO6 := Lib.hid (own_g2 HO5.out hG6 (by omega) (by omega))
              have HO6n := Lib.hid (own_g2 HO5n.out hG6 (by omega) (by omega))
              have HG6 := Lib.hid (HG5.out.trans hG6)
              have HR6 := Lib.hid hR6
              have HX6 := Lib.hid hX6
              have HD6 := Lib.hid hD6
              clear hR6 hX6 hG6 hD6
              go_wp2_with fail
              go_meet
              exact ⟨true, k6, _, _, _, _, _, _, _, _, _, _, rfl, hk6, HR6.out, HX6.out, HR0.out.g2 HG6.out (by omega) (by omega), HG0.out _ HG6.out, ⟨⟨p, (k : Int), ns, c, a, b⟩, by rw [HD6.out]; exact HE.out, rfl, rfl, rfl, rfl, rfl, rfl, HO6.out, HO6n.out⟩⟩
  case rest =>
    obtain ⟨b, j, m1, m2, d1, d2, a1, a2, q, c, x, y, rfl, hj, HR2, HX2, HRx, HG2, HT⟩ := hcut
    cases b with
    | false =>
      have HE : Hid (specL s.data.toList = none) := by
        have h : specT s.data.toList = none := HT.out
        unfold Hid
        rw [specL_T, h]
      clear HT
      have c0 := HR2.out.c0
      have c1 := HR2.out.c1
      obtain ⟨k0, k1, k2, k3, k4, k5⟩ := HX2.out.c
      obtain ⟨r0, r1, r2, r3, r4, r5⟩ := HRx.out.c
      have f0 := HRx.out.f 0
      have f1 := HRx.out.f 1
      have f2 := HRx.out.f 2
      have f3 := HRx.out.f 3
      have f4 := HRx.out.f 4
      have f5 := HRx.out.f 5
      have n1 : ¬ R = B := by omega
      have n2 : ¬ R = S := by omega
      go_wp2_with fail
      refine wp_region_held_drew (S := fun W' => W'.cell? ⟨B, 0, none⟩ = some (.string s) ∧ W'.cell? ⟨B, 1, none⟩ = some (.int .i64 (j : Int)) ∧ W'.cell? ⟨S, 0, none⟩ = some (.slice a1 m1 d1) ∧ W'.cell? ⟨S, 1, none⟩ = some (.int .i64 q) ∧ W'.cell? ⟨S, 2, none⟩ = some (.slice a2 m2 d2) ∧ W'.cell? ⟨S, 3, none⟩ = some (.bool c) ∧ W'.cell? ⟨S, 4, none⟩ = some (.int .i64 x) ∧ W'.cell? ⟨S, 5, none⟩ = some (.int .i64 y)) (by kernel_rfl) ?hSd ?_
      case hSd => go_keep
      intro hS0
      refine wpAnyH_takeV (i := 0) (oi := { dst := some 24, op := Go.Op.load 26 (Go.Operand.tmp 4), type := 26, pos := "reader.go:19", after := #[], guard := none }) rfl (by kernel_rfl) (by kernel_rfl) (by kernel_rfl) (fun _ _ _ _ h => h) (by rfl) hS0 ?_
      apply Exists.intro
      refine ⟨fun w hSw => ?_, ?_⟩
      · obtain ⟨_, _, _, _, _, _, _, _⟩ := hSw
        go_simp
        try rfl
      try simp only [Act.put, List.setIfInBounds_toArray, List.set_cons_zero, List.set_cons_succ]
      refine wpAnyH_takeV (i := 1) (oi := { dst := some 25, op := Go.Op.move (Go.Operand.tmp 5), type := 4, pos := "reader.go:19", after := #[], guard := none }) rfl (by kernel_rfl) (by kernel_rfl) (by kernel_rfl) (fun _ _ _ _ h => h) (by rfl) hS0 ?_
      apply Exists.intro
      refine ⟨fun w hSw => ?_, ?_⟩
      · obtain ⟨_, _, _, _, _, _, _, _⟩ := hSw
        go_simp
        try rfl
      try simp only [Act.put, List.setIfInBounds_toArray, List.set_cons_zero, List.set_cons_succ]
      refine wpAnyH_takeV (i := 2) (oi := { dst := some 26, op := Go.Op.move (Go.Operand.tmp 25), type := 4, pos := "reader.go:19", after := #[{ on := 1, ground := Go.Ground.data }], guard := none }) rfl (by kernel_rfl) (by kernel_rfl) (by kernel_rfl) (fun _ _ _ _ h => h) (by rfl) hS0 ?_
      apply Exists.intro
      refine ⟨fun w hSw => ?_, ?_⟩
      · obtain ⟨_, _, _, _, _, _, _, _⟩ := hSw
        go_simp
        try rfl
      try simp only [Act.put, List.setIfInBounds_toArray, List.set_cons_zero, List.set_cons_succ]
      refine wpAnyH_skip (i := 3) (oi := { dst := some 27, op := Go.Op.move (Go.Operand.tmp 0), type := 66, pos := "reader.go:19", after := #[{ on := 2, ground := Go.Ground.guard }, { on := 14, ground := Go.Ground.gcOnly Go.Departure.lateStores }], guard := some (2, true) }) rfl (by kernel_rfl) (by kernel_rfl) (by kernel_rfl) (fun _ _ _ h => h) (by rfl) hS0 ?_
      try simp only [Act.put, List.setIfInBounds_toArray, List.set_cons_zero, List.set_cons_succ]
      refine wpAnyH_skip (i := 4) (oi := { dst := some 28, op := Go.Op.nilCheck (Go.Operand.tmp 27), type := 0, pos := "reader.go:19", after := #[{ on := 3, ground := Go.Ground.data }, { on := 2, ground := Go.Ground.guard }, { on := 14, ground := Go.Ground.gcOnly Go.Departure.lateStores }], guard := some (2, true) }) rfl (by kernel_rfl) (by kernel_rfl) (by kernel_rfl) (fun _ _ _ h => h) (by rfl) hS0 ?_
      try simp only [Act.put, List.setIfInBounds_toArray, List.set_cons_zero, List.set_cons_succ]
      refine wpAnyH_skip (i := 5) (oi := { dst := some 29, op := Go.Op.fieldAddr 49 (Go.Operand.tmp 28) 1, type := 0, pos := "reader.go:19", after := #[{ on := 4, ground := Go.Ground.data }, { on := 2, ground := Go.Ground.guard }, { on := 14, ground := Go.Ground.gcOnly Go.Departure.lateStores }], guard := some (2, true) }) rfl (by kernel_rfl) (by kernel_rfl) (by kernel_rfl) (fun _ _ _ h => h) (by rfl) hS0 ?_
      try simp only [Act.put, List.setIfInBounds_toArray, List.set_cons_zero, List.set_cons_succ]
      refine wpAnyH_skip (i := 6) (oi := { dst := some 30, op := Go.Op.load 3 (Go.Operand.tmp 29), type := 3, pos := "reader.go:19", after := #[{ on := 5, ground := Go.Ground.data }, { on := 2, ground := Go.Ground.guard }, { on := 14, ground := Go.Ground.gcOnly Go.Departure.lateStores }], guard := some (2, true) }) rfl (by kernel_rfl) (by kernel_rfl) (by kernel_rfl) (fun _ _ _ h => h) (by rfl) hS0 ?_
      try simp only [Act.put, List.setIfInBounds_toArray, List.set_cons_zero, List.set_cons_succ]
      refine wpAnyH_skip (i := 7) (oi := { dst := some 31, op := Go.Op.move (Go.Operand.tmp 0), type := 66, pos := "reader.go:19", after := #[{ on := 2, ground := Go.Ground.guard }], guard := some (2, true) }) rfl (by kernel_rfl) (by kernel_rfl) (by kernel_rfl) (fun _ _ _ h => h) (by rfl) hS0 ?_
      try simp only [Act.put, List.setIfInBounds_toArray, List.set_cons_zero, List.set_cons_succ]
      refine wpAnyH_skip (i := 8) (oi := { dst := some 32, op := Go.Op.nilCheck (Go.Operand.tmp 31), type := 0, pos := "reader.go:19", after := #[{ on := 7, ground := Go.Ground.data }, { on := 2, ground := Go.Ground.guard }], guard := some (2, true) }) rfl (by kernel_rfl) (by kernel_rfl) (by kernel_rfl) (fun _ _ _ h => h) (by rfl) hS0 ?_
      try simp only [Act.put, List.setIfInBounds_toArray, List.set_cons_zero, List.set_cons_succ]
      refine wpAnyH_skip (i := 9) (oi := { dst := some 33, op := Go.Op.fieldAddr 49 (Go.Operand.tmp 32) 0, type := 0, pos := "reader.go:19", after := #[{ on := 8, ground := Go.Ground.data }, { on := 2, ground := Go.Ground.guard }], guard := some (2, true) }) rfl (by kernel_rfl) (by kernel_rfl) (by kernel_rfl) (fun _ _ _ h => h) (by rfl) hS0 ?_
      try simp only [Act.put, List.setIfInBounds_toArray, List.set_cons_zero, List.set_cons_succ]
      refine wpAnyH_skip (i := 10) (oi := { dst := some 34, op := Go.Op.load 9 (Go.Operand.tmp 33), type := 9, pos := "reader.go:19", after := #[{ on := 9, ground := Go.Ground.data }, { on := 2, ground := Go.Ground.guard }], guard := some (2, true) }) rfl (by kernel_rfl) (by kernel_rfl) (by kernel_rfl) (fun _ _ _ h => h) (by rfl) hS0 ?_
      try simp only [Act.put, List.setIfInBounds_toArray, List.set_cons_zero, List.set_cons_succ]
      refine wpAnyH_skip (i := 11) (oi := { dst := some 35, op := Go.Op.call { callee := Go.Callee.builtin Go.Builtin.len, args := #[Go.Operand.tmp 34], argTypes := #[9] }, type := 3, pos := "reader.go:19", after := #[{ on := 10, ground := Go.Ground.data }, { on := 2, ground := Go.Ground.guard }], guard := some (2, true) }) rfl (by kernel_rfl) (by kernel_rfl) (by kernel_rfl) (fun _ _ _ h => h) (by rfl) hS0 ?_
      try simp only [Act.put, List.setIfInBounds_toArray, List.set_cons_zero, List.set_cons_succ]
      refine wpAnyH_skip (i := 12) (oi := { dst := some 36, op := Go.Op.binOp Go.BinOp.eql 3 (Go.Operand.tmp 30) (Go.Operand.tmp 35) 3, type := 4, pos := "reader.go:19", after := #[{ on := 6, ground := Go.Ground.data }, { on := 11, ground := Go.Ground.data }, { on := 2, ground := Go.Ground.guard }, { on := 14, ground := Go.Ground.gcOnly Go.Departure.lateStores }], guard := some (2, true) }) rfl (by kernel_rfl) (by kernel_rfl) (by kernel_rfl) (fun _ _ _ h => h) (by rfl) hS0 ?_
      try simp only [Act.put, List.setIfInBounds_toArray, List.set_cons_zero, List.set_cons_succ]
      refine wpAnyH_takeV (i := 13) (oi := { dst := some 37, op := Go.Op.pick (Go.Operand.tmp 26) (Go.Operand.tmp 36) (Go.Operand.const (Go.Value.bool false)), type := 4, pos := "reader.go:19", after := #[{ on := 2, ground := Go.Ground.data }, { on := 12, ground := Go.Ground.data }, { on := 14, ground := Go.Ground.gcOnly Go.Departure.lateStores }], guard := none }) rfl (by kernel_rfl) (by kernel_rfl) (by kernel_rfl) (fun _ _ _ _ h => h) (by rfl) hS0 ?_
      apply Exists.intro
      refine ⟨fun w hSw => ?_, ?_⟩
      · obtain ⟨_, _, _, _, _, _, _, _⟩ := hSw
        go_simp
        try rfl
      try simp only [Act.put, List.setIfInBounds_toArray, List.set_cons_zero, List.set_cons_succ]
      refine wpAnyH_ready (rs := [14]) (by kernel_rfl) (by simp) ?_
      refine AllReadyH.cons rfl (fun K hK => ?_) (AllReadyH.nil)
      go_simp
      refine hK.out _ _ ?_ (fun hS1 => ?_)
      · go_keep
      clear hK K hS0
      refine wpAnyH_ready (rs := [15]) (by kernel_rfl) (by simp) ?_
      refine AllReadyH.cons rfl (fun K hK => ?_) (AllReadyH.nil)
      go_simp
      refine hK.out _ _ ?_ (fun hS2 => ?_)
      · assumption
      clear hK K hS1 hS2
      refine wpAnyH_done (by kernel_rfl) ?_ _
      go_wp2_with fail
      refine bodyPost_ret (results_cell_row2 (P := Tryz.prog) Tryz.results17 _ _ R 26 _ (0, 0) _ rfl (Box.six HRx.out _ _ _ _ _ _) Tryz.underlying26 rfl (by kernel_rfl)) rfl ?_
      rw [HE.out]
      exact ⟨_, _, _, _, _, _, _, _, _, _, rfl, HG2.out.six (by have := HRE.out; omega) _ _ _ _ _ _⟩
    | true =>
      obtain ⟨sp, hsp, e1, e2, e3, e4, e5, e6, ho1, ho2⟩ : ∃ sp, specT s.data.toList = some (sp, s.data.toList.drop j) ∧ sp.path.length = m1 ∧ sp.what = q ∧ sp.names.length = m2 ∧ sp.cut = c ∧ sp.frm = x ∧ sp.many = y ∧ wc.ownsRow (S + 1) 3 1 (.slice a1 m1 d1) sp.path.length (sp.path.map intV) ∧ wc.ownsRow (S + 1) 9 1 (.slice a2 m2 d2) sp.names.length (sp.names.map strV) := HT.out
      have HE : Hid (specL s.data.toList = if s.data.toList.drop j = [] then some sp else none) := by
        unfold Hid
        rw [specL_T, hsp]
      have HO1 := Lib.hid ho1
      have HO2 := Lib.hid ho2
      have HEs := Lib.hid (And.intro e1 (And.intro e2 (And.intro e3 (And.intro e4 (And.intro e5 e6)))))
      clear HT hsp ho1 ho2 e1 e2 e3 e4 e5 e6
      have c0 := HR2.out.c0
      have c1 := HR2.out.c1
      obtain ⟨k0, k1, k2, k3, k4, k5⟩ := HX2.out.c
      obtain ⟨r0, r1, r2, r3, r4, r5⟩ := HRx.out.c
      have f0 := HRx.out.f 0
      have f1 := HRx.out.f 1
      have f2 := HRx.out.f 2
      have f3 := HRx.out.f 3
      have f4 := HRx.out.f 4
      have f5 := HRx.out.f 5
      have n1 : ¬ R = B := by omega
      have n2 : ¬ R = S := by omega
      by_cases hjs : j = s.size
      · have b1 : ((j : Int) == (s.size : Int)) = true := beq_yes (by omega)
        have HD : Hid (s.data.toList.drop j = []) := List.drop_eq_nil_of_le (by simp; omega)
        have HJ := Lib.hid hjs
        clear hjs
        go_wp2_with fail
        go_region_held (fun W' => W'.cell? ⟨B, 0, none⟩ = some (.string s) ∧ W'.cell? ⟨B, 1, none⟩ = some (.int .i64 (j : Int)) ∧ W'.cell? ⟨S, 0, none⟩ = some (.slice a1 m1 d1) ∧ W'.cell? ⟨S, 1, none⟩ = some (.int .i64 q) ∧ W'.cell? ⟨S, 2, none⟩ = some (.slice a2 m2 d2) ∧ W'.cell? ⟨S, 3, none⟩ = some (.bool c) ∧ W'.cell? ⟨S, 4, none⟩ = some (.int .i64 x) ∧ W'.cell? ⟨S, 5, none⟩ = some (.int .i64 y)) (go_keep) (fail)
        go_wp2_with fail
        refine bodyPost_ret (results_cell_row2 (P := Tryz.prog) Tryz.results17 _ _ R 26 _ (0, 0) _ rfl (Box.six HRx.out _ _ _ _ _ _) Tryz.underlying26 rfl (by kernel_rfl)) rfl ?_
        rw [HE.out, if_pos HD.out]
        obtain ⟨e1, e2, e3, e4, e5, e6⟩ := HEs.out
        subst e1 e2 e3 e4 e5 e6
        exact ⟨_, rfl, SpV.of rfl rfl (own_base (own_six HO1.out (by omega) _ _ _ _ _ _) (by have := HRE.out; omega)) (own_base (own_six HO2.out (by omega) _ _ _ _ _ _) (by have := HRE.out; omega)), HG2.out.six (by have := HRE.out; omega) _ _ _ _ _ _⟩
      · have b1 : ((j : Int) == (s.size : Int)) = false := beq_no (by omega)
        have HD : Hid (¬ s.data.toList.drop j = []) := by
          intro h
          have := congrArg List.length h
          simp only [List.length_drop, len_toList, List.length_nil] at this
          omega
        go_wp2_with fail
        go_region_held (fun W' => W'.cell? ⟨B, 0, none⟩ = some (.string s) ∧ W'.cell? ⟨B, 1, none⟩ = some (.int .i64 (j : Int)) ∧ W'.cell? ⟨S, 0, none⟩ = some (.slice a1 m1 d1) ∧ W'.cell? ⟨S, 1, none⟩ = some (.int .i64 q) ∧ W'.cell? ⟨S, 2, none⟩ = some (.slice a2 m2 d2) ∧ W'.cell? ⟨S, 3, none⟩ = some (.bool c) ∧ W'.cell? ⟨S, 4, none⟩ = some (.int .i64 x) ∧ W'.cell? ⟨S, 5, none⟩ = some (.int .i64 y)) (go_keep) (fail)
        go_wp2_with fail
        refine bodyPost_ret (results_cell_row2 (P := Tryz.prog) Tryz.results17 _ _ R 26 _ (0, 0) _ rfl (Box.six HRx.out _ _ _ _ _ _) Tryz.underlying26 rfl (by kernel_rfl)) rfl ?_
        rw [HE.out, if_neg HD.out]
        exact ⟨_, _, _, _, _, _, _, _, _, _, rfl, HG2.out.six (by have := HRE.out; omega) _ _ _ _ _ _⟩
end Go.Proofs.YthcleaflhljdlaaGreatDoor
