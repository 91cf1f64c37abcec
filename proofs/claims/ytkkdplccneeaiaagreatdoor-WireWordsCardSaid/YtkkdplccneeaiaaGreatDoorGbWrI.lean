/- Layer 18: contracts of package wire: a literal's head. -/
import Derived.Test.YtkkdplccneeaiaaGreatDoorGbWrF
namespace Go.Proofs.YtkkdplccneeaiaaGreatDoor
open Go Go.RowKit

/-- A box of two cells. -/
def B2 (W : World) (R : Nat) (t : TypeId) (x y : Value) : Prop := W.heap[R]? = some (.cells #[x, y] t (0, 0))
section
variable {W W' : World} {R : Nat} {t : TypeId} {x y : Value}
theorem B2.lt (h : B2 W R t x y) : R < W.heap.size := (Array.getElem?_eq_some_iff.1 h).1
theorem B2.c0 (h : B2 W R t x y) : W.cell? ⟨R, 0, none⟩ = some x := by unfold B2 at h; simp [World.cell?, h]
theorem B2.c1 (h : B2 W R t x y) : W.cell? ⟨R, 1, none⟩ = some y := by unfold B2 at h; simp [World.cell?, h]
theorem B2.f (h : B2 W R t x y) (j : Nat) : W.frozen? ⟨R, j, none⟩ = false := by unfold B2 at h; simp [World.frozen?, h]
theorem B2.block (h : B2 W R t x y) (hb : W'.heap[R]? = W.heap[R]?) : B2 W' R t x y := hb.trans h
theorem B2.below (h : B2 W R t x y) (hb : Below W.heap.size W W') : B2 W' R t x y := h.block (hb.block R h.lt)
theorem B2.gr {B : Nat} (h : B2 W R t x y) (hg : Gr B W W') (hne : R ≠ B) : B2 W' R t x y := h.block (hg.block R h.lt (fun e => hne (Option.some.inj e)))
theorem B2.set0 (h : B2 W R t x y) (u : Value) : B2 (W.setCell ⟨R, 0, none⟩ u) R t u y := by
  unfold B2 at h ⊢
  simp [World.setCell, Array.getElem?_modify, h]
theorem B2.set1 (h : B2 W R t x y) (u : Value) : B2 (W.setCell ⟨R, 1, none⟩ u) R t x u := by
  unfold B2 at h ⊢
  simp [World.setCell, Array.getElem?_modify, h]
theorem B2.new (w : World) (t : TypeId) (x y : Value) : B2 (w.alloc (.cells #[x, y] t)) w.heap.size t x y := heap_alloc_new w _
end
theorem results_cell_rowW {P : Program} {fn : Func} {p u : Tmp} {ty : TypeId} (h : fn.results = #[.cell p ty, .tmp u]) (tmps : Array Value) (w : World) (g : Nat) (t : TypeId) (cs : Array Value) (fr : Nat × Nat) (d : TypeDesc)
    (hp : tmps.getD p undef = .pointer (some ⟨g, 0, none⟩)) (hg : w.heap[g]? = some (.cells cs t fr))
    (hu : P.underlying ty = some d) (hd : (match d with | .struct _ | .array _ _ => true | _ => false) = true) (hi : (P.info? ty).map (·.size) = some cs.size) :
    (results fn tmps).run P w = .ok (.tuple #[.agg cs, tmps.getD u undef]) w := by
  have hp' : tmps[p]?.getD undef = .pointer (some ⟨g, 0, none⟩) := by simpa using hp
  simp [results, h, hp', asAddr, run_loadVar_row w g t ty cs fr d hg hu hd hi]
theorem isPre1 (c : UInt8) (l : List UInt8) : ([c] : List UInt8).isPrefixOf l = true ↔ ∃ r, l = c :: r := by
  rw [List.isPrefixOf_iff_prefix]
  exact ⟨fun ⟨r, h⟩ => ⟨r, h.symm⟩, fun ⟨r, h⟩ => ⟨r, h.symm⟩⟩
theorem isPre1_no {c : UInt8} {l : List UInt8} (h : ([c] : List UInt8).isPrefixOf l = false) : ∀ r, l ≠ c :: r := by
  intro r e
  rw [(isPre1 c l).2 ⟨r, e⟩] at h
  cases h
theorem headW_none {l : List UInt8} (h1 : ∀ r, l ≠ 123 :: r) (h2 : ∀ r, l ≠ 126 :: 123 :: r) : headW l = none := by
  unfold headW
  split
  · next r => exact absurd rfl (h2 r)
  · next r => exact absurd rfl (h1 r)
  · rfl
/-- How a head begins: perhaps a tilde, then a brace. -/
theorem head_open {l : List UInt8} {k : Nat} (hk : k ≤ l.length) (x1 x2 : Bool) (h1 : ([126] : List UInt8).isPrefixOf (l.drop k) = x1) (h2 : ([123] : List UInt8).isPrefixOf (l.drop (if x1 = true then k + 1 else k)) = x2) :
    headW (l.drop k) = if x2 = true then headB (l.drop ((if x1 = true then k + 1 else k) + 1)) else none := by
  cases x1 with
  | true =>
    simp only [if_true] at h2 ⊢
    obtain ⟨e, hk1⟩ := pre_drop h1 hk
    have e' : l.drop k = 126 :: l.drop (k + 1) := e
    cases x2 with
    | true =>
      obtain ⟨e2, _⟩ := pre_drop h2 hk1
      have e2' : l.drop (k + 1) = 123 :: l.drop (k + 1 + 1) := e2
      rw [e', e2']
      simp [headW]
    | false =>
      rw [if_neg (by decide)]
      refine headW_none (fun r e3 => ?_) (fun r e3 => ?_)
      · rw [e'] at e3
        cases e3
      · rw [e'] at e3
        have e4 := List.cons.inj e3
        exact isPre1_no h2 r e4.2
  | false =>
    simp only [Bool.false_eq_true, if_false] at h2 ⊢
    cases x2 with
    | true =>
      obtain ⟨e2, _⟩ := pre_drop h2 hk
      have e2' : l.drop k = 123 :: l.drop (k + 1) := e2
      rw [e2']
      simp [headW]
    | false =>
      rw [if_neg (by decide)]
      exact headW_none (isPre1_no h2) (fun r => isPre1_no h1 (123 :: r))
/-- How it ends: a number, perhaps a plus, then a brace. -/
theorem head_close {l s : List UInt8} {j : Nat} (hj : j ≤ l.length) (hd : l.drop j = s.dropWhile isDig) {n : Nat} (hn : numSpec (s.takeWhile isDig) = some n) (x3 x4 : Bool) (h3 : ([43] : List UInt8).isPrefixOf (l.drop j) = x3) (h4 : ([125] : List UInt8).isPrefixOf (l.drop (if x3 = true then j + 1 else j)) = x4) :
    headB s = if x4 = true then some (n, !x3, l.drop ((if x3 = true then j + 1 else j) + 1)) else none := by
  unfold headB
  rw [hn, ← hd]
  simp only
  cases x3 with
  | true =>
    simp only [if_true] at h4 ⊢
    obtain ⟨e, hk1⟩ := pre_drop h3 hj
    have e' : l.drop j = 43 :: l.drop (j + 1) := e
    cases x4 with
    | true =>
      obtain ⟨e2, _⟩ := pre_drop h4 hk1
      have e2' : l.drop (j + 1) = 125 :: l.drop (j + 1 + 1) := e2
      rw [e', e2']
      simp
    | false =>
      rw [if_neg (by decide), e']
      split
      · next q e3 =>
        have e4 := List.cons.inj e3
        exact absurd e4.2 (isPre1_no h4 q)
      · next q e3 => cases e3
      · rfl
  | false =>
    simp only [Bool.false_eq_true, if_false] at h4 ⊢
    cases x4 with
    | true =>
      obtain ⟨e2, _⟩ := pre_drop h4 hj
      have e2' : l.drop j = 125 :: l.drop (j + 1) := e2
      rw [e2']
      simp
    | false =>
      rw [if_neg (by decide)]
      split
      · next q e3 => exact absurd e3 (isPre1_no h3 _)
      · next q e3 => exact absurd e3 (isPre1_no h4 _)
      · rfl
theorem headB_nonum {s : List UInt8} (h : numSpec (s.takeWhile isDig) = none) : headB s = none := by unfold headB; rw [h]
/-- What 'head' answers. -/
def HdW (B b off cap : Nat) (l : List UInt8) (k : Nat) (w : World) (e : Ending) (w' : World) : Prop :=
  ∃ (n : Nat) (u x : Bool) (k' : Nat), e = .returned (.tuple #[.agg #[.int .i64 (n : Int), .bool u], .bool x]) ∧ Rb w' B b off cap l k' ∧ k' ≤ l.length ∧ Gr B w w' ∧ headW (l.drop k) = if x = true then some (n, !u, l.drop k') else none
end Go.Proofs.YtkkdplccneeaiaaGreatDoor

/- Layer 18: contracts of package wire: head. -/
namespace Go.Proofs.YtkkdplccneeaiaaGreatDoor
open Go Go.RowKit

theorem takes_if {x : Bool} {k : Nat} {p : List UInt8} (n : Nat) (hp : p.length = n) : (if x = true then k + p.length else k) = (if x = true then k + n else k) := by rw [hp]
set_option maxRecDepth 100000 in
set_option maxHeartbeats 4000000 in
theorem whead_any (B b off cap : Nat) (l : List UInt8) (k : Nat) (w : World) (hr : Rb w B b off cap l k) (hk : k ≤ l.length) :
    Calls Tryz.prog 54 #[.pointer (some ⟨B, 0, none⟩)] w (HdW B b off cap l k w) := by
  have hBw := hr.ltB
  have hbw := hr.lt
  have hsm := hr.sm
  have hmx := hr.mx
  have hle := hr.le
  have HRow := Lib.hid (fun j W (h : Rb W B b off cap l j) hj => wrow_dig B b off cap l j W h hj)
  unfold RowW at HRow
  have HTk := Lib.hid (fun j q p W x hq hp hx (h : Rb W B b off cap l j) hj => wtakes_any B b off cap l j q p W hq hp h hj x hx)
  have HB0 : Hid (B2 (w.alloc (.cells #[.int .i64 0, .bool false] 68)) w.heap.size 68 (.int .i64 0) (.bool false)) := B2.new _ _ _ _
  have HA0 : Hid (Below w.heap.size w (w.alloc (.cells #[.int .i64 0, .bool false] 68))) := (Below.refl _ _).alloc (Nat.le_refl _) _
  have HR0 := Lib.hid (hr.below HA0.out)
  obtain ⟨x1, hx1⟩ : ∃ x, ([126] : List UInt8).isPrefixOf (l.drop k) = x := ⟨_, rfl⟩
  obtain ⟨k1, hk1⟩ : ∃ m, m = (if x1 = true then k + 1 else k) := ⟨_, rfl⟩
  have hk1l : k1 ≤ l.length := by
    rw [hk1]
    split
    · next e => rw [e] at hx1; exact (pre_drop hx1 hk).2
    · exact hk
  obtain ⟨x2, hx2⟩ : ∃ x, ([123] : List UInt8).isPrefixOf (l.drop k1) = x := ⟨_, rfl⟩
  have HO : Hid (headW (l.drop k) = if x2 = true then headB (l.drop (k1 + 1)) else none) := by
    have := head_open hk x1 x2 hx1 (by rw [← hk1]; exact hx2)
    rw [← hk1] at this
    exact this
  have HW : Hid (∀ (W : World) (u v : Value), Below w.heap.size W ((W.setCell ⟨w.heap.size, 0, none⟩ u).setCell ⟨w.heap.size, 1, none⟩ v)) := fun W u v => ((Below.refl w.heap.size W).setCell (p := ⟨w.heap.size, 0, none⟩) (Nat.le_refl _) u).setCell (p := ⟨w.heap.size, 1, none⟩) (Nat.le_refl _) v
  have HT1 := Lib.hid (HTk.out k ⟨#[126]⟩ [126] _ x1 rfl (by decide) hx1 HR0.out hk)
  have HK1 := Lib.hid hk1
  have HX2 := Lib.hid hx2
  clear hr hx1 hk1 hx2
  go_enter Tryz.func54, Tryz.ntmps54
  go_wp2_with fail
  with_reducible refine HT1.out.mono ?_
  rintro e w1 ⟨rfl, hr1, hg1⟩
  have HR1 : Hid (Rb w1 B b off cap l k1) := by
    have e1 : (if x1 = true then k + ([126] : List UInt8).length else k) = k1 := HK1.out.symm
    rw [e1] at hr1
    exact hr1
  have HB1 := Lib.hid (HB0.out.gr hg1 (by omega))
  have HG1 := Lib.hid (((Gr.refl B w).below HA0.out).trans hg1)
  have HT2 := Lib.hid (HTk.out k1 ⟨#[123]⟩ [123] w1 x2 rfl (by decide) HX2.out HR1.out hk1l)
  clear hr1 hg1 HT1 HR0 HB0 HA0
  go_wp2_with fail
  with_reducible refine HT2.out.mono ?_
  rintro e w2 ⟨rfl, hr2, hg2⟩
  have HB2 := Lib.hid (HB1.out.gr hg2 (by omega))
  have HG2 := Lib.hid (HG1.out.trans hg2)
  cases x2 with
  | false =>
    have HR2 : Hid (Rb w2 B b off cap l k1) := hr2
    have c0 := HB2.out.c0
    have c1 := HB2.out.c1
    have f0 := HB2.out.f 0
    have f1 := HB2.out.f 1
    clear hr2 hg2 HT2 HR1 HB1 HG1
    go_wp2_with fail
    (try simp only [Exit.inBlock, Exit.then])
    refine bodyPost_ret (results_cell_rowW (P := Tryz.prog) Tryz.results54 _ _ w.heap.size 68 _ (0, 0) _ rfl ((HB2.out.set0 (.int .i64 0)).set1 (.bool false)) Tryz.underlying68 rfl (by kernel_rfl)) rfl ?_
    exact ⟨0, false, false, k1, rfl, HR2.out.low (HW.out _ _ _) hBw hbw, hk1l, HG2.out.low (HW.out _ _ _), by rw [HO.out]; rfl⟩
  | true =>
    have HO1 : Hid (headW (l.drop k) = headB (l.drop (k1 + 1))) := HO.out
    clear HO
    have HX := Lib.hid (pre_drop HX2.out hk1l)
    have hk2 : k1 + 1 ≤ l.length := HX.out.2
    have HR2 : Hid (Rb w2 B b off cap l (k1 + 1)) := hr2
    have HRo := HRow.out (k1 + 1) w2 HR2.out hk2
    clear hr2 hg2 HT2 HR1 HB1 HG1
    go_wp2_with fail
    with_reducible refine HRo.mono ?_
    rintro e w3 ⟨k3, rfl, hr3, hk3, hl3, ht3, hd3, hg3⟩
    have HR3 := Lib.hid hr3
    have HB3 := Lib.hid (HB2.out.gr hg3 (by omega))
    have HG3 := Lib.hid (HG2.out.trans hg3)
    have HD3 := Lib.hid hd3
    have hcv := bytesArg_string (cutV_arg hr3.src hk3 hl3 (by omega))
    rw [ht3] at hcv
    have HL3 : Hid (((l.drop (k1 + 1)).takeWhile isDig).length ≤ 1000000000) := by
      unfold Hid
      rw [← ht3, List.length_take, List.length_drop]
      omega
    have HN := Lib.hid (number_any ⟨((l.drop (k1 + 1)).takeWhile isDig).toArray⟩ w3 (by have := HL3.out; show _ ≤ _; simp only [ByteArray.size, List.size_toArray]; omega))
    simp only at HN
    clear hr3 ht3 hd3 hg3 HR2 HB2 HG2 HRo
    cases hn : numSpec ((l.drop (k1 + 1)).takeWhile isDig) with
    | none =>
      have HE : Hid (headW (l.drop k) = none) := by unfold Hid; rw [HO1.out, headB_nonum hn]
      rw [hn] at HN
      unfold numV at HN
      clear hn
      go_wp2_with fail
      with_reducible refine HN.out.mono ?_
      rintro e w4 ⟨rfl, hb4⟩
      have HR4 := Lib.hid (HR3.out.below hb4)
      have HB4 := Lib.hid (HB3.out.below hb4)
      have HG4 := Lib.hid (HG3.out.below hb4)
      obtain ⟨x3, hx3⟩ : ∃ x, ([43] : List UInt8).isPrefixOf (l.drop k3) = x := ⟨_, rfl⟩
      have HT3 := Lib.hid (HTk.out k3 ⟨#[43]⟩ [43] w4 x3 rfl (by decide) hx3 HR4.out hl3)
      have HX3 := Lib.hid hx3
      clear hb4 HR3 HB3 HG3 HN hx3 hcv
      go_wp2_with fail
      with_reducible refine HT3.out.mono ?_
      rintro e w5 ⟨rfl, hr5, hg5⟩
      have HR5 := Lib.hid hr5
      have HB5 := Lib.hid (HB4.out.gr hg5 (by omega))
      have HG5 := Lib.hid (HG4.out.trans hg5)
      have c0 := HB5.out.c0
      have c1 := HB5.out.c1
      have f0 := HB5.out.f 0
      have f1 := HB5.out.f 1
      clear hr5 hg5 HR4 HB4 HG4 HT3
      go_wp2_with fail
      (try simp only [Exit.inBlock, Exit.then])
      refine bodyPost_ret (results_cell_rowW (P := Tryz.prog) Tryz.results54 _ _ w.heap.size 68 _ (0, 0) _ rfl ((HB5.out.set0 (.int .i64 0)).set1 (.bool x3)) Tryz.underlying68 rfl (by kernel_rfl)) rfl ?_
      refine ⟨0, x3, false, _, rfl, HR5.out.low (HW.out _ _ _) hBw hbw, ?_, HG5.out.low (HW.out _ _ _), HE.out⟩
      split
      · next e => have := HX3.out; rw [e] at this; exact (pre_drop this hl3).2
      · exact hl3
    | some n =>
      obtain ⟨x3, hx3⟩ : ∃ x, ([43] : List UInt8).isPrefixOf (l.drop k3) = x := ⟨_, rfl⟩
      obtain ⟨k4, hk4⟩ : ∃ m, m = (if x3 = true then k3 + 1 else k3) := ⟨_, rfl⟩
      have hk4l : k4 ≤ l.length := by
        rw [hk4]
        split
        · next e => rw [e] at hx3; exact (pre_drop hx3 hl3).2
        · exact hl3
      obtain ⟨x4, hx4⟩ : ∃ x, ([125] : List UInt8).isPrefixOf (l.drop k4) = x := ⟨_, rfl⟩
      have HC : Hid (headW (l.drop k) = if x4 = true then some (n, !x3, l.drop (k4 + 1)) else none) := by
        have := head_close hl3 HD3.out hn x3 x4 hx3 (by rw [← hk4]; exact hx4)
        rw [← hk4] at this
        unfold Hid
        rw [HO1.out, this]
      rw [hn] at HN
      unfold numV at HN
      have HK4 := Lib.hid hk4
      have HX4 := Lib.hid hx4
      have HX3 := Lib.hid hx3
      clear hn hk4 hx4 hx3
      go_wp2_with fail
      with_reducible refine HN.out.mono ?_
      rintro e w4 ⟨rfl, hb4⟩
      have HR4 := Lib.hid (HR3.out.below hb4)
      have HB4 := Lib.hid (HB3.out.below hb4)
      have HG4 := Lib.hid (HG3.out.below hb4)
      have HT3 := Lib.hid (HTk.out k3 ⟨#[43]⟩ [43] w4 x3 rfl (by decide) HX3.out HR4.out hl3)
      clear hb4 HR3 HB3 HG3 HN hcv
      go_wp2_with fail
      with_reducible refine HT3.out.mono ?_
      rintro e w5 ⟨rfl, hr5, hg5⟩
      have HR5 : Hid (Rb w5 B b off cap l k4) := by
        have e1 : (if x3 = true then k3 + ([43] : List UInt8).length else k3) = k4 := HK4.out.symm
        rw [e1] at hr5
        exact hr5
      have HB5 := Lib.hid (HB4.out.gr hg5 (by omega))
      have HG5 := Lib.hid (HG4.out.trans hg5)
      have HT4 := Lib.hid (HTk.out k4 ⟨#[125]⟩ [125] w5 x4 rfl (by decide) HX4.out HR5.out hk4l)
      clear hr5 hg5 HR4 HB4 HG4 HT3
      go_wp2_with fail
      with_reducible refine HT4.out.mono ?_
      rintro e w6 ⟨rfl, hr6, hg6⟩
      have HR6 := Lib.hid hr6
      have HB6 := Lib.hid (HB5.out.gr hg6 (by omega))
      have HG6 := Lib.hid (HG5.out.trans hg6)
      have c0 := HB6.out.c0
      have c1 := HB6.out.c1
      have f0 := HB6.out.f 0
      have f1 := HB6.out.f 1
      clear hr6 hg6 HR5 HB5 HG5 HT4
      go_wp2_with fail
      (try simp only [Exit.inBlock, Exit.then])
      refine bodyPost_ret (results_cell_rowW (P := Tryz.prog) Tryz.results54 _ _ w.heap.size 68 _ (0, 0) _ rfl ((HB6.out.set0 (.int .i64 (n : Int))).set1 (.bool x3)) Tryz.underlying68 rfl (by kernel_rfl)) rfl ?_
      refine ⟨n, x3, x4, _, rfl, HR6.out.low (HW.out _ _ _) hBw hbw, ?_, HG6.out.low (HW.out _ _ _), ?_⟩
      · split
        · next e => have := HX4.out; rw [e] at this; exact (pre_drop this hk4l).2
        · exact hk4l
      · rw [HC.out]
        cases x4 <;> rfl
end Go.Proofs.YtkkdplccneeaiaaGreatDoor

/- Layer 18: contracts of package wire: literal, atLiteral. -/
namespace Go.Proofs.YtkkdplccneeaiaaGreatDoor
open Go Go.RowKit

theorem litW_nohead {l : List UInt8} (h : headW l = none) : litW l = none := by unfold litW; rw [h]
theorem litW_noend {l r : List UInt8} {n : Nat} {w : Bool} (h : headW l = some (n, w, r)) (h2 : ([13, 10] : List UInt8).isPrefixOf r = false) : litW l = none := by
  unfold litW
  rw [h]
  split
  · next q e =>
    cases e
    simp at h2
  · rfl
theorem litW_end {l q : List UInt8} {n : Nat} {w : Bool} (h : headW l = some (n, w, 13 :: 10 :: q)) : litW l = if q.length < n then none else some (q.take n, q.drop n) := by
  unfold litW
  rw [h]
  rfl
theorem numSpec_le {s : List UInt8} {n : Nat} (h : numSpec s = some n) : n ≤ 4294967295 := by
  unfold numSpec at h
  split at h
  · cases h
  · next h1 =>
    cases h
    omega
theorem headB_le {s q : List UInt8} {n : Nat} {w : Bool} (h : headB s = some (n, w, q)) : n ≤ 4294967295 := by
  unfold headB at h
  cases hn : numSpec (s.takeWhile isDig) with
  | none => rw [hn] at h; cases h
  | some m =>
    rw [hn] at h
    simp only at h
    split at h
    · cases h; exact numSpec_le hn
    · cases h; exact numSpec_le hn
    · cases h
theorem headW_le {s q : List UInt8} {n : Nat} {w : Bool} (h : headW s = some (n, w, q)) : n ≤ 4294967295 := by
  unfold headW at h
  split at h
  · exact headB_le h
  · exact headB_le h
  · cases h
theorem headB_lt {s q : List UInt8} {n : Nat} {w : Bool} (h : headB s = some (n, w, q)) : q.length < s.length := by
  unfold headB at h
  cases hn : numSpec (s.takeWhile isDig) with
  | none => rw [hn] at h; cases h
  | some m =>
    rw [hn] at h
    simp only at h
    have e : (s.dropWhile isDig).length ≤ s.length := (List.dropWhile_suffix isDig).length_le
    split at h
    · next p e2 => cases h; rw [e2] at e; simp at e; omega
    · next p e2 => cases h; rw [e2] at e; simp at e; omega
    · cases h
theorem headW_len {s q : List UInt8} {n : Nat} {w : Bool} (h : headW s = some (n, w, q)) : q.length < s.length := by
  unfold headW at h
  split at h
  · have := headB_lt h; simp; omega
  · have := headB_lt h; simp; omega
  · cases h
theorem headW_lt {l : List UInt8} {k k1 n : Nat} {w : Bool} (h : headW (l.drop k) = some (n, w, l.drop k1)) (_ : k ≤ l.length) (_ : k1 ≤ l.length) : k < k1 := by
  have := headW_len h
  rw [List.length_drop, List.length_drop] at this
  omega
/-- What 'literal' answers. -/
def LtW (B b off cap : Nat) (l : List UInt8) (k : Nat) (w : World) (o : Option (List UInt8 × List UInt8)) (e : Ending) (w' : World) : Prop :=
  match o with
  | none => e = .returned (.tuple #[.slice none 0 0, .bool false]) ∧ Below w.heap.size w w'
  | some (t, r) => ∃ (f k' : Nat), e = .returned (.tuple #[cutV b off f k', .bool true]) ∧ k < k' ∧ f ≤ k' ∧ k' ≤ l.length ∧ (l.drop f).take (k' - f) = t ∧ l.drop k' = r ∧ Rb w' B b off cap l k' ∧ Gr B w w'
theorem Rb.new {w w0 : World} {B b off cap k : Nat} {l : List UInt8} (h : Rb w B b off cap l k) (t : TypeId) (he : w0 = w.alloc (.cells #[.slice (some ⟨b, off, none⟩) l.length cap, .int .i64 (k : Int)] t)) : Rb w0 w.heap.size b off cap l k := by
  subst he
  have h2 := B2.new w t (.slice (some ⟨b, off, none⟩) l.length cap) (.int .i64 (k : Int))
  have hb : Below w.heap.size w (w.alloc (.cells #[.slice (some ⟨b, off, none⟩) l.length cap, .int .i64 (k : Int)] t)) := (Below.refl _ _).alloc (Nat.le_refl _) _
  exact ⟨h2.c0, h2.c1, h2.f 1, by have := h.lt; omega, h.le, h.mx, h.sm, by have := h.lt; have := hb.size; omega, fun j hj => (hb.cell (p := ⟨b, off + j, none⟩) h.lt).trans (h.at_ j hj)⟩
theorem Gr.toBelow {B n : Nat} {a b : World} (h : Gr B a b) (h1 : n ≤ B) (h2 : n ≤ a.heap.size) : Below n a b :=
  below_grown h (fun q hq => by cases hq; exact h1) h2
set_option maxRecDepth 100000 in
set_option maxHeartbeats 4000000 in
theorem wliteral_any (B b off cap : Nat) (l : List UInt8) (k : Nat) (w : World) (hr : Rb w B b off cap l k) (hk : k ≤ l.length) :
    Calls Tryz.prog 38 #[.pointer (some ⟨B, 0, none⟩)] w (LtW B b off cap l k w (litW (l.drop k))) := by
  have hBw := hr.ltB
  have hbw := hr.lt
  have hsm := hr.sm
  have hmx := hr.mx
  have hle := hr.le
  have c0 := hr.c0
  have c1 := hr.c1
  have HR := Lib.hid hr
  obtain ⟨w0, hw0⟩ : ∃ x, x = w.alloc (.cells #[.slice (some ⟨b, off, none⟩) l.length cap, .int .i64 (k : Int)] 52) := ⟨_, rfl⟩
  have HA := Lib.hid (hr.new _ hw0)
  have HB0 : Hid (Below w.heap.size w w0) := by unfold Hid; rw [hw0]; exact (Below.refl _ _).alloc (Nat.le_refl _) _
  have HH := Lib.hid (whead_any w.heap.size b off cap l k w0 HA.out hk)
  unfold HdW at HH
  have HTk := Lib.hid (fun j q p W x hq hp hx (h : Rb W w.heap.size b off cap l j) hj => wtakes_any w.heap.size b off cap l j q p W hq hp h hj x hx)
  have HCut := Lib.hid (fun k f t W (h : Rb W B b off cap l k) hf ht => wcut_any B b off cap l k f t W h hf ht)
  have HW0 := Lib.hid hw0
  clear hr
  go_enter Tryz.func38, Tryz.ntmps38
  go_wp2_with fail
  rw [← HW0.out]
  clear hw0
  with_reducible refine HH.out.mono ?_
  rintro e w1 ⟨n, u, x, k1, rfl, hr1, hk1, hg1, hh1⟩
  have HR1 := Lib.hid hr1
  have HB1 := Lib.hid (HB0.out.trans (hg1.toBelow (Nat.le_refl _) HB0.out.size))
  cases x with
  | false =>
    have HE : Hid (litW (l.drop k) = none) := litW_nohead hh1
    clear hr1 hg1 hh1 HH
    go_wp2_with fail
    go_ret2
    rw [HE.out]
    exact ⟨rfl, HB1.out.alloc HB1.out.size _⟩
  | true =>
    have hh1' : headW (l.drop k) = some (n, !u, l.drop k1) := hh1
    have hn := headW_le hh1'
    have HKK : Hid (k < k1) := headW_lt hh1' hk hk1
    obtain ⟨x2, hx2⟩ : ∃ x, ([13, 10] : List UInt8).isPrefixOf (l.drop k1) = x := ⟨_, rfl⟩
    obtain ⟨w2, hw2⟩ : ∃ x, x = w1.alloc (.cells #[.int .i64 (n : Int), .bool u] 68) := ⟨_, rfl⟩
    have HR2 : Hid (Rb w2 w.heap.size b off cap l k1) := by unfold Hid; rw [hw2]; exact HR1.out.below ((Below.refl _ _).alloc (Nat.le_refl _) _)
    have HB2 : Hid (Below w.heap.size w w2) := by unfold Hid; rw [hw2]; exact HB1.out.alloc HB1.out.size _
    have HN2 : Hid (B2 w2 w1.heap.size 68 (.int .i64 (n : Int)) (.bool u)) := by unfold Hid; rw [hw2]; exact B2.new _ _ _ _
    have HT2 := Lib.hid (HTk.out k1 ⟨#[13, 10]⟩ [13, 10] w2 x2 rfl (by decide) hx2 HR2.out hk1)
    have hww : w.heap.size < w1.heap.size := HR1.out.ltB
    have HW2 := Lib.hid hw2
    clear hr1 hg1 hh1 HH c0 c1 HR1 HB1
    cases x2 with
    | false =>
      have HE : Hid (litW (l.drop k) = none) := litW_noend hh1' hx2
      clear hh1' hx2
      go_wp2_with fail
      rw [← HW2.out]
      clear hw2
      with_reducible refine HT2.out.mono ?_
      rintro e w3 ⟨rfl, _, hg3⟩
      have HB3 := Lib.hid (HB2.out.trans (hg3.toBelow (Nat.le_refl _) HB2.out.size))
      clear hg3
      go_wp2_with fail
      go_ret2
      rw [HE.out]
      exact ⟨rfl, HB3.out⟩
    | true =>
      obtain ⟨e2, hk2⟩ := pre_drop hx2 hk1
      have hk2' : k1 + 2 ≤ l.length := hk2
      have hE0 : litW (l.drop k) = if (l.drop (k1 + 2)).length < n then none else some ((l.drop (k1 + 2)).take n, (l.drop (k1 + 2)).drop n) := by
        rw [e2] at hh1'
        exact litW_end hh1'
      rw [List.length_drop] at hE0
      clear hh1' hx2 e2 hk2
      obtain ⟨f, hf⟩ : ∃ f, f = k1 + 2 := ⟨_, rfl⟩
      have HKf : Hid (∀ w', Rb w' w.heap.size b off cap l (if true = true then k1 + ([13, 10] : List UInt8).length else k1) → Rb w' w.heap.size b off cap l f) := by unfold Hid; intro w' h; rw [hf]; exact h
      have hkf : k < f := by
        have := HKK.out
        omega
      rw [← hf] at hE0 hk2'
      clear hf
      by_cases hlt : l.length - f < n
      · have HE : Hid (litW (l.drop k) = none) := by unfold Hid; rw [hE0, if_pos hlt]
        clear hE0
        have hi : (l.length : Int) - (f : Int) < (n : Int) := by omega
        go_wp2_with fail
        rw [← HW2.out]
        clear hw2
        with_reducible refine HT2.out.mono ?_
        rintro e w3 ⟨rfl, hr3, hg3⟩
        have HR3 := Lib.hid (HKf.out _ hr3)
        have HN3 := Lib.hid (HN2.out.gr hg3 (by omega))
        have HB3 := Lib.hid (HB2.out.trans (hg3.toBelow (Nat.le_refl _) HB2.out.size))
        have d0 := HR3.out.c0
        have d1 := HR3.out.c1
        have n0 := HN3.out.c0
        clear hg3 hr3
        go_wp2_with fail
        go_ret2
        rw [HE.out]
        exact ⟨rfl, HB3.out⟩
      · have HE : Hid (litW (l.drop k) = some ((l.drop f).take n, l.drop (f + n))) := by unfold Hid; rw [hE0, if_neg hlt, List.drop_drop]
        clear hE0
        have hi : ¬ (l.length : Int) - (f : Int) < (n : Int) := by omega
        go_wp2_with fail
        rw [← HW2.out]
        clear hw2
        with_reducible refine HT2.out.mono ?_
        rintro e w3 ⟨rfl, hr3, hg3⟩
        have HR3 := Lib.hid (HKf.out _ hr3)
        have HN3 := Lib.hid (HN2.out.gr hg3 (by omega))
        have HB3 := Lib.hid (HB2.out.trans (hg3.toBelow (Nat.le_refl _) HB2.out.size))
        have HRB3 := Lib.hid (HR.out.below HB3.out)
        have d0 := HR3.out.c0
        have d1 := HR3.out.c1
        have n0 := HN3.out.c0
        have b1 := HRB3.out.c1
        have f1 := HRB3.out.f1
        clear hg3 hr3
        obtain ⟨t, ht⟩ : ∃ t, t = f + n := ⟨_, rfl⟩
        have HTI : Hid ((f : Int) + (n : Int) = (t : Int)) := by unfold Hid; omega
        have HT := Lib.hid ht
        have htl : t ≤ l.length := by omega
        have hbb : (f : Int) + (n : Int) ≤ 1000000000 := by omega
        have hft : f ≤ t := by omega
        clear ht
        go_wp2_with fail
        rw [HTI.out]
        obtain ⟨w4, hw4⟩ : ∃ x, x = w3.setCell ⟨B, 1, none⟩ (.int .i64 (t : Int)) := ⟨_, rfl⟩
        rw [← hw4]
        have HR4 : Hid (Rb w4 B b off cap l t) := by unfold Hid; rw [hw4]; exact HRB3.out.set t
        have hA4 : w4.heap[w.heap.size]? = w3.heap[w.heap.size]? := by rw [hw4]; exact Below.heap_setCell w3 ⟨B, 1, none⟩ _ _ (by show w.heap.size ≠ B; omega)
        have d4 : w4.cell? ⟨w.heap.size, 1, none⟩ = some (.int .i64 (f : Int)) := (World.cell?_of_block (a := ⟨w.heap.size, 1, none⟩) hA4).trans d1
        have HG4 : Hid (Gr B w w4) := by unfold Hid; rw [hw4]; exact ((Gr.refl B w).below HB3.out).set 1 _
        have D4 := BW.cell d4
        have D5 := BW.cell HR4.out.c1
        have HC := Lib.hid (fun z : BW w4 => HCut.out t f t z.v (HR4.out.below z.h) hft htl)
        clear hw4 hA4 d4 d0 d1 n0 b1 f1 HR3 HRB3 HB3 HN3
        refine wp_region_below (by kernel_rfl) (by kernel_rfl) ?_
        repeat (go_big_quiet_step (first | (go_at_call 55; exact BW.calls (HC.out _))))
        refine wpQuiet_nil ?_
        rintro W5 ⟨⟨_, hb5⟩, rfl⟩
        go_wp2_with fail
        go_ret2
        rw [HE.out]
        have hT := HT.out
        exact ⟨f, t, rfl, by omega, hft, htl, by rw [hT, Nat.add_sub_cancel_left], by rw [hT], HR4.out.below hb5, HG4.out.below hb5⟩
end Go.Proofs.YtkkdplccneeaiaaGreatDoor
