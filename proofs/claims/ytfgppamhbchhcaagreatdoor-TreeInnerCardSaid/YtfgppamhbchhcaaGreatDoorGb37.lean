/- '==' of two spans. -/
import Derived.Test.YtfgppamhbchhcaaGreatDoorGb32
import Derived.Laws.StructEq
import Derived.ChangeKeysEq
import Derived.Test.YtfgppamhbchhcaaGreatDoorGb35
import Derived.Test.YtfgppamhbchhcaaGreatDoorGb36
import Derived.Test.YtfgppamhbchhcaaGreatDoorGb16
namespace Go.Proofs.YtfgppamhbchhcaaGreatDoor
open Go Go.RowKit

theorem spF_eq : (Tryz.prog.fieldsOf 26).toList = [⟨"From", 3, 0, false, "", "", 0⟩, ⟨"To", 3, 1, false, "", "", 8⟩] := by kernel_rfl
theorem span_und : Tryz.prog.underlying 26 = some (.struct (Tryz.prog.fieldsOf 26)) := by kernel_rfl
theorem span_in : Tryz.prog.stoodInHeld 26 = false := by kernel_rfl
theorem span_eql (w : World) (a b c d : Int) : (binOp .eql 26 (.agg #[.int .i64 a, .int .i64 b]) (.agg #[.int .i64 c, .int .i64 d])).run Tryz.prog w = .ok (.bool (a == c && b == d)) w := by
  rw [run_eql_struct, run_equalIn_agg _ _ _ _ _ span_und span_in, spF_eq]
  have h1 : Tryz.prog.plainKey 3 = true := by kernel_rfl
  have p : ∀ (x y : Int) (w : World), (part 3 #[.int .i64 x, .int .i64 y] 0).run Tryz.prog w = .ok (.int .i64 x) w := fun x y w => run_part_plain w h1 rfl
  have q : ∀ (x y : Int) (w : World), (part 3 #[.int .i64 x, .int .i64 y] 1).run Tryz.prog w = .ok (.int .i64 y) w := fun x y w => run_part_plain w h1 rfl
  have e : ∀ (x y : Int) (w : World), (Op.equalIn 9999 3 (.int .i64 x) (.int .i64 y)).run Tryz.prog w = .ok (x == y) w := fun x y w => run_equalIn_int w 9998 _ .i64 .i64 x y Tryz.underlying3
  simp only [Op.eqFields]
  rw [if_pos (by decide), if_pos (by decide)]
  simp only [Sem.run_bind, p, q, e, Result.andThen_ok, Sem.run_ite, Sem.run_pure]
  cases (a == c) <;> cases (b == d) <;> rfl
end Go.Proofs.YtfgppamhbchhcaaGreatDoor

/- The reference's comparison of two trees that are the same. -/
namespace Go.Proofs.YtfgppamhbchhcaaGreatDoor
open Go Go.RowKit

theorem span_neq0 (a b : Int) (w : World) : (binOp .neq 26 (.agg #[.int .i64 a, .int .i64 b]) (.agg #[.int .i64 a, .int .i64 b])).run Tryz.prog w = .ok (.bool false) w := by
  have h := span_eql w a b a b
  rw [run_eql_struct] at h
  rw [run_neq_struct]
  cases hr : (Op.equalIn 10000 26 (.agg #[.int .i64 a, .int .i64 b]) (.agg #[.int .i64 a, .int .i64 b])).run Tryz.prog w with
  | ok b' w' =>
    rw [hr] at h
    simp only [Result.andThen] at h ⊢
    simp at h
    obtain ⟨rfl, rfl⟩ := h
    rfl
  | halt x w' =>
    rw [hr] at h
    simp only [Result.andThen] at h
    cases h
def cutsIn (w : World) (ca : Option Addr) (cs : List Sp) : Prop := ∀ i, i < cs.length → ∃ g x y, ca = some ⟨g, 0, none⟩ ∧ cs[i]? = some (x, y) ∧ w.cell? ⟨g, i * 2, none⟩ = some (.int .i64 (x : Int)) ∧ w.cell? ⟨g, i * 2 + 1, none⟩ = some (.int .i64 (y : Int))
theorem cutsIn.below {w w' : World} {ca : Option Addr} {cs : List Sp} (h : cutsIn w ca cs) (hb : Below w.heap.size w w') : cutsIn w' ca cs := fun i hi => by
  obtain ⟨g, x, y, h1, h2, h3, h4⟩ := h i hi
  exact ⟨g, x, y, h1, h2, (hb.cell (p := ⟨g, i * 2, none⟩) (World.block_lt_of_cell? w _ h3)).trans h3, (hb.cell (p := ⟨g, i * 2 + 1, none⟩) (World.block_lt_of_cell? w _ h4)).trans h4⟩
set_option maxRecDepth 100000 in
set_option maxHeartbeats 4000000 in
theorem refSpans_any (cs : List Sp) (ca ca' : Option Addr) (cc cc' : Nat) (w : World) (hln : cs.length ≤ 1000000) (h1 : cutsIn w ca cs) (h2 : cutsIn w ca' cs) :
    Calls Tryz.prog 21 #[.slice ca cs.length cc, .slice ca' cs.length cc'] w fun e w' => e = .returned (.bool true) ∧ Below w.heap.size w w' := by
  have H1 := Lib.hid h1
  have H2 := Lib.hid h2
  have t0 : ((cs.length : Int) != (cs.length : Int)) = false := bne_no rfl
  clear h1 h2
  go_enter Tryz.func21, Tryz.ntmps21
  go_wp2_with fail
  go_loopg [5] cs.length (fun q x5 wr => ∃ i : Nat, i ≤ cs.length ∧ q = cs.length - i ∧ x5 = .int .i64 (i : Int) ∧ Hid (Below w.heap.size w wr))
  case atStart => exact ⟨0, Nat.zero_le _, rfl, rfl, Below.refl _ _⟩
  case round =>
    obtain ⟨k, hk, rfl, rfl, HB⟩ := hrel
    by_cases hlt : k < cs.length
    · obtain ⟨g, x, y, rfl, hx, p0, p1⟩ := H1.out k hlt
      obtain ⟨g', x', y', rfl, hx', q0, q1⟩ := H2.out k hlt
      rw [hx] at hx'
      cases hx'
      have r0 := BW.cell ((HB.out.cell (p := ⟨g, k * 2, none⟩) (World.block_lt_of_cell? w _ p0)).trans p0)
      have r1 := BW.cell ((HB.out.cell (p := ⟨g, k * 2 + 1, none⟩) (World.block_lt_of_cell? w _ p1)).trans p1)
      have s0 := BW.cell ((HB.out.cell (p := ⟨g', k * 2, none⟩) (World.block_lt_of_cell? w _ q0)).trans q0)
      have s1 := BW.cell ((HB.out.cell (p := ⟨g', k * 2 + 1, none⟩) (World.block_lt_of_cell? w _ q1)).trans q1)
      have ks : ∀ z : BW wr, (binOp .neq 26 (.agg #[.int .i64 (x : Int), .int .i64 (y : Int)]) (.agg #[.int .i64 (x : Int), .int .i64 (y : Int)])).run Tryz.prog z.v = .ok (.bool false) z.v := fun z => span_neq0 _ _ _
      clear hx p0 p1 q0 q1
      go_wp2_with fail
      refine wp_region_below (by kernel_rfl) (by kernel_rfl) ?_
      repeat (go_big_quiet_step (fail))
      refine wpQuiet_nil ?_
      rintro _ ⟨z, rfl⟩
      have HZ := Lib.hid (HB.out.trans (z.h.mono HB.out.size))
      go_wp2_with fail
      go_roundg (cs.length - (k + 1))
      case measure => omega
      case rel => exact ⟨k + 1, by omega, rfl, by go_num, HZ⟩
    · obtain rfl : k = cs.length := by omega
      go_wp2_with fail
      go_ret
      exact ⟨rfl, HB.out⟩
def kidSame (w : World) (ka ka' : Option Addr) (ts : List Tr) : Prop := ∀ i, (h : i < ts.length) → ∃ g a n c a2 n2 c2 g' a' n' c' a2' n2' c2', ka = some ⟨g, 0, none⟩ ∧ ka' = some ⟨g', 0, none⟩ ∧ g < w.heap.size ∧ g' < w.heap.size ∧
  nineAt w g i ts[i] (.slice a n c) (.slice a2 n2 c2) ∧ nineAt w g' i ts[i] (.slice a' n' c') (.slice a2' n2' c2') ∧
  ∀ W', Below w.heap.size w W' → Calls Tryz.prog 12 #[.agg #[.int .i64 (ts[i].kind : Int), .int .i64 (ts[i].hd.1 : Int), .int .i64 (ts[i].hd.2 : Int), .int .i64 (ts[i].bd.1 : Int), .int .i64 (ts[i].bd.2 : Int), .slice a n c, .slice a2 n2 c2, .int .i64 (ts[i].e.1 : Int), .int .i64 (ts[i].e.2 : Int)], .agg #[.int .i64 (ts[i].kind : Int), .int .i64 (ts[i].hd.1 : Int), .int .i64 (ts[i].hd.2 : Int), .int .i64 (ts[i].bd.1 : Int), .int .i64 (ts[i].bd.2 : Int), .slice a' n' c', .slice a2' n2' c2', .int .i64 (ts[i].e.1 : Int), .int .i64 (ts[i].e.2 : Int)]] W' fun e w' => e = .returned (.bool true) ∧ Below W'.heap.size W' w'
set_option maxRecDepth 100000 in
set_option maxHeartbeats 8000000 in
theorem same_step (ts : List Tr) (cs : List Sp) (kd h1 h2 b1 b2 e1 e2 : Nat) (ka ca ka' ca' : Option Addr) (kc cc kc' cc' : Nat) (w : World) (hln : ts.length ≤ 1000000) (hcn : cs.length ≤ 1000000) (hc1 : cutsIn w ca cs) (hc2 : cutsIn w ca' cs) (hat : kidSame w ka ka' ts) :
    Calls Tryz.prog 12 #[.agg #[.int .i64 (kd : Int), .int .i64 (h1 : Int), .int .i64 (h2 : Int), .int .i64 (b1 : Int), .int .i64 (b2 : Int), .slice ka ts.length kc, .slice ca cs.length cc, .int .i64 (e1 : Int), .int .i64 (e2 : Int)], .agg #[.int .i64 (kd : Int), .int .i64 (h1 : Int), .int .i64 (h2 : Int), .int .i64 (b1 : Int), .int .i64 (b2 : Int), .slice ka' ts.length kc', .slice ca' cs.length cc', .int .i64 (e1 : Int), .int .i64 (e2 : Int)]] w fun e w' => e = .returned (.bool true) ∧ Below w.heap.size w w' := by
  have HA := Lib.hid hat
  have HSp := Lib.hid (fun W hb => refSpans_any cs ca ca' cc cc' W hcn (hc1.below hb) (hc2.below hb))
  obtain ⟨X, hX⟩ : ∃ X, X = (w.alloc (rfO kd h1 h2 b1 b2 (.slice ka ts.length kc) (.slice ca cs.length cc) e1 e2)).alloc (rfO kd h1 h2 b1 b2 (.slice ka' ts.length kc') (.slice ca' cs.length cc') e1 e2) := ⟨_, rfl⟩
  have HzX : Hid (X.heap.size = w.heap.size + 2) := by unfold Hid; rw [hX]; simp
  have HBX : Hid (Below w.heap.size w X) := by unfold Hid; rw [hX]; exact ((Below.refl _ _).alloc (Nat.le_refl _) _).alloc (by simp) _
  have HX0 : Hid (X.heap[w.heap.size]? = some (rfO kd h1 h2 b1 b2 (.slice ka ts.length kc) (.slice ca cs.length cc) e1 e2)) := by unfold Hid; rw [hX]; exact heap_alloc2_old w _ _
  have HX1 : Hid (X.heap[w.heap.size + 1]? = some (rfO kd h1 h2 b1 b2 (.slice ka' ts.length kc') (.slice ca' cs.length cc') e1 e2)) := by unfold Hid; rw [hX]; exact heap_alloc2_new w _ _
  have t0 : ((kd : Int) != (kd : Int)) = false := bne_no rfl
  have t1 : ((ts.length : Int) != (ts.length : Int)) = false := bne_no rfl
  have k1 : ∀ W, (binOp .neq 26 (.agg #[.int .i64 (h1 : Int), .int .i64 (h2 : Int)]) (.agg #[.int .i64 (h1 : Int), .int .i64 (h2 : Int)])).run Tryz.prog W = .ok (.bool false) W := fun W => span_neq0 _ _ _
  have k2 : ∀ W, (binOp .neq 26 (.agg #[.int .i64 (b1 : Int), .int .i64 (b2 : Int)]) (.agg #[.int .i64 (b1 : Int), .int .i64 (b2 : Int)])).run Tryz.prog W = .ok (.bool false) W := fun W => span_neq0 _ _ _
  have k3 : ∀ W, (binOp .neq 26 (.agg #[.int .i64 (e1 : Int), .int .i64 (e2 : Int)]) (.agg #[.int .i64 (e1 : Int), .int .i64 (e2 : Int)])).run Tryz.prog W = .ok (.bool false) W := fun W => span_neq0 _ _ _
  unfold rfO at hX
  clear hat hc1 hc2
  go_enter Tryz.func12, Tryz.ntmps12
  go_upto_region 1 with fail
  rw [← hX]
  clear hX
  obtain ⟨x0, x1, x2, x3, x4, x5, x6, x7, x8⟩ := rf_cells HX0.out
  obtain ⟨y0, y1, y2, y3, y4, y5, y6, y7, y8⟩ := rf_cells HX1.out
  go_wp2_with fail
  with_reducible refine (HSp.out _ ?hh).mono ?_
  case hh => exact HBX.out
  rintro e w2 ⟨rfl, hb2⟩
  have hz := HzX.out
  have HB2 := Lib.hid (HBX.out.trans (hb2.mono HBX.out.size))
  have HZ2 : Hid (w.heap.size + 2 ≤ w2.heap.size) := by have := hb2.size; unfold Hid; omega
  have HX0' : Hid (w2.heap[w.heap.size]? = some (rfO kd h1 h2 b1 b2 (.slice ka ts.length kc) (.slice ca cs.length cc) e1 e2)) := (hb2.block _ (by omega)).trans HX0.out
  have HX1' : Hid (w2.heap[w.heap.size + 1]? = some (rfO kd h1 h2 b1 b2 (.slice ka' ts.length kc') (.slice ca' cs.length cc') e1 e2)) := (hb2.block _ (by omega)).trans HX1.out
  clear hb2 hz x0 x1 x2 x3 x4 x5 x6 x7 x8 y0 y1 y2 y3 y4 y5 y6 y7 y8
  obtain ⟨x0, x1, x2, x3, x4, x5, x6, x7, x8⟩ := rf_cells HX0'.out
  obtain ⟨y0, y1, y2, y3, y4, y5, y6, y7, y8⟩ := rf_cells HX1'.out
  go_wp2_with fail
  go_loopg [6] ts.length (fun q x6 wr => ∃ i : Nat, i ≤ ts.length ∧ q = ts.length - i ∧ x6 = .int .i64 (i : Int) ∧ Hid (Below w2.heap.size w2 wr))
  case atStart => exact ⟨0, Nat.zero_le _, rfl, rfl, Below.refl _ _⟩
  case round =>
    clear x0 x1 x2 x3 x4 x5 x6 x7 x8 y0 y1 y2 y3 y4 y5 y6 y7 y8 k1 k2 k3 t0 t1
    obtain ⟨k, hk, rfl, rfl, HB⟩ := hrel
    have hz2 := HZ2.out
    have hX0r := (HB.out.block w.heap.size (by omega)).trans HX0'.out
    have hX1r := (HB.out.block (w.heap.size + 1) (by omega)).trans HX1'.out
    have x5 := (rf_cells hX0r).2.2.2.2.2.1
    have y5 := (rf_cells hX1r).2.2.2.2.2.1
    by_cases hlt : k < ts.length
    · obtain ⟨g, a, n, c, a2, n2, c2, g', a', n', c', a2', n2', c2', rfl, rfl, hg, hg', h9, h9', hcall⟩ := HA.out k hlt
      have HBw : Hid (Below w.heap.size w wr) := HB2.out.trans (HB.out.mono HB2.out.size)
      have HCl := Lib.hid hcall
      obtain ⟨pp0, pp1, pp2, pp3, pp4, pp5, pp6, pp7, pp8⟩ := nine_open (h9.block (HBw.out.block g hg))
      obtain ⟨rp0, rp1, rp2, rp3, rp4, rp5, rp6, rp7, rp8⟩ := nine_open (h9'.block (HBw.out.block g' hg'))
      obtain ⟨q, hq⟩ : ∃ q, q = ts[k] := ⟨_, rfl⟩
      rw [← hq] at pp0 pp1 pp2 pp3 pp4 pp7 pp8 rp0 rp1 rp2 rp3 rp4 rp7 rp8 HCl
      have p0 : ∀ z : BW wr, z.v.cell? ⟨g, k * 9, none⟩ = some (.int .i64 (q.kind : Int)) := BW.cell pp0
      have p1 : ∀ z : BW wr, z.v.cell? ⟨g, k * 9 + 1, none⟩ = some (.int .i64 (q.hd.1 : Int)) := BW.cell pp1
      have p2 : ∀ z : BW wr, z.v.cell? ⟨g, k * 9 + 2, none⟩ = some (.int .i64 (q.hd.2 : Int)) := BW.cell pp2
      have p3 : ∀ z : BW wr, z.v.cell? ⟨g, k * 9 + 3, none⟩ = some (.int .i64 (q.bd.1 : Int)) := BW.cell pp3
      have p4 : ∀ z : BW wr, z.v.cell? ⟨g, k * 9 + 4, none⟩ = some (.int .i64 (q.bd.2 : Int)) := BW.cell pp4
      have p5 : ∀ z : BW wr, z.v.cell? ⟨g, k * 9 + 5, none⟩ = some (.slice a n c) := BW.cell pp5
      have p6 : ∀ z : BW wr, z.v.cell? ⟨g, k * 9 + 6, none⟩ = some (.slice a2 n2 c2) := BW.cell pp6
      have p7 : ∀ z : BW wr, z.v.cell? ⟨g, k * 9 + 7, none⟩ = some (.int .i64 (q.e.1 : Int)) := BW.cell pp7
      have p8 : ∀ z : BW wr, z.v.cell? ⟨g, k * 9 + 8, none⟩ = some (.int .i64 (q.e.2 : Int)) := BW.cell pp8
      have r0 : ∀ z : BW wr, z.v.cell? ⟨g', k * 9, none⟩ = some (.int .i64 (q.kind : Int)) := BW.cell rp0
      have r1 : ∀ z : BW wr, z.v.cell? ⟨g', k * 9 + 1, none⟩ = some (.int .i64 (q.hd.1 : Int)) := BW.cell rp1
      have r2 : ∀ z : BW wr, z.v.cell? ⟨g', k * 9 + 2, none⟩ = some (.int .i64 (q.hd.2 : Int)) := BW.cell rp2
      have r3 : ∀ z : BW wr, z.v.cell? ⟨g', k * 9 + 3, none⟩ = some (.int .i64 (q.bd.1 : Int)) := BW.cell rp3
      have r4 : ∀ z : BW wr, z.v.cell? ⟨g', k * 9 + 4, none⟩ = some (.int .i64 (q.bd.2 : Int)) := BW.cell rp4
      have r5 : ∀ z : BW wr, z.v.cell? ⟨g', k * 9 + 5, none⟩ = some (.slice a' n' c') := BW.cell rp5
      have r6 : ∀ z : BW wr, z.v.cell? ⟨g', k * 9 + 6, none⟩ = some (.slice a2' n2' c2') := BW.cell rp6
      have r7 : ∀ z : BW wr, z.v.cell? ⟨g', k * 9 + 7, none⟩ = some (.int .i64 (q.e.1 : Int)) := BW.cell rp7
      have r8 : ∀ z : BW wr, z.v.cell? ⟨g', k * 9 + 8, none⟩ = some (.int .i64 (q.e.2 : Int)) := BW.cell rp8
      have z5 : ∀ z : BW wr, z.v.cell? ⟨w.heap.size, 5, none⟩ = some (.slice (some ⟨g, 0, none⟩) ts.length kc) := BW.cell x5
      have z6 : ∀ z : BW wr, z.v.cell? ⟨w.heap.size + 1, 5, none⟩ = some (.slice (some ⟨g', 0, none⟩) ts.length kc') := BW.cell y5
      clear pp0 pp1 pp2 pp3 pp4 pp5 pp6 pp7 pp8 rp0 rp1 rp2 rp3 rp4 rp5 rp6 rp7 rp8 hq h9 h9' hcall hX0r hX1r
      go_wp2_with fail
      clear x5 y5
      refine wp_region_below (by kernel_rfl) (by kernel_rfl) ?_
      repeat (go_big_quiet_step ((go_at_call 12; exact BW.calls (HCl.out _ (HBw.out.trans ((BW.h _).mono HBw.out.size))))))
      refine wpQuiet_nil ?_
      rintro _ ⟨z, rfl⟩
      have HZ := Lib.hid (HB.out.trans (z.h.mono HB.out.size))
      go_wp2_with fail
      go_roundg (ts.length - (k + 1))
      case measure => omega
      case rel => exact ⟨k + 1, by omega, rfl, by go_num, HZ⟩
    · obtain rfl : k = ts.length := by omega
      clear hX0r hX1r
      go_wp2_with fail
      go_ret
      exact ⟨rfl, HB2.out.trans (HB.out.mono HB2.out.size)⟩
theorem refspans_at {S : Nat → Prop} {w : World} {ca : Option Addr} {cn cc : Nat} {cs : List Sp} (h : ownS S w 26 2 (.slice ca cn cc) cs.length (spCells cs)) : cn = cs.length ∧ cutsIn w ca cs := by
  obtain ⟨ao, cap, e, h1, h2, h3⟩ := (rowSp_owned h.1).at
  obtain ⟨rfl, rfl, rfl⟩ := Value.slice.inj e
  refine ⟨rfl, fun i hi => ?_⟩
  obtain ⟨g, e, hg, c0, c1⟩ := h3 i hi
  exact ⟨g, cs[i].1, cs[i].2, e, by rw [List.getElem?_eq_getElem hi], c0, c1⟩
theorem sameTree_any (S1 S2 : Nat → Prop) (N : Nat) (hN : N ≤ 1000000) (n : Nat) : ∀ (t : Tr), SizeOf.sizeOf t ≤ n → countT t ≤ 1000000 → bdT N t → ∀ (w : World) (u1 u2 : Value), refAt S1 w t u1 → refAt S2 w t u2 →
    Calls Tryz.prog 12 #[u1, u2] w fun e w' => e = .returned (.bool true) ∧ Below w.heap.size w w' := by
  induction n with
  | zero => intro t ht; cases t; rw [Tr.mk.sizeOf_spec] at ht; omega
  | succ n ih =>
    intro t ht hcb hbd w u1 u2 hu1 hu2
    obtain ⟨hb1, hb2⟩ := bdT_open hbd
    obtain ⟨ka, kn, kc, ca, cn, cc, us, rfl, hcs, ho, hk⟩ := refAt_open hu1
    obtain ⟨ka', kn', kc', ca', cn', cc', us', rfl, hcs', ho', hk'⟩ := refAt_open hu2
    obtain ⟨rfl, _, _, hat⟩ := refkids_at ho hk
    obtain ⟨rfl, _, _, hat'⟩ := refkids_at ho' hk'
    obtain ⟨rfl, hc1⟩ := refspans_at hcs
    obtain ⟨rfl, hc2⟩ := refspans_at hcs'
    have hC := countT_eq t
    have hL := lenK_le t.kids
    refine same_step t.kids t.cuts t.kind t.hd.1 t.hd.2 t.bd.1 t.bd.2 t.e.1 t.e.2 ka ca ka' ca' kc cc kc' cc' w (by omega) (by omega) hc1 hc2 fun i h => ?_
    obtain ⟨g, a, m, c, a2, n2, c2, e, hg1, _, h9, htr⟩ := hat i h
    obtain ⟨g', a', m', c', a2', n2', c2', e', hg1', _, h9', htr'⟩ := hat' i h
    have q1 := countK_drop t.kids i h
    have q2 := countK_le t.kids i
    exact ⟨g, a, m, c, a2, n2, c2, g', a', m', c', a2', n2', c2', e, e', hg1, hg1', h9, h9', fun W' hb => ih t.kids[i] (by have := size_kid i h; omega) (by omega) (bdK_get hb2 i h) W' _ _ (refAt_below htr hb) (refAt_below htr' hb)⟩
end Go.Proofs.YtfgppamhbchhcaaGreatDoor
