/- The document's Count, Deep of any tree, fits of a good one. -/
import Derived.Test.YtedminjnnhlknaaGreatDoorGbTsE
import Derived.Test.YtedminjnnhlknaaGreatDoorGbTiG
import Derived.Test.YtedminjnnhlknaaGreatDoorGbParH
import Derived.Test.YtedminjnnhlknaaGreatDoorGbTiE
import Derived.Test.YtedminjnnhlknaaGreatDoorGbTiJ
import Derived.Test.YtedminjnnhlknaaGreatDoorGbRcW
namespace Go.Proofs.YtedminjnnhlknaaGreatDoor
open Go Go.RowKit
def kidV (F : FuncId) (val : Tr → Value) (w : World) (ka : Option Addr) (ts : List Tr) : Prop := ∀ i, (h : i < ts.length) → ∃ g a n c a2 n2 c2, ka = some ⟨g, 0, none⟩ ∧ g < w.heap.size ∧ nineAt w g i ts[i] (.slice a n c) (.slice a2 n2 c2) ∧
 ∀ W', Below w.heap.size w W' → Calls Tryz.prog F #[.agg #[.int .i64 (ts[i].kind : Int), .int .i64 (ts[i].hd.1 : Int), .int .i64 (ts[i].hd.2 : Int), .int .i64 (ts[i].bd.1 : Int), .int .i64 (ts[i].bd.2 : Int), .slice a n c, .slice a2 n2 c2, .int .i64 (ts[i].e.1 : Int), .int .i64 (ts[i].e.2 : Int)]] W' fun e w' => e = .returned (val ts[i]) ∧ Below W'.heap.size W' w'
theorem countK_snoc {ks : List Tr} {k : Nat} (h : k < ks.length) : countK (ks.take (k + 1)) = countK (ks.take k) + countT ks[k] := by
 have h1 := congrArg List.length (partsK_take (d := 0) h)
 rw [List.length_append, partsK_len, partsK_len, partsT_len] at h1
 exact h1
theorem deepK_snoc : ∀ {ks : List Tr} {k : Nat} (h : k < ks.length), deepK (ks.take (k + 1)) = max (deepK (ks.take k)) (1 + deepT ks[k])
 | [], k, h => by simp at h
 | t :: r, 0, h => by
  show max (1 + deepT t) (deepK []) = max (deepK []) (1 + deepT t)
  exact Nat.max_comm _ _
 | t :: r, k + 1, h => by
  have ih := deepK_snoc (ks := r) (k := k) (by simpa using h)
  show max (1 + deepT t) (deepK (r.take (k + 1))) = max (max (1 + deepT t) (deepK (r.take k))) (1 + deepT (r[k]'(by simpa using h)))
  rw [ih, Nat.max_assoc]
set_option maxRecDepth 100000 in
set_option maxHeartbeats 4000000 in
theorem refCount_step (ts : List Tr) (kd h1 h2 b1 b2 e1 e2 : Nat) (ka ca : Option Addr) (kc cn cc : Nat) (w : World) (hln : ts.length ≤ 1000000) (hcb : countK ts ≤ 1000000) (hat : kidV 50 (fun t => .int .i64 (countT t : Int)) w ka ts) :
  Calls Tryz.prog 50 #[.agg #[.int .i64 (kd : Int), .int .i64 (h1 : Int), .int .i64 (h2 : Int), .int .i64 (b1 : Int), .int .i64 (b2 : Int), .slice ka ts.length kc, .slice ca cn cc, .int .i64 (e1 : Int), .int .i64 (e2 : Int)]] w fun e w' => e = .returned (.int .i64 ((1 + countK ts : Nat) : Int)) ∧ Below w.heap.size w w' := by
 have HA := Lib.hid hat
 obtain ⟨X, hX⟩ : ∃ X, X = w.alloc (rfO (kd : Int) (h1 : Int) (h2 : Int) (b1 : Int) (b2 : Int) (.slice ka ts.length kc) (.slice ca cn cc) (e1 : Int) (e2 : Int)) := ⟨_, rfl⟩
 have HBX : Hid (Below w.heap.size w X) := by unfold Hid; rw [hX]; exact (Below.refl _ _).alloc (Nat.le_refl _) _
 have HX0 : Hid (X.heap[w.heap.size]? = some (rfO (kd : Int) (h1 : Int) (h2 : Int) (b1 : Int) (b2 : Int) (.slice ka ts.length kc) (.slice ca cn cc) (e1 : Int) (e2 : Int))) := by unfold Hid; rw [hX]; exact heap_alloc_new w _
 unfold rfO at hX
 go_enter Tryz.func50, Tryz.ntmps50
 go_upto_region 1 with fail
 rw [← hX]
 clear hX hat
 obtain ⟨q0, q1, q2, q3, q4, q5, q6, q7, q8⟩ := rf_cells HX0.out
 go_wp2_with fail
 go_loopg [3, 4] ts.length (fun g x3 x4 wr => ∃ (i : Nat) (n : Nat), i ≤ ts.length ∧ g = ts.length - i ∧ x3 = .int .i64 (n : Int) ∧ x4 = .int .i64 (i : Int) ∧ n ≤ 1000001 ∧ Hid (n = 1 + countK (ts.take i)) ∧ Hid (Below w.heap.size w wr) ∧ Hid (wr.heap[w.heap.size]? = some (rfO (kd : Int) (h1 : Int) (h2 : Int) (b1 : Int) (b2 : Int) (.slice ka ts.length kc) (.slice ca cn cc) (e1 : Int) (e2 : Int))))
 case atStart => exact ⟨0, 1, Nat.zero_le _, rfl, rfl, rfl, by omega, rfl, HBX.out, HX0.out⟩
 case round =>
  clear q0 q1 q2 q3 q4 q5 q6 q7 q8
  obtain ⟨i, n, hi, rfl, rfl, rfl, hn, HN, HBr, HPr⟩ := hrel
  by_cases hlt : i < ts.length
  ·obtain ⟨g, a, n', c, a2, n2, c2, rfl, hg, h9, hcall⟩ := HA.out i hlt
   obtain ⟨q0, q1, q2, q3, q4, q5, q6, q7, q8⟩ := rf_cells HPr.out
   obtain ⟨p0, p1, p2, p3, p4, p5, p6, p7, p8⟩ := nine_open (h9.block (HBr.out.block g hg))
   obtain ⟨q, hq⟩ : ∃ q, q = ts[i] := ⟨_, rfl⟩
   rw [← hq] at p0 p1 p2 p3 p4 p7 p8 hcall
   have hc := hcall wr HBr.out
   dsimp only at hc
   have HCl := Lib.hid hc
   clear hc
   have hsn := countK_snoc hlt
   have hle := countK_le (ts.take (i + 1)) 0
   have htk := countK_take hlt
   rw [← hq] at hsn htk
   obtain ⟨m, hm⟩ : ∃ m, m = countT q := ⟨_, rfl⟩
   have HM : Hid (n + m = 1 + countK (ts.take (i + 1))) := by unfold Hid; rw [HN.out, hm, hsn]; omega
   have hml : n + m ≤ 1000001 := by have h5 := HN.out; rw [← hm] at htk; omega
   rw [← hm] at HCl
   clear hm hsn hle htk
   clear h9 hcall hq
   go_wp2_with fail
   with_reducible refine (HCl.out).mono ?_
   rintro e w5 ⟨rfl, hb5⟩
   have HB5 := Lib.hid (HBr.out.trans (hb5.mono HBr.out.size))
   have HP5 := Lib.hid ((hb5.block w.heap.size (Array.getElem?_eq_some_iff.1 HPr.out).1).trans HPr.out)
   clear hb5 p0 p1 p2 p3 p4 p5 p6 p7 p8 q0 q1 q2 q3 q4 q5 q6 q7 q8
   go_wp2_with fail
   go_roundg (ts.length - (i + 1))
   case measure => omega
   case rel => exact ⟨i + 1, n + m, by omega, rfl, by go_num, by go_num, hml, HM, HB5, HP5⟩
  ·obtain rfl : i = ts.length := by omega
   have HE : Hid (n = 1 + countK ts) := by unfold Hid; rw [HN.out, List.take_length]
   obtain ⟨q0, q1, q2, q3, q4, q5, q6, q7, q8⟩ := rf_cells HPr.out
   go_wp2_with fail
   go_ret
   exact ⟨ret_int (by rw [HE.out]), HBr.out⟩
set_option maxRecDepth 100000 in
set_option maxHeartbeats 4000000 in
theorem refDeep_step (ts : List Tr) (kd h1 h2 b1 b2 e1 e2 : Nat) (ka ca : Option Addr) (kc cn cc : Nat) (w : World) (hln : ts.length ≤ 1000000) (hcb : deepK ts ≤ 1000000) (hat : kidV 51 (fun t => .int .i64 (deepT t : Int)) w ka ts) :
  Calls Tryz.prog 51 #[.agg #[.int .i64 (kd : Int), .int .i64 (h1 : Int), .int .i64 (h2 : Int), .int .i64 (b1 : Int), .int .i64 (b2 : Int), .slice ka ts.length kc, .slice ca cn cc, .int .i64 (e1 : Int), .int .i64 (e2 : Int)]] w fun e w' => e = .returned (.int .i64 ((deepK ts : Nat) : Int)) ∧ Below w.heap.size w w' := by
 have HA := Lib.hid hat
 obtain ⟨X, hX⟩ : ∃ X, X = w.alloc (rfO (kd : Int) (h1 : Int) (h2 : Int) (b1 : Int) (b2 : Int) (.slice ka ts.length kc) (.slice ca cn cc) (e1 : Int) (e2 : Int)) := ⟨_, rfl⟩
 have HBX : Hid (Below w.heap.size w X) := by unfold Hid; rw [hX]; exact (Below.refl _ _).alloc (Nat.le_refl _) _
 have HX0 : Hid (X.heap[w.heap.size]? = some (rfO (kd : Int) (h1 : Int) (h2 : Int) (b1 : Int) (b2 : Int) (.slice ka ts.length kc) (.slice ca cn cc) (e1 : Int) (e2 : Int))) := by unfold Hid; rw [hX]; exact heap_alloc_new w _
 unfold rfO at hX
 go_enter Tryz.func51, Tryz.ntmps51
 go_upto_region 1 with fail
 rw [← hX]
 clear hX hat
 obtain ⟨q0, q1, q2, q3, q4, q5, q6, q7, q8⟩ := rf_cells HX0.out
 go_wp2_with fail
 go_loopg [3, 4, 5] ts.length (fun g x3 x4 x5 wr => ∃ (i : Nat) (n : Nat), i ≤ ts.length ∧ g = ts.length - i ∧ x3 = .int .i64 (n : Int) ∧ x4 = .int .i64 (i : Int) ∧ n ≤ 1000000 ∧ Hid (n = deepK (ts.take i)) ∧ Hid (Below w.heap.size w wr) ∧ Hid (wr.heap[w.heap.size]? = some (rfO (kd : Int) (h1 : Int) (h2 : Int) (b1 : Int) (b2 : Int) (.slice ka ts.length kc) (.slice ca cn cc) (e1 : Int) (e2 : Int))))
 case atStart => exact ⟨0, 0, Nat.zero_le _, rfl, rfl, rfl, by omega, rfl, HBX.out, HX0.out⟩
 case round =>
  clear q0 q1 q2 q3 q4 q5 q6 q7 q8
  obtain ⟨i, n, hi, rfl, rfl, rfl, hn, HN, HBr, HPr⟩ := hrel
  by_cases hlt : i < ts.length
  ·obtain ⟨g, a, n', c, a2, n2, c2, rfl, hg, h9, hcall⟩ := HA.out i hlt
   obtain ⟨q0, q1, q2, q3, q4, q5, q6, q7, q8⟩ := rf_cells HPr.out
   obtain ⟨p0, p1, p2, p3, p4, p5, p6, p7, p8⟩ := nine_open (h9.block (HBr.out.block g hg))
   obtain ⟨q, hq⟩ : ∃ q, q = ts[i] := ⟨_, rfl⟩
   rw [← hq] at p0 p1 p2 p3 p4 p7 p8 hcall
   have hc := hcall wr HBr.out
   dsimp only at hc
   have HCl := Lib.hid hc
   clear hc
   have hsn := deepK_snoc hlt
   have hdk := deepK_get ts i hlt
   rw [← hq] at hsn hdk
   obtain ⟨m, hm⟩ : ∃ m, m = deepT q := ⟨_, rfl⟩
   have HM : Hid (deepK (ts.take (i + 1)) = max n (1 + m)) := by unfold Hid; rw [HN.out, hm, hsn]
   have hml : m + 1 ≤ 1000000 := by rw [← hm] at hdk; omega
   rw [← hm] at HCl
   clear hm hsn hdk
   clear h9 hcall hq
   go_wp2_with fail
   with_reducible refine (HCl.out).mono ?_
   rintro e w5 ⟨rfl, hb5⟩
   have HB5 := Lib.hid (HBr.out.trans (hb5.mono HBr.out.size))
   have HP5 := Lib.hid ((hb5.block w.heap.size (Array.getElem?_eq_some_iff.1 HPr.out).1).trans HPr.out)
   clear hb5 p0 p1 p2 p3 p4 p5 p6 p7 p8 q0 q1 q2 q3 q4 q5 q6 q7 q8
   obtain ⟨m1, hm1⟩ : ∃ m1, m1 = m + 1 := ⟨_, rfl⟩
   have em1 : (m : Int) + 1 = (m1 : Int) := by omega
   have HM1 : Hid (deepK (ts.take (i + 1)) = max n m1) := by unfold Hid; rw [HM.out, hm1, Nat.add_comm 1 m]
   have hml1 : m1 ≤ 1000000 := by omega
   clear hm1
   by_cases hgt : n < m1
   ·have g1 : (n : Int) < (m1 : Int) := by omega
    have g2 : decide ((n : Int) < (m1 : Int)) = true := decide_eq_true g1
    have g3 : decide (n < m1) = true := decide_eq_true hgt
    have HE : Hid (m1 = deepK (ts.take (i + 1))) := by unfold Hid; rw [HM1.out]; omega
    go_wp2_with fail
    go_roundg (ts.length - (i + 1))
    case measure => omega
    case rel => exact ⟨i + 1, m1, by omega, rfl, rfl, by go_num, hml1, HE, HB5, HP5⟩
   ·have g1 : ¬ (n : Int) < (m1 : Int) := by omega
    have g2 : decide ((n : Int) < (m1 : Int)) = false := decide_eq_false g1
    have g3 : decide (n < m1) = false := decide_eq_false hgt
    have HE : Hid (n = deepK (ts.take (i + 1))) := by unfold Hid; rw [HM1.out]; omega
    go_wp2_with fail
    go_roundg (ts.length - (i + 1))
    case measure => omega
    case rel => exact ⟨i + 1, n, by omega, rfl, rfl, by go_num, hn, HE, HB5, HP5⟩
  ·obtain rfl : i = ts.length := by omega
   have HE : Hid (n = deepK ts) := by unfold Hid; rw [HN.out, List.take_length]
   obtain ⟨q0, q1, q2, q3, q4, q5, q6, q7, q8⟩ := rf_cells HPr.out
   go_wp2_with fail
   go_ret
   exact ⟨ret_int (by rw [HE.out]), HBr.out⟩
theorem refCount_any (S : Nat → Prop) (n : Nat) : ∀ (t : Tr), SizeOf.sizeOf t ≤ n → countT t ≤ 1000000 → ∀ (w : World) (u : Value), refAt S w t u →
  Calls Tryz.prog 50 #[u] w fun e w' => e = .returned (.int .i64 (countT t : Int)) ∧ Below w.heap.size w w' := by
 induction n with
 | zero => intro t ht; cases t; rw [Tr.mk.sizeOf_spec] at ht; omega
 | succ n ih =>
  intro t ht hcb w u hu
  obtain ⟨ka, kn, kc, ca, cn, cc, us, rfl, hcs, ho, hk⟩ := refAt_open hu
  obtain ⟨rfl, _, _, hat⟩ := refkids_at ho hk
  have hC := countT_eq t
  have hD := deepT_eq t
  have hL := lenK_le t.kids
  rw [hC]
  refine refCount_step t.kids t.kind t.hd.1 t.hd.2 t.bd.1 t.bd.2 t.e.1 t.e.2 ka ca kc cn cc w (by omega) (by omega) fun i h => ?_
  obtain ⟨g, a, m, c, a2, n2, c2, e, hg1, _, h9, htr⟩ := hat i h
  have q1 := countK_drop t.kids i h
  have q2 := countK_le t.kids i
  have q3 := deepK_get t.kids i h
  exact ⟨g, a, m, c, a2, n2, c2, e, hg1, h9, fun W' hb => ih t.kids[i] (by have := size_kid i h; omega) (by omega) W' _ (refAt_below htr hb)⟩
theorem refDeep_any (S : Nat → Prop) (n : Nat) : ∀ (t : Tr), SizeOf.sizeOf t ≤ n → countT t ≤ 1000000 → deepT t ≤ 1000000 → ∀ (w : World) (u : Value), refAt S w t u →
  Calls Tryz.prog 51 #[u] w fun e w' => e = .returned (.int .i64 (deepT t : Int)) ∧ Below w.heap.size w w' := by
 induction n with
 | zero => intro t ht; cases t; rw [Tr.mk.sizeOf_spec] at ht; omega
 | succ n ih =>
  intro t ht hcb hdb w u hu
  obtain ⟨ka, kn, kc, ca, cn, cc, us, rfl, hcs, ho, hk⟩ := refAt_open hu
  obtain ⟨rfl, _, _, hat⟩ := refkids_at ho hk
  have hC := countT_eq t
  have hD := deepT_eq t
  have hL := lenK_le t.kids
  rw [hD]
  refine refDeep_step t.kids t.kind t.hd.1 t.hd.2 t.bd.1 t.bd.2 t.e.1 t.e.2 ka ca kc cn cc w (by omega) (by omega) fun i h => ?_
  obtain ⟨g, a, m, c, a2, n2, c2, e, hg1, _, h9, htr⟩ := hat i h
  have q1 := countK_drop t.kids i h
  have q2 := countK_le t.kids i
  have q3 := deepK_get t.kids i h
  exact ⟨g, a, m, c, a2, n2, c2, e, hg1, h9, fun W' hb => ih t.kids[i] (by have := size_kid i h; omega) (by omega) (by omega) W' _ (refAt_below htr hb)⟩
set_option maxRecDepth 100000 in
set_option maxHeartbeats 4000000 in
theorem refFits_leaf (ts : List Tr) (h1 b1 b2 : Nat) (hb : b1 ≤ b2) (ka ca : Option Addr) (kc cc : Nat) (w : World) (hln : ts.length ≤ 1000000) (hl : ts.length = 0) :
  Calls Tryz.prog 52 #[.agg #[.int .i64 0, .int .i64 (h1 : Int), .int .i64 (b1 : Int), .int .i64 (b1 : Int), .int .i64 (b2 : Int), .slice ka ts.length kc, .slice ca 0 cc, .int .i64 0, .int .i64 0]] w fun e w' => e = .returned (.bool true) ∧ Below w.heap.size w w' := by
 obtain ⟨X, hX⟩ : ∃ X, X = w.alloc (rfO 0 (h1 : Int) (b1 : Int) (b1 : Int) (b2 : Int) (.slice ka ts.length kc) (.slice ca 0 cc) 0 0) := ⟨_, rfl⟩
 have HBX : Hid (Below w.heap.size w X) := by unfold Hid; rw [hX]; exact (Below.refl _ _).alloc (Nat.le_refl _) _
 have HX0 : Hid (X.heap[w.heap.size]? = some (rfO 0 (h1 : Int) (b1 : Int) (b1 : Int) (b2 : Int) (.slice ka ts.length kc) (.slice ca 0 cc) 0 0)) := by unfold Hid; rw [hX]; exact heap_alloc_new w _
 unfold rfO at hX
 have t1 : ((b1 : Int) != (b1 : Int)) = false := bne_no rfl
 have n2 : decide (b2 < b1) = false := decide_eq_false (by omega)
 have t2 : decide ((b2 : Int) < (b1 : Int)) = false := decide_eq_false (by omega)
 have k1 : ¬ (0 : Int) < (ts.length : Int) := by omega
 have k2 : decide ((0 : Int) < (ts.length : Int)) = false := decide_eq_false k1
 have k3 : decide (0 < ts.length) = false := decide_eq_false (by omega)
 clear hl
 go_enter Tryz.func52, Tryz.ntmps52
 go_upto_region 1 with fail
 rw [← hX]
 clear hX
 obtain ⟨q0, q1, q2, q3, q4, q5, q6, q7, q8⟩ := rf_cells HX0.out
 go_upto_region 7 with fail
 have s0 : ∀ z : BW X, z.v.cell? ⟨w.heap.size, 0, none⟩ = some (.int .i64 0) := BW.cell q0
 have s1 : ∀ z : BW X, z.v.cell? ⟨w.heap.size, 1, none⟩ = some (.int .i64 (h1 : Int)) := BW.cell q1
 have s2 : ∀ z : BW X, z.v.cell? ⟨w.heap.size, 2, none⟩ = some (.int .i64 (b1 : Int)) := BW.cell q2
 have s3 : ∀ z : BW X, z.v.cell? ⟨w.heap.size, 3, none⟩ = some (.int .i64 (b1 : Int)) := BW.cell q3
 have s4 : ∀ z : BW X, z.v.cell? ⟨w.heap.size, 4, none⟩ = some (.int .i64 (b2 : Int)) := BW.cell q4
 have s5 : ∀ z : BW X, z.v.cell? ⟨w.heap.size, 5, none⟩ = some (.slice ka ts.length kc) := BW.cell q5
 have s6 : ∀ z : BW X, z.v.cell? ⟨w.heap.size, 6, none⟩ = some (.slice ca 0 cc) := BW.cell q6
 have s7 : ∀ z : BW X, z.v.cell? ⟨w.heap.size, 7, none⟩ = some (.int .i64 0) := BW.cell q7
 have s8 : ∀ z : BW X, z.v.cell? ⟨w.heap.size, 8, none⟩ = some (.int .i64 0) := BW.cell q8
 clear q0 q1 q2 q3 q4 q5 q6 q7 q8
 refine wp_region_below (by kernel_rfl) (by kernel_rfl) ?_
 repeat (go_big_quiet_step (fail))
 refine wpQuiet_nil ?_
 rintro _ ⟨z, rfl⟩
 have HZ := Lib.hid (HBX.out.trans (z.h.mono HBX.out.size))
 have HZ0 := Lib.hid ((z.h.block w.heap.size (Array.getElem?_eq_some_iff.1 HX0.out).1).trans HX0.out)
 clear s0 s1 s2 s3 s4 s5 s6 s7 s8
 go_wp2_with fail
 go_loopg [3, 4] ts.length (fun gg x3 x4 wr => ∃ (i : Nat), i ≤ ts.length ∧ gg = ts.length - i ∧ x3 = .int .i64 (i : Int) ∧ Hid (Below w.heap.size w wr) ∧ Hid (wr.heap[w.heap.size]? = some (rfO 0 (h1 : Int) (b1 : Int) (b1 : Int) (b2 : Int) (.slice ka ts.length kc) (.slice ca 0 cc) 0 0)))
 case atStart => exact ⟨0, Nat.zero_le _, rfl, rfl, HZ.out, HZ0.out⟩
 case round =>
  obtain ⟨i, hi, rfl, rfl, HBr, HPr⟩ := hrel
  by_cases hlt : i < ts.length
  ·exact absurd hlt (by omega)
  ·obtain rfl : i = ts.length := by omega
   obtain ⟨q0, q1, q2, q3, q4, q5, q6, q7, q8⟩ := rf_cells HPr.out
   go_wp2_with fail
   go_ret
   exact ⟨rfl, HBr.out⟩
set_option maxRecDepth 100000 in
set_option maxHeartbeats 4000000 in
theorem refFits_multi (ts : List Tr) (h1 b1 b2 e1 e2 : Nat) (hb : b1 ≤ b2) (ka ca : Option Addr) (kc cc : Nat) (w : World) (hln : ts.length ≤ 1000000) (hl : 0 < ts.length) (hat : kidV 52 (fun _ => .bool true) w ka ts) :
  Calls Tryz.prog 52 #[.agg #[.int .i64 1, .int .i64 (h1 : Int), .int .i64 (b1 : Int), .int .i64 (b1 : Int), .int .i64 (b2 : Int), .slice ka ts.length kc, .slice ca ts.length cc, .int .i64 (e1 : Int), .int .i64 (e2 : Int)]] w fun e w' => e = .returned (.bool true) ∧ Below w.heap.size w w' := by
 have HA := Lib.hid hat
 obtain ⟨X, hX⟩ : ∃ X, X = w.alloc (rfO 1 (h1 : Int) (b1 : Int) (b1 : Int) (b2 : Int) (.slice ka ts.length kc) (.slice ca ts.length cc) (e1 : Int) (e2 : Int)) := ⟨_, rfl⟩
 have HBX : Hid (Below w.heap.size w X) := by unfold Hid; rw [hX]; exact (Below.refl _ _).alloc (Nat.le_refl _) _
 have HX0 : Hid (X.heap[w.heap.size]? = some (rfO 1 (h1 : Int) (b1 : Int) (b1 : Int) (b2 : Int) (.slice ka ts.length kc) (.slice ca ts.length cc) (e1 : Int) (e2 : Int))) := by unfold Hid; rw [hX]; exact heap_alloc_new w _
 unfold rfO at hX
 have t1 : ((b1 : Int) != (b1 : Int)) = false := bne_no rfl
 have n2 : decide (b2 < b1) = false := decide_eq_false (by omega)
 have t2 : decide ((b2 : Int) < (b1 : Int)) = false := decide_eq_false (by omega)
 have k1 : ((ts.length : Int) == 0) = false := beq_no (by omega)
 have k2 : ((ts.length : Int) != (ts.length : Int)) = false := bne_no rfl
 go_enter Tryz.func52, Tryz.ntmps52
 go_upto_region 1 with fail
 rw [← hX]
 clear hX hat
 obtain ⟨q0, q1, q2, q3, q4, q5, q6, q7, q8⟩ := rf_cells HX0.out
 go_upto_region 7 with fail
 have s0 : ∀ z : BW X, z.v.cell? ⟨w.heap.size, 0, none⟩ = some (.int .i64 1) := BW.cell q0
 have s1 : ∀ z : BW X, z.v.cell? ⟨w.heap.size, 1, none⟩ = some (.int .i64 (h1 : Int)) := BW.cell q1
 have s2 : ∀ z : BW X, z.v.cell? ⟨w.heap.size, 2, none⟩ = some (.int .i64 (b1 : Int)) := BW.cell q2
 have s3 : ∀ z : BW X, z.v.cell? ⟨w.heap.size, 3, none⟩ = some (.int .i64 (b1 : Int)) := BW.cell q3
 have s4 : ∀ z : BW X, z.v.cell? ⟨w.heap.size, 4, none⟩ = some (.int .i64 (b2 : Int)) := BW.cell q4
 have s5 : ∀ z : BW X, z.v.cell? ⟨w.heap.size, 5, none⟩ = some (.slice ka ts.length kc) := BW.cell q5
 have s6 : ∀ z : BW X, z.v.cell? ⟨w.heap.size, 6, none⟩ = some (.slice ca ts.length cc) := BW.cell q6
 have s7 : ∀ z : BW X, z.v.cell? ⟨w.heap.size, 7, none⟩ = some (.int .i64 (e1 : Int)) := BW.cell q7
 have s8 : ∀ z : BW X, z.v.cell? ⟨w.heap.size, 8, none⟩ = some (.int .i64 (e2 : Int)) := BW.cell q8
 clear q0 q1 q2 q3 q4 q5 q6 q7 q8
 refine wp_region_below (by kernel_rfl) (by kernel_rfl) ?_
 repeat (go_big_quiet_step (fail))
 refine wpQuiet_nil ?_
 rintro _ ⟨z, rfl⟩
 have HZ := Lib.hid (HBX.out.trans (z.h.mono HBX.out.size))
 have HZ0 := Lib.hid ((z.h.block w.heap.size (Array.getElem?_eq_some_iff.1 HX0.out).1).trans HX0.out)
 clear s0 s1 s2 s3 s4 s5 s6 s7 s8
 go_wp2_with fail
 go_loopg [3, 4] ts.length (fun gg x3 x4 wr => ∃ (i : Nat), i ≤ ts.length ∧ gg = ts.length - i ∧ x3 = .int .i64 (i : Int) ∧ Hid (Below w.heap.size w wr) ∧ Hid (wr.heap[w.heap.size]? = some (rfO 1 (h1 : Int) (b1 : Int) (b1 : Int) (b2 : Int) (.slice ka ts.length kc) (.slice ca ts.length cc) (e1 : Int) (e2 : Int))))
 case atStart => exact ⟨0, Nat.zero_le _, rfl, rfl, HZ.out, HZ0.out⟩
 case round =>
  obtain ⟨i, hi, rfl, rfl, HBr, HPr⟩ := hrel
  by_cases hlt : i < ts.length
  ·obtain ⟨g, a, n', c, a2, n2, c2, rfl, hg, h9, hcall⟩ := HA.out i hlt
   obtain ⟨q0, q1, q2, q3, q4, q5, q6, q7, q8⟩ := rf_cells HPr.out
   obtain ⟨p0, p1, p2, p3, p4, p5, p6, p7, p8⟩ := nine_open (h9.block (HBr.out.block g hg))
   obtain ⟨q, hq⟩ : ∃ q, q = ts[i] := ⟨_, rfl⟩
   rw [← hq] at p0 p1 p2 p3 p4 p7 p8 hcall
   have hc := hcall wr HBr.out
   dsimp only at hc
   have HCl := Lib.hid hc
   clear hc
   clear h9 hcall hq
   go_wp2_with fail
   with_reducible refine (HCl.out).mono ?_
   rintro e w5 ⟨rfl, hb5⟩
   have HB5 := Lib.hid (HBr.out.trans (hb5.mono HBr.out.size))
   have HP5 := Lib.hid ((hb5.block w.heap.size (Array.getElem?_eq_some_iff.1 HPr.out).1).trans HPr.out)
   clear hb5 p0 p1 p2 p3 p4 p5 p6 p7 p8 q0 q1 q2 q3 q4 q5 q6 q7 q8
   go_wp2_with fail
   go_roundg (ts.length - (i + 1))
   case measure => omega
   case rel => exact ⟨i + 1, by omega, rfl, by go_num, HB5, HP5⟩
  ·obtain rfl : i = ts.length := by omega
   obtain ⟨q0, q1, q2, q3, q4, q5, q6, q7, q8⟩ := rf_cells HPr.out
   go_wp2_with fail
   go_ret
   exact ⟨rfl, HBr.out⟩
set_option maxRecDepth 100000 in
set_option maxHeartbeats 4000000 in
theorem refFits_msg (ts : List Tr) (h1 b1 b2 : Nat) (hb : b1 ≤ b2) (ka ca : Option Addr) (kc cc : Nat) (w : World) (hln : ts.length ≤ 1000000) (hl : ts.length = 1) (hq : ∀ h : 0 < ts.length, ts[0].hd.1 = b1 ∧ ts[0].bd.2 = b2) (hat : kidV 52 (fun _ => .bool true) w ka ts) :
  Calls Tryz.prog 52 #[.agg #[.int .i64 2, .int .i64 (h1 : Int), .int .i64 (b1 : Int), .int .i64 (b1 : Int), .int .i64 (b2 : Int), .slice ka ts.length kc, .slice ca 0 cc, .int .i64 0, .int .i64 0]] w fun e w' => e = .returned (.bool true) ∧ Below w.heap.size w w' := by
 have HA := Lib.hid hat
 obtain ⟨X, hX⟩ : ∃ X, X = w.alloc (rfO 2 (h1 : Int) (b1 : Int) (b1 : Int) (b2 : Int) (.slice ka ts.length kc) (.slice ca 0 cc) 0 0) := ⟨_, rfl⟩
 have HBX : Hid (Below w.heap.size w X) := by unfold Hid; rw [hX]; exact (Below.refl _ _).alloc (Nat.le_refl _) _
 have HX0 : Hid (X.heap[w.heap.size]? = some (rfO 2 (h1 : Int) (b1 : Int) (b1 : Int) (b2 : Int) (.slice ka ts.length kc) (.slice ca 0 cc) 0 0)) := by unfold Hid; rw [hX]; exact heap_alloc_new w _
 unfold rfO at hX
 have t1 : ((b1 : Int) != (b1 : Int)) = false := bne_no rfl
 have n2 : decide (b2 < b1) = false := decide_eq_false (by omega)
 have t2 : decide ((b2 : Int) < (b1 : Int)) = false := decide_eq_false (by omega)
 have k1 : ((ts.length : Int) != 1) = false := bne_no (by omega)
 have k2 : (0 : Int) < (ts.length : Int) := by omega
 have k3 : 0 < ts.length := by omega
 obtain ⟨g, a, n', c, a2, n2', c2, rfl, hg, h9, -⟩ := hat 0 k3
 have hq' := hq k3
 have h9' := nine_open (h9.block (HBX.out.block g hg))
 simp only [Nat.zero_mul, Nat.zero_add] at h9'
 rw [hq'.1, hq'.2] at h9'
 obtain ⟨p0, p1, p2, p3, p4, p5, p6, p7, p8⟩ := h9'
 have r1 := BW.cell p1
 have r4 := BW.cell p4
 clear hl hq hq' h9 p0 p1 p2 p3 p4 p5 p6 p7 p8
 go_enter Tryz.func52, Tryz.ntmps52
 go_upto_region 1 with fail
 rw [← hX]
 clear hX hat
 obtain ⟨q0, q1, q2, q3, q4, q5, q6, q7, q8⟩ := rf_cells HX0.out
 go_upto_region 7 with fail
 have s0 : ∀ z : BW X, z.v.cell? ⟨w.heap.size, 0, none⟩ = some (.int .i64 2) := BW.cell q0
 have s1 : ∀ z : BW X, z.v.cell? ⟨w.heap.size, 1, none⟩ = some (.int .i64 (h1 : Int)) := BW.cell q1
 have s2 : ∀ z : BW X, z.v.cell? ⟨w.heap.size, 2, none⟩ = some (.int .i64 (b1 : Int)) := BW.cell q2
 have s3 : ∀ z : BW X, z.v.cell? ⟨w.heap.size, 3, none⟩ = some (.int .i64 (b1 : Int)) := BW.cell q3
 have s4 : ∀ z : BW X, z.v.cell? ⟨w.heap.size, 4, none⟩ = some (.int .i64 (b2 : Int)) := BW.cell q4
 have s5 : ∀ z : BW X, z.v.cell? ⟨w.heap.size, 5, none⟩ = some (.slice (some ⟨g, 0, none⟩) ts.length kc) := BW.cell q5
 have s6 : ∀ z : BW X, z.v.cell? ⟨w.heap.size, 6, none⟩ = some (.slice ca 0 cc) := BW.cell q6
 have s7 : ∀ z : BW X, z.v.cell? ⟨w.heap.size, 7, none⟩ = some (.int .i64 0) := BW.cell q7
 have s8 : ∀ z : BW X, z.v.cell? ⟨w.heap.size, 8, none⟩ = some (.int .i64 0) := BW.cell q8
 clear q0 q1 q2 q3 q4 q5 q6 q7 q8
 refine wp_region_below (by kernel_rfl) (by kernel_rfl) ?_
 repeat (go_big_quiet_step (fail))
 refine wpQuiet_nil ?_
 rintro _ ⟨z, rfl⟩
 have HZ := Lib.hid (HBX.out.trans (z.h.mono HBX.out.size))
 have HZ0 := Lib.hid ((z.h.block w.heap.size (Array.getElem?_eq_some_iff.1 HX0.out).1).trans HX0.out)
 clear s0 s1 s2 s3 s4 s5 s6 s7 s8
 go_wp2_with fail
 go_loopg [3, 4] ts.length (fun gg x3 x4 wr => ∃ (i : Nat), i ≤ ts.length ∧ gg = ts.length - i ∧ x3 = .int .i64 (i : Int) ∧ Hid (Below w.heap.size w wr) ∧ Hid (wr.heap[w.heap.size]? = some (rfO 2 (h1 : Int) (b1 : Int) (b1 : Int) (b2 : Int) (.slice (some ⟨g, 0, none⟩) ts.length kc) (.slice ca 0 cc) 0 0)))
 case atStart => exact ⟨0, Nat.zero_le _, rfl, rfl, HZ.out, HZ0.out⟩
 case round =>
  obtain ⟨i, hi, rfl, rfl, HBr, HPr⟩ := hrel
  by_cases hlt : i < ts.length
  ·obtain ⟨g', a, n', c, a2, n2, c2, hgg, hg, h9, hcall⟩ := HA.out i hlt
   obtain ⟨q0, q1, q2, q3, q4, q5, q6, q7, q8⟩ := rf_cells HPr.out
   obtain ⟨p0, p1, p2, p3, p4, p5, p6, p7, p8⟩ := nine_open (h9.block (HBr.out.block g' hg))
   obtain rfl : g = g' := by cases hgg; rfl
   obtain ⟨q, hq⟩ : ∃ q, q = ts[i] := ⟨_, rfl⟩
   rw [← hq] at p0 p1 p2 p3 p4 p7 p8 hcall
   have hc := hcall wr HBr.out
   dsimp only at hc
   have HCl := Lib.hid hc
   clear hc
   clear h9 hcall hq
   go_wp2_with fail
   with_reducible refine (HCl.out).mono ?_
   rintro e w5 ⟨rfl, hb5⟩
   have HB5 := Lib.hid (HBr.out.trans (hb5.mono HBr.out.size))
   have HP5 := Lib.hid ((hb5.block w.heap.size (Array.getElem?_eq_some_iff.1 HPr.out).1).trans HPr.out)
   clear hb5 p0 p1 p2 p3 p4 p5 p6 p7 p8 q0 q1 q2 q3 q4 q5 q6 q7 q8
   go_wp2_with fail
   go_roundg (ts.length - (i + 1))
   case measure => omega
   case rel => exact ⟨i + 1, by omega, rfl, by go_num, HB5, HP5⟩
  ·obtain rfl : i = ts.length := by omega
   obtain ⟨q0, q1, q2, q3, q4, q5, q6, q7, q8⟩ := rf_cells HPr.out
   go_wp2_with fail
   go_ret
   exact ⟨rfl, HBr.out⟩
theorem refFits_any (S : Nat → Prop) (n : Nat) : ∀ (t : Tr), SizeOf.sizeOf t ≤ n → goodT t → countT t ≤ 1000000 → ∀ (w : World) (u : Value), refAt S w t u →
  Calls Tryz.prog 52 #[u] w fun e w' => e = .returned (.bool true) ∧ Below w.heap.size w w' := by
 induction n with
 | zero => intro t ht; cases t; rw [Tr.mk.sizeOf_spec] at ht; omega
 | succ n ih =>
  intro t ht hg hcb w u hu
  obtain ⟨hf, hgk⟩ := goodT_open hg
  obtain ⟨ka, kn, kc, ca, cn, cc, us, rfl, hcs, ho, hk⟩ := refAt_open hu
  obtain ⟨rfl, _, _, hat⟩ := refkids_at ho hk
  obtain ⟨rfl, _⟩ := refspans_at hcs
  have hC := countT_eq t
  have hL := lenK_le t.kids
  have hkv : kidV 52 (fun _ => .bool true) w ka t.kids := fun i h => by
   obtain ⟨g, a, m, c, a2, n2, c2, e, hg1, _, h9, htr⟩ := hat i h
   have q1 := countK_drop t.kids i h
   have q2 := countK_le t.kids i
   exact ⟨g, a, m, c, a2, n2, c2, e, hg1, h9, fun W' hb => ih t.kids[i] (by have := size_kid i h; omega) (goodK_get hgk i h) (by omega) W' _ (refAt_below htr hb)⟩
  obtain ⟨f1, f2, f3⟩ := hf
  rw [f1]
  rcases f3 with ⟨hk0, hks, hcs0, he⟩ | ⟨hk0, hks, hlen⟩ | ⟨hk0, hcs0, he, q, hks, hq1, hq2⟩
  ·have z1 : t.kids.length = 0 := by rw [hks]; rfl
   have z2 : t.cuts.length = 0 := by rw [hcs0]; rfl
   rw [hk0, he, z2]
   exact refFits_leaf t.kids _ _ _ f2 ka ca kc cc w (by omega) z1
  ·rw [hk0, ← hlen]
   exact refFits_multi t.kids _ _ _ _ _ f2 ka ca kc cc w (by omega) (by cases hkk : t.kids with | nil => exact absurd hkk hks | cons => simp) hkv
  ·have z1 : t.kids.length = 1 := by rw [hks]; rfl
   have z2 : t.cuts.length = 0 := by rw [hcs0]; rfl
   rw [hk0, he, z2]
   refine refFits_msg t.kids _ _ _ f2 ka ca kc cc w (by omega) z1 (fun h => ?_) hkv
   have hq' : t.kids[0]'h = q := by simp [hks]
   rw [hq']
   exact ⟨hq1, hq2⟩
theorem Tryz.infoT13 : (Tryz.prog.info? 115).map (fun i => (i.zero, i.size, i.bytes)) = some (some (.agg #[.int .i64 0, .int .i64 0, .int .i64 0]), 3, 24) := by kernel_rfl
def rowT (base : Nat) (v : Value) (L : List Tl) (W : World) : Prop := W.ownsRow base 115 3 v L.length (tlCells L)
theorem tlCells_app (a b : List Tl) : tlCells (a ++ b) = tlCells a ++ tlCells b := by simp [tlCells]
theorem rowT_snoc {base : Nat} {v : Value} {L : List Tl} {W : World} {x : Tl} (h : W.ownsRow base 115 3 v (L.length + 1) (tlCells L ++ [.int .i64 (x.1 : Int), .int .i64 (x.2.1 : Int), .int .i64 (x.2.2 : Int)])) : rowT base v (L ++ [x]) W := by
 unfold rowT
 rw [List.length_append, tlCells_snoc]
 exact h
theorem rowT_app {base : Nat} {v : Value} {L M : List Tl} {W : World} (h : W.ownsRow base 115 3 v (L.length + M.length) (tlCells L ++ tlCells M)) : rowT base v (L ++ M) W := by
 unfold rowT
 rw [List.length_append, tlCells_app]
 exact h
theorem rowT_at {base : Nat} {v : Value} {L : List Tl} {W : World} (h : rowT base v L W) (hp : 0 < L.length) : ∃ g cap, v = .slice (some ⟨g, 0, none⟩) L.length cap ∧ base ≤ g ∧ g < W.heap.size ∧ ∀ j u, (tlCells L)[j]? = some u → W.cell? ((⟨g, 0, none⟩ : Addr).add j) = some u := by
 have hlt := h.lt
 rcases h.2 with ⟨_, h0⟩ | ⟨g, cap, cur, rfl, hg, hh, r1, r2, r3, r4⟩
 ·omega
 ·refine ⟨g, cap, rfl, hg, (hlt g rfl).2, fun j u hj => ?_⟩
  rw [Addr.add_lit, Nat.zero_add]
  have h1 : (cur.toList.take (L.length * 3))[j]? = some u := by rw [r4]; exact hj
  rw [List.getElem?_take] at h1
  split at h1
  ·simp only [World.cell?, hh]
   simpa using h1
  ·cases h1
theorem tlCells_one (L : List Tl) : ∀ u ∈ tlCells L, u.oneCell' = true := by
 intro u hu
 simp only [tlCells, List.mem_flatMap] at hu
 obtain ⟨x, _, hx⟩ := hu
 exact tlC_one x u hx
theorem tilesM_snoc : ∀ {ts : List Tr} {cs : List Sp} {k : Nat} (h : k < ts.length) (h2 : k < cs.length), tilesM (ts.take (k + 1)) (cs.take (k + 1)) = tilesM (ts.take k) (cs.take k) ++ (3, cs[k]) :: tilesT ts[k]
 | [], _, k, h, _ => by simp at h
 | _ :: _, [], k, _, h2 => by simp at h2
 | t :: r, c :: cs, 0, h, h2 => by
  show tilesM (t :: r.take 0) (c :: cs.take 0) = _
  rw [tilesM_cons]
  show (3, c) :: (tilesT t ++ tilesM [] []) = [] ++ _
  rw [tilesM_nil, List.append_nil]
  rfl
 | t :: r, c :: cs, k + 1, h, h2 => by
  have ih := tilesM_snoc (ts := r) (cs := cs) (k := k) (by simpa using h) (by simpa using h2)
  show tilesM (t :: r.take (k + 1)) (c :: cs.take (k + 1)) = tilesM (t :: r.take k) (c :: cs.take k) ++ (3, cs[k]'(by simpa using h2)) :: tilesT (r[k]'(by simpa using h))
  rw [tilesM_cons, tilesM_cons, ih]
  simp only [List.cons_append, List.append_assoc]
def ofP13 (t : Tr) (w : World) (e : Ending) (w' : World) : Prop := ∃ u, e = .returned u ∧ rowT w.heap.size u (tilesT t) w' ∧ Below w.heap.size w w'
def kidO (w : World) (ka : Option Addr) (ts : List Tr) : Prop := ∀ i, (h : i < ts.length) → ∃ g a n c a2 n2 c2, ka = some ⟨g, 0, none⟩ ∧ g < w.heap.size ∧ nineAt w g i ts[i] (.slice a n c) (.slice a2 n2 c2) ∧
 ∀ W', Below w.heap.size w W' → Calls Tryz.prog 53 #[.agg #[.int .i64 (ts[i].kind : Int), .int .i64 (ts[i].hd.1 : Int), .int .i64 (ts[i].hd.2 : Int), .int .i64 (ts[i].bd.1 : Int), .int .i64 (ts[i].bd.2 : Int), .slice a n c, .slice a2 n2 c2, .int .i64 (ts[i].e.1 : Int), .int .i64 (ts[i].e.2 : Int)]] W' (ofP13 ts[i] W')
set_option maxRecDepth 100000 in
set_option maxHeartbeats 4000000 in
theorem refOf_leaf (ts : List Tr) (h1 h2 b1 b2 e1 e2 cn : Nat) (ka ca : Option Addr) (kc cc : Nat) (w : World)  :
  Calls Tryz.prog 53 #[.agg #[.int .i64 0, .int .i64 (h1 : Int), .int .i64 (h2 : Int), .int .i64 (b1 : Int), .int .i64 (b2 : Int), .slice ka ts.length kc, .slice ca cn cc, .int .i64 (e1 : Int), .int .i64 (e2 : Int)]] w fun e w' => ∃ u, e = .returned u ∧ rowT w.heap.size u ([(0, (h1, h2)), (1, (b1, b2))]) w' ∧ Below w.heap.size w w' := by
 obtain ⟨iT, hTi, hT0, hT1, hT2⟩ := info_parts Tryz.infoT13
 obtain ⟨X, hX⟩ : ∃ X, X = (w.alloc (rfO 0 (h1 : Int) (h2 : Int) (b1 : Int) (b2 : Int) (.slice ka ts.length kc) (.slice ca cn cc) (e1 : Int) (e2 : Int))).alloc (.cells #[.int .i64 0, .int .i64 (h1 : Int), .int .i64 (h2 : Int)] 115) := ⟨_, rfl⟩
 have HBX : Hid (Below w.heap.size w X) := by unfold Hid; rw [hX]; exact ((Below.refl _ _).alloc (Nat.le_refl _) _).alloc (by simp) _
 have HX0 : Hid (X.heap[w.heap.size]? = some (rfO 0 (h1 : Int) (h2 : Int) (b1 : Int) (b2 : Int) (.slice ka ts.length kc) (.slice ca cn cc) (e1 : Int) (e2 : Int))) := by unfold Hid; rw [hX]; exact heap_alloc2_old w _ _
 have HXz : Hid (X.heap.size = w.heap.size + 2) := by unfold Hid; rw [hX]; simp
 have HR0 : Hid (rowT (w.heap.size + 1) (.slice (some ⟨w.heap.size + 1, 0, none⟩) 1 1) [(0, (h1, h2))] X) := by
  unfold Hid rowT
  rw [hX]
  have h := World.ownsRow_lit (base := w.heap.size + 1) (e := 115) (size := 3) (w.alloc (rfO 0 (h1 : Int) (h2 : Int) (b1 : Int) (b2 : Int) (.slice ka ts.length kc) (.slice ca cn cc) (e1 : Int) (e2 : Int))) #[.int .i64 0, .int .i64 (h1 : Int), .int .i64 (h2 : Int)] 1 (by simp) (by unfold maxLen; omega) rfl
  simp only [World.size_alloc] at h
  exact h
 unfold rfO at hX
 go_enter Tryz.func53, Tryz.ntmps53
 go_upto_region 2 with fail
 rw [← hX]
 clear hX
 obtain ⟨q0, q1, q2, q3, q4, q5, q6, q7, q8⟩ := rf_cells HX0.out
 obtain ⟨L0, hL0⟩ : ∃ L0 : List Tl, L0 = [(0, (h1, h2))] := ⟨_, rfl⟩
 have HL0 := Lib.hid hL0
 have hl0 : L0.length = 1 := by rw [hL0]; rfl
 rw [← hL0] at HR0
 have hr0 := HR0.out
 unfold rowT at hr0
 rw [hl0] at hr0
 have HRw := Lib.hid hr0
 clear hr0 hL0
 go_wp2_with (at_builtin; refine wpList_append_lies _ rfl _ _ 112 rfl (w.heap.size + 1) 115 iT (.agg #[.int .i64 0, .int .i64 0, .int .i64 0]) 3 24 Tryz.underlying112 hTi hT0 hT1 hT2 rfl (by decide) _ 1 (tlCells L0) rfl (HRw.out.alloc _) ⟨X.heap.size, 0, none⟩ 1 1 [.int .i64 1, .int .i64 (b1 : Int), .int .i64 (b2 : Int)] rfl rfl (World.news_of_block (cs := #[.int .i64 1, .int .i64 (b1 : Int), .int .i64 (b2 : Int)]) (heap_alloc_new X _)) (by simp [Value.oneCell']) (by decide) (by unfold maxLen; omega) (by omega) (by have := HXz.out; simp; omega) _ rfl ?_; intro g13 cap13 w13 hown13 hgrow13 hor13 hlt13)
 have hr := rowT_snoc (L := L0) (x := (1, (b1, b2))) (by rw [hl0]; exact hown13)
 have HR := Lib.hid hr
 have HB : Hid (Below w.heap.size w w13) := ((HBX.out.alloc HBX.out.size _).grown hgrow13 (by have := HBX.out.size; simp; omega) (fun k e => by have : w.heap.size + 1 = k := Option.some.inj e; omega))
 clear hown13 hgrow13 hor13 hlt13 hr
 go_wp2_with fail
 go_ret
 refine ⟨_, rfl, ?_, HB.out⟩
 have h := HR.out
 rw [HL0.out] at h
 exact own_base2 h (Nat.le_succ _)
set_option maxRecDepth 100000 in
set_option maxHeartbeats 4000000 in
theorem refOf_msg (ts : List Tr) (h1 h2 b1 b2 e1 e2 cn : Nat) (ka ca : Option Addr) (kc cc : Nat) (w : World) (hl : ts.length = 1) (hat : kidO w ka ts) (hcb : ∀ h : 0 < ts.length, (tilesT ts[0]).length ≤ 1000000) :
  Calls Tryz.prog 53 #[.agg #[.int .i64 2, .int .i64 (h1 : Int), .int .i64 (h2 : Int), .int .i64 (b1 : Int), .int .i64 (b2 : Int), .slice ka ts.length kc, .slice ca cn cc, .int .i64 (e1 : Int), .int .i64 (e2 : Int)]] w fun e w' => ∃ u, e = .returned u ∧ rowT w.heap.size u ((0, (h1, h2)) :: tilesH ts) w' ∧ Below w.heap.size w w' := by
 obtain ⟨iT, hTi, hT0, hT1, hT2⟩ := info_parts Tryz.infoT13
 obtain ⟨X, hX⟩ : ∃ X, X = (w.alloc (rfO 2 (h1 : Int) (h2 : Int) (b1 : Int) (b2 : Int) (.slice ka ts.length kc) (.slice ca cn cc) (e1 : Int) (e2 : Int))).alloc (.cells #[.int .i64 0, .int .i64 (h1 : Int), .int .i64 (h2 : Int)] 115) := ⟨_, rfl⟩
 have HBX : Hid (Below w.heap.size w X) := by unfold Hid; rw [hX]; exact ((Below.refl _ _).alloc (Nat.le_refl _) _).alloc (by simp) _
 have HX0 : Hid (X.heap[w.heap.size]? = some (rfO 2 (h1 : Int) (h2 : Int) (b1 : Int) (b2 : Int) (.slice ka ts.length kc) (.slice ca cn cc) (e1 : Int) (e2 : Int))) := by unfold Hid; rw [hX]; exact heap_alloc2_old w _ _
 have HXz : Hid (X.heap.size = w.heap.size + 2) := by unfold Hid; rw [hX]; simp
 have HR0 : Hid (rowT (w.heap.size + 1) (.slice (some ⟨w.heap.size + 1, 0, none⟩) 1 1) [(0, (h1, h2))] X) := by
  unfold Hid rowT
  rw [hX]
  have h := World.ownsRow_lit (base := w.heap.size + 1) (e := 115) (size := 3) (w.alloc (rfO 2 (h1 : Int) (h2 : Int) (b1 : Int) (b2 : Int) (.slice ka ts.length kc) (.slice ca cn cc) (e1 : Int) (e2 : Int))) #[.int .i64 0, .int .i64 (h1 : Int), .int .i64 (h2 : Int)] 1 (by simp) (by unfold maxLen; omega) rfl
  simp only [World.size_alloc] at h
  exact h
 unfold rfO at hX
 have k2 : (0 : Int) < (ts.length : Int) := by omega
 have k2d : decide ((0 : Int) < (ts.length : Int)) = true := decide_eq_true k2
 have k3 : 0 < ts.length := by omega
 have k3d : decide (0 < ts.length) = true := decide_eq_true k3
 have hcb0 := hcb k3
 have hti := tilesT_pos ts[0]
 obtain ⟨g, a, n', c, a2, n2, c2, rfl, hg, h9, hcall⟩ := hat 0 k3
 have h9' := nine_open (h9.block (HBX.out.block g hg))
 simp only [Nat.zero_mul, Nat.zero_add] at h9'
 have HTs : Hid (tilesH ts = tilesT ts[0]) := by
  unfold Hid
  match hh : ts, hl with
  | [q], _ => exact tilesH_one q
 obtain ⟨q, hq⟩ : ∃ q, q = ts[0] := ⟨_, rfl⟩
 rw [← hq] at h9' hcall hcb0 hti HTs
 have hc := hcall X HBX.out
 unfold ofP13 at hc
 have HCl := Lib.hid hc
 obtain ⟨p0, p1, p2, p3, p4, p5, p6, p7, p8⟩ := h9'
 clear hc hcall h9 hq hcb hl
 go_enter Tryz.func53, Tryz.ntmps53
 go_upto_region 2 with fail
 rw [← hX]
 clear hX
 obtain ⟨q0, q1, q2, q3, q4, q5, q6, q7, q8⟩ := rf_cells HX0.out
 obtain ⟨L0, hL0⟩ : ∃ L0 : List Tl, L0 = [(0, (h1, h2))] := ⟨_, rfl⟩
 have HL0 := Lib.hid hL0
 have hl0 : L0.length = 1 := by rw [hL0]; rfl
 rw [← hL0] at HR0
 have hr0 := HR0.out
 unfold rowT at hr0
 rw [hl0] at hr0
 have HRw := Lib.hid hr0
 clear hr0 hL0
 go_wp2_with fail
 with_reducible refine (HCl.out).mono ?_
 rintro e w3 ⟨u, rfl, hu, hb3⟩
 obtain ⟨gk, ck, rfl, hgk, hgk2, hnw⟩ := rowT_at hu (by omega)
 have HU := Lib.hid hu
 have HB3 := Lib.hid (HBX.out.trans (hb3.mono HBX.out.size))
 have hr3 := HRw.out
 have HR3 : Hid (w3.ownsRow (w.heap.size + 1) 115 3 (.slice (some ⟨w.heap.size + 1, 0, none⟩) 1 1) 1 (tlCells L0)) := ownsRow_below hr3 hb3
 have HZ3 : Hid (w.heap.size + 2 ≤ w3.heap.size) := by have := hb3.size; have := HXz.out; unfold Hid; omega
 have HP3 := Lib.hid ((hb3.block w.heap.size (Array.getElem?_eq_some_iff.1 HX0.out).1).trans HX0.out)
 clear hu hb3 hr3 p0 p1 p2 p3 p4 p5 p6 p7 p8 q0 q1 q2 q3 q4 q5 q6 q7 q8
 go_wp2_with (at_builtin; refine wpList_append_lies _ rfl _ _ 112 rfl (w.heap.size + 1) 115 iT (.agg #[.int .i64 0, .int .i64 0, .int .i64 0]) 3 24 Tryz.underlying112 hTi hT0 hT1 hT2 rfl (by decide) _ 1 (tlCells L0) rfl HR3.out ⟨gk, 0, none⟩ (tilesT q).length ck (tlCells (tilesT q)) rfl (tlCells_len (tilesT q)) hnw (tlCells_one (tilesT q)) (by omega) (by unfold maxLen; omega) (by omega) (by have := HZ3.out; omega) _ rfl ?_; intro g13 cap13 w13 hown13 hgrow13 hor13 hlt13)
 have hr := rowT_app (L := L0) (M := tilesT q) (by rw [hl0]; exact hown13)
 have HR := Lib.hid hr
 have HB : Hid (Below w.heap.size w w13) := HB3.out.grown hgrow13 HB3.out.size (fun k e => by have : w.heap.size + 1 = k := Option.some.inj e; omega)
 clear hown13 hgrow13 hor13 hlt13 hr hnw
 go_wp2_with fail
 go_ret
 refine ⟨_, rfl, ?_, HB.out⟩
 have h := HR.out
 rw [HL0.out] at h
 rw [HTs.out]
 exact own_base2 h (Nat.le_succ _)
set_option maxRecDepth 100000 in
set_option maxHeartbeats 4000000 in
theorem refOf_multi (ts : List Tr) (h1 h2 b1 b2 e1 e2 : Nat) (ka ca : Option Addr) (kc cc : Nat) (w : World) (hcb : countK ts ≤ 1000) (hl : 0 < ts.length) (cs : List Sp) (hlc : ts.length = cs.length) (hcut : cutsIn w ca cs) (hat : kidO w ka ts) :
  Calls Tryz.prog 53 #[.agg #[.int .i64 1, .int .i64 (h1 : Int), .int .i64 (h2 : Int), .int .i64 (b1 : Int), .int .i64 (b2 : Int), .slice ka ts.length kc, .slice ca ts.length cc, .int .i64 (e1 : Int), .int .i64 (e2 : Int)]] w fun e w' => ∃ u, e = .returned u ∧ rowT w.heap.size u ((0, (h1, h2)) :: (2, (b1, preE cs (e1, e2))) :: (tilesM ts cs ++ [(4, (e1, e2)), (5, (e2, b2))])) w' ∧ Below w.heap.size w w' := by
 obtain ⟨iT, hTi, hT0, hT1, hT2⟩ := info_parts Tryz.infoT13
 obtain ⟨X, hX⟩ : ∃ X, X = (w.alloc (rfO 1 (h1 : Int) (h2 : Int) (b1 : Int) (b2 : Int) (.slice ka ts.length kc) (.slice ca ts.length cc) (e1 : Int) (e2 : Int))).alloc (.cells #[.int .i64 0, .int .i64 (h1 : Int), .int .i64 (h2 : Int)] 115) := ⟨_, rfl⟩
 have HBX : Hid (Below w.heap.size w X) := by unfold Hid; rw [hX]; exact ((Below.refl _ _).alloc (Nat.le_refl _) _).alloc (by simp) _
 have HX0 : Hid (X.heap[w.heap.size]? = some (rfO 1 (h1 : Int) (h2 : Int) (b1 : Int) (b2 : Int) (.slice ka ts.length kc) (.slice ca ts.length cc) (e1 : Int) (e2 : Int))) := by unfold Hid; rw [hX]; exact heap_alloc2_old w _ _
 have HXz : Hid (X.heap.size = w.heap.size + 2) := by unfold Hid; rw [hX]; simp
 have HR0 : Hid (rowT (w.heap.size + 1) (.slice (some ⟨w.heap.size + 1, 0, none⟩) 1 1) [(0, (h1, h2))] X) := by
  unfold Hid rowT
  rw [hX]
  have h := World.ownsRow_lit (base := w.heap.size + 1) (e := 115) (size := 3) (w.alloc (rfO 1 (h1 : Int) (h2 : Int) (b1 : Int) (b2 : Int) (.slice ka ts.length kc) (.slice ca ts.length cc) (e1 : Int) (e2 : Int))) #[.int .i64 0, .int .i64 (h1 : Int), .int .i64 (h2 : Int)] 1 (by simp) (by unfold maxLen; omega) rfl
  simp only [World.size_alloc] at h
  exact h
 unfold rfO at hX
 have k2 : (0 : Int) < (ts.length : Int) := by omega
 have k2d : decide ((0 : Int) < (ts.length : Int)) = true := decide_eq_true k2
 have k3d : decide (0 < ts.length) = true := decide_eq_true hl
 have k4 : decide ((ts.length : Int) < (ts.length : Int)) = false := decide_eq_false (by omega)
 have k5 : decide (ts.length < ts.length) = false := decide_eq_false (by omega)
 have hln := lenK_le ts
 obtain ⟨gc, x, y, rfl, hx, p0, p1⟩ := hcut 0 (by omega)
 simp only [Nat.zero_mul, Nat.zero_add] at p0 p1
 replace p0 := (HBX.out.cell (p := ⟨gc, 0, none⟩) (World.block_lt_of_cell? w _ p0)).trans p0
 have HPre : Hid (preE cs (e1, e2) = x) := by
  unfold Hid
  cases cs with
  | nil => cases hx
  | cons c r => cases hx; rfl
 have HA := Lib.hid hat
 have HC := Lib.hid hcut
 have HLc := Lib.hid hlc
 clear hat hcut hx p1 hlc
 go_enter Tryz.func53, Tryz.ntmps53
 go_upto_region 2 with fail
 rw [← hX]
 clear hX
 obtain ⟨q0, q1, q2, q3, q4, q5, q6, q7, q8⟩ := rf_cells HX0.out
 obtain ⟨L0, hL0⟩ : ∃ L0 : List Tl, L0 = [(0, (h1, h2))] := ⟨_, rfl⟩
 have HL0 := Lib.hid hL0
 have hl0 : L0.length = 1 := by rw [hL0]; rfl
 rw [← hL0] at HR0
 have hr0 := HR0.out
 unfold rowT at hr0
 rw [hl0] at hr0
 have HRw := Lib.hid hr0
 clear hr0 hL0
 go_upto_region 15 with (at_builtin; refine wpList_append_lies _ rfl _ _ 112 rfl (w.heap.size + 1) 115 iT (.agg #[.int .i64 0, .int .i64 0, .int .i64 0]) 3 24 Tryz.underlying112 hTi hT0 hT1 hT2 rfl (by decide) _ 1 (tlCells L0) rfl (HRw.out.alloc _) ⟨X.heap.size, 0, none⟩ 1 1 [.int .i64 2, .int .i64 (b1 : Int), .int .i64 (x : Int)] rfl rfl (World.news_of_block (cs := #[.int .i64 2, .int .i64 (b1 : Int), .int .i64 (x : Int)]) (heap_alloc_new X _)) (by simp [Value.oneCell']) (by decide) (by unfold maxLen; omega) (by omega) (by have := HXz.out; simp; omega) _ rfl ?_; intro g13 cap13 w13 hown13 hgrow13 hor13 hlt13)
 have hr := rowT_snoc (L := L0) (x := (2, (b1, x))) (by rw [hl0]; exact hown13)
 have HB13 : Hid (Below w.heap.size w w13) := ((HBX.out.alloc HBX.out.size _).grown hgrow13 (by have := HBX.out.size; simp; omega) (fun k e => by have : w.heap.size + 1 = k := Option.some.inj e; omega))
 have HP13 : Hid (w13.heap[w.heap.size]? = some (rfO 1 (h1 : Int) (h2 : Int) (b1 : Int) (b2 : Int) (.slice ka ts.length kc) (.slice (some ⟨gc, 0, none⟩) ts.length cc) (e1 : Int) (e2 : Int))) := (hgrow13.block w.heap.size (by have := HXz.out; simp; omega) (fun e => by have : w.heap.size = w.heap.size + 1 := Option.some.inj e; omega)).trans ((Below.heap_alloc _ _ _ (by have := HXz.out; omega)).trans HX0.out)
 have HZ13 : Hid (w.heap.size + 2 ≤ w13.heap.size) := by
  have h1 := hgrow13.size
  have h2 := HXz.out
  simp only [World.size_alloc] at h1
  unfold Hid
  omega
 obtain ⟨L1, hL1⟩ : ∃ L1, L1 = L0 ++ [(2, (b1, x))] := ⟨_, rfl⟩
 rw [← hL1] at hr
 have hl1 : L1.length = 2 := by rw [hL1, List.length_append, hl0]; rfl
 have HL1 : Hid (L1 = [(0, (h1, h2)), (2, (b1, x))]) := by unfold Hid; rw [hL1, HL0.out]; rfl
 have HR1 : Hid (rowT (w.heap.size + 1) (.slice (some ⟨g13, 0, none⟩) (1 + 1) cap13) L1 w13) := hr
 clear hr hown13 hgrow13 hor13 hlt13 hL1 p0 q0 q1 q2 q3 q4 q5 q6 q7 q8
 go_wp2_with fail
 go_loopg [3, 6] ts.length (fun gg x3 x6 wr => ∃ (i : Nat), i ≤ ts.length ∧ gg = ts.length - i ∧ x6 = .int .i64 (i : Int) ∧ Hid (rowT (w.heap.size + 1) x3 (L1 ++ tilesM (ts.take i) (cs.take i)) wr) ∧ Hid (Below w.heap.size w wr) ∧ Hid (wr.heap[w.heap.size]? = some (rfO 1 (h1 : Int) (h2 : Int) (b1 : Int) (b2 : Int) (.slice ka ts.length kc) (.slice (some ⟨gc, 0, none⟩) ts.length cc) (e1 : Int) (e2 : Int))) ∧ Hid (w.heap.size + 2 ≤ wr.heap.size))
 case atStart => exact ⟨0, Nat.zero_le _, rfl, rfl, by unfold Hid; rw [List.take_zero, tilesM_nil, List.append_nil]; exact HR1.out, HB13.out, HP13.out, HZ13.out⟩
 case round =>
  obtain ⟨i, hi, rfl, rfl, HRr, HBr, HPr, HZr⟩ := hrel
  by_cases hlt : i < ts.length
  ·have hlc := HLc.out
   obtain ⟨g', x', y', hgc, hx', p0, p1⟩ := HC.out i (by omega)
   obtain rfl : gc = g' := by cases hgc; rfl
   replace p0 := (HBr.out.cell (p := ⟨gc, i * 2, none⟩) (World.block_lt_of_cell? w _ p0)).trans p0
   replace p1 := (HBr.out.cell (p := ⟨gc, i * 2 + 1, none⟩) (World.block_lt_of_cell? w _ p1)).trans p1
   obtain ⟨gk, a, n', c, a2, n2, c2, rfl, hg, h9, hcall⟩ := HA.out i hlt
   have hsn := tilesM_snoc (cs := cs) hlt (by omega)
   have hci : cs[i]'(by omega) = (x', y') := by rw [List.getElem?_eq_getElem (by omega)] at hx'; exact Option.some.inj hx'
   rw [hci] at hsn
   have hck := countK_take hlt
   have htm := tilesM_len (ts.take i) (cs.take i)
   have htl := tilesT_len ts[i]
   have hti := tilesT_pos ts[i]
   have hckt : countK (ts.take i) ≤ 1000 ∧ countT ts[i] ≤ 1000 := by omega
   obtain ⟨q, hq⟩ : ∃ q, q = ts[i] := ⟨_, rfl⟩
   rw [← hq] at hsn htl hti hckt h9 hcall
   obtain ⟨Lr, hLr⟩ : ∃ Lr, Lr = L1 ++ tilesM (ts.take i) (cs.take i) := ⟨_, rfl⟩
   have hlr : Lr.length ≤ 10000 := by rw [hLr, List.length_append, hl1]; omega
   have htq : (tilesT q).length ≤ 10000 := by omega
   have HSn : Hid (L1 ++ tilesM (ts.take (i + 1)) (cs.take (i + 1)) = (Lr ++ [(3, (x', y'))]) ++ tilesT q) := by
    unfold Hid
    rw [hsn, hLr]
    simp only [List.append_assoc, List.cons_append, List.nil_append]
   rw [← hLr] at HRr
   have HCl := Lib.hid hcall
   have H9 := Lib.hid h9
   have hrr := HRr.out
   have hbs := hrr.lt
   unfold rowT at hrr
   have HRw2 := Lib.hid hrr
   have HOb := Lib.hid (fun k e => (hbs k e).1)
   clear hsn hci hck htm htl hckt hq hLr hcall h9 hx' hrr hbs hlc hgc HRr
   obtain ⟨q0, q1, q2, q3, q4, q5, q6, q7, q8⟩ := rf_cells HPr.out
   go_upto_region 19 with (at_builtin; refine wpList_append_lies _ rfl _ _ 112 rfl (w.heap.size + 1) 115 iT (.agg #[.int .i64 0, .int .i64 0, .int .i64 0]) 3 24 Tryz.underlying112 hTi hT0 hT1 hT2 rfl (by decide) _ Lr.length (tlCells Lr) rfl (HRw2.out.alloc _) ⟨wr.heap.size, 0, none⟩ 1 1 [.int .i64 3, .int .i64 (x' : Int), .int .i64 (y' : Int)] rfl rfl (World.news_of_block (cs := #[.int .i64 3, .int .i64 (x' : Int), .int .i64 (y' : Int)]) (heap_alloc_new wr _)) (by simp [Value.oneCell']) (by decide) (by unfold maxLen; omega) (by omega) (by have := HZr.out; simp; omega) _ rfl ?_; intro g14 cap14 w14 hown14 hgrow14 hor14 hlt14)
   have HR14 := Lib.hid (rowT_snoc (L := Lr) (x := (3, (x', y'))) hown14)
   have HB14 : Hid (Below w.heap.size w w14) := ((HBr.out.alloc HBr.out.size _).grown hgrow14 (by have := HBr.out.size; simp; omega) (fun k e => by have := HOb.out k e; omega))
   have HP14 : Hid (w14.heap[w.heap.size]? = some (rfO 1 (h1 : Int) (h2 : Int) (b1 : Int) (b2 : Int) (.slice (some ⟨gk, 0, none⟩) ts.length kc) (.slice (some ⟨gc, 0, none⟩) ts.length cc) (e1 : Int) (e2 : Int))) := (hgrow14.block w.heap.size (by have := HZr.out; simp; omega) (fun e => by have := HOb.out _ e.symm; omega)).trans ((Below.heap_alloc _ _ _ (by have := HZr.out; omega)).trans HPr.out)
   have HZ14 : Hid (w.heap.size + 2 ≤ w14.heap.size) := by
    have h1 := hgrow14.size
    have h2 := HZr.out
    simp only [World.size_alloc] at h1
    unfold Hid
    omega
   obtain ⟨Ls, hLs⟩ : ∃ Ls, Ls = Lr ++ [(3, (x', y'))] := ⟨_, rfl⟩
   rw [← hLs] at HR14 HSn
   have hls : Ls.length = Lr.length + 1 := by rw [hLs, List.length_append]; rfl
   obtain ⟨nS, hnS⟩ : ∃ nS, nS = Lr.length + 1 := ⟨_, rfl⟩
   rw [← hnS]
   have HNs : Hid (Ls.length = nS) := by unfold Hid; rw [hls, hnS]
   have hnl : nS ≤ 10001 := by omega
   have HR14' : Hid (w14.ownsRow (w.heap.size + 1) 115 3 (.slice (some ⟨g14, 0, none⟩) nS cap14) nS (tlCells Ls)) := by
    have h := HR14.out
    unfold rowT at h
    rw [HNs.out] at h
    rw [hnS]
    rw [hnS] at h
    exact h
   obtain ⟨p0, p1, p2, p3, p4, p5, p6, p7, p8⟩ := nine_open (H9.out.block (HB14.out.block gk hg))
   have hc := HCl.out w14 HB14.out
   unfold ofP13 at hc
   have HCc := Lib.hid hc
   clear hc hown14 hgrow14 hor14 hlt14 hLs hls hnS q0 q1 q2 q3 q4 q5 q6 q7 q8 HRw2 HR14 HOb HPr HBr HZr
   obtain ⟨q0, q1, q2, q3, q4, q5, q6, q7, q8⟩ := rf_cells HP14.out
   go_wp2_with fail
   with_reducible refine (HCc.out).mono ?_
   rintro e w15 ⟨u, rfl, hu, hb15⟩
   obtain ⟨gu, cu, rfl, hgu, hgu2, hnw⟩ := rowT_at hu (by omega)
   have HB15 := Lib.hid (HB14.out.trans (hb15.mono HB14.out.size))
   have HR15 := Lib.hid (ownsRow_below HR14'.out hb15)
   have HP15 := Lib.hid ((hb15.block w.heap.size (Array.getElem?_eq_some_iff.1 HP14.out).1).trans HP14.out)
   have HZ15 : Hid (w.heap.size + 2 ≤ w15.heap.size) := by have := hb15.size; have := HZ14.out; unfold Hid; omega
   have hg14 : w.heap.size + 1 ≤ g14 := (HR14'.out.lt g14 rfl).1
   have HG14 := Lib.hid hg14
   clear hu hb15 p0 p1 p2 p3 p4 p5 p6 p7 p8 q0 q1 q2 q3 q4 q5 q6 q7 q8 HCc HR14' HP14 HZ14 HB14 hg14
   go_wp2_with (at_builtin; refine wpList_append_lies _ rfl _ _ 112 rfl (w.heap.size + 1) 115 iT (.agg #[.int .i64 0, .int .i64 0, .int .i64 0]) 3 24 Tryz.underlying112 hTi hT0 hT1 hT2 rfl (by decide) _ nS (tlCells Ls) rfl HR15.out ⟨gu, 0, none⟩ (tilesT q).length cu (tlCells (tilesT q)) rfl (tlCells_len (tilesT q)) hnw (tlCells_one (tilesT q)) (by omega) (by unfold maxLen; omega) (by omega) (by have := HZ15.out; omega) _ rfl ?_; intro g16 cap16 w16 hown16 hgrow16 hor16 hlt16)
   have HR16 : Hid (rowT (w.heap.size + 1) (.slice (some ⟨g16, 0, none⟩) (nS + (tilesT q).length) cap16) (L1 ++ tilesM (ts.take (i + 1)) (cs.take (i + 1))) w16) := by
    unfold Hid
    rw [HSn.out]
    exact rowT_app (by rw [HNs.out]; exact hown16)
   have HB16 : Hid (Below w.heap.size w w16) := HB15.out.grown hgrow16 HB15.out.size (fun k e => by have : g14 = k := Option.some.inj e; have := HG14.out; omega)
   have HP16 := Lib.hid ((hgrow16.block w.heap.size (Array.getElem?_eq_some_iff.1 HP15.out).1 (fun e => by have : w.heap.size = g14 := Option.some.inj e; have := HG14.out; omega)).trans HP15.out)
   have HZ16 : Hid (w.heap.size + 2 ≤ w16.heap.size) := by have := hgrow16.size; have := HZ15.out; unfold Hid; omega
   clear hown16 hgrow16 hor16 hlt16 hnw HR15 HB15 HP15 HZ15
   go_wp2_with fail
   go_roundg (ts.length - (i + 1))
   case measure => omega
   case rel => exact ⟨i + 1, by omega, rfl, by go_num, HR16, HB16, HP16, HZ16⟩
  ·obtain rfl : i = ts.length := by omega
   have hlc := HLc.out
   have hr := HRr.out
   rw [List.take_length, hlc, List.take_length] at hr
   have htm := tilesM_len ts cs
   obtain ⟨Lr, hLr⟩ : ∃ Lr, Lr = L1 ++ tilesM ts cs := ⟨_, rfl⟩
   have hlr : Lr.length ≤ 10000 := by rw [hLr, List.length_append, hl1]; omega
   have HLr : Hid (Lr = L1 ++ tilesM ts cs) := hLr
   rw [← hLr] at hr
   have hbs := hr.lt
   have HOb := Lib.hid (fun k e => (hbs k e).1)
   unfold rowT at hr
   have HRw2 := Lib.hid hr
   clear hr hbs hLr htm hlc HRr
   obtain ⟨q0, q1, q2, q3, q4, q5, q6, q7, q8⟩ := rf_cells HPr.out
   go_upto_region 21 with (at_builtin; refine wpList_append_lies _ rfl _ _ 112 rfl (w.heap.size + 1) 115 iT (.agg #[.int .i64 0, .int .i64 0, .int .i64 0]) 3 24 Tryz.underlying112 hTi hT0 hT1 hT2 rfl (by decide) _ Lr.length (tlCells Lr) rfl (HRw2.out.alloc _) ⟨wr.heap.size, 0, none⟩ 1 1 [.int .i64 4, .int .i64 (e1 : Int), .int .i64 (e2 : Int)] rfl rfl (World.news_of_block (cs := #[.int .i64 4, .int .i64 (e1 : Int), .int .i64 (e2 : Int)]) (heap_alloc_new wr _)) (by simp [Value.oneCell']) (by decide) (by unfold maxLen; omega) (by omega) (by have := HZr.out; simp; omega) _ rfl ?_; intro g14 cap14 w14 hown14 hgrow14 hor14 hlt14)
   have HB14 : Hid (Below w.heap.size w w14) := ((HBr.out.alloc HBr.out.size _).grown hgrow14 (by have := HBr.out.size; simp; omega) (fun k e => by have := HOb.out k e; omega))
   have HP14 := Lib.hid ((hgrow14.block w.heap.size (by have := HZr.out; simp; omega) (fun e => by have := HOb.out _ e.symm; omega)).trans ((Below.heap_alloc _ _ _ (by have := HZr.out; omega)).trans HPr.out))
   have HZ14 : Hid (w.heap.size + 2 ≤ w14.heap.size) := by
    have h1 := hgrow14.size
    have h2 := HZr.out
    simp only [World.size_alloc] at h1
    unfold Hid
    omega
   have hr14 := rowT_snoc (L := Lr) (x := (4, (e1, e2))) hown14
   obtain ⟨Ls, hLs⟩ : ∃ Ls, Ls = Lr ++ [(4, (e1, e2))] := ⟨_, rfl⟩
   rw [← hLs] at hr14
   have HLs : Hid (Ls = Lr ++ [(4, (e1, e2))]) := hLs
   have hls : Ls.length = Lr.length + 1 := by rw [hLs, List.length_append]; rfl
   obtain ⟨nS, hnS⟩ : ∃ nS, nS = Lr.length + 1 := ⟨_, rfl⟩
   rw [← hnS]
   have HNs : Hid (Ls.length = nS) := by unfold Hid; rw [hls, hnS]
   have hnl : nS ≤ 10001 := by omega
   have HR14' : Hid (w14.ownsRow (w.heap.size + 1) 115 3 (.slice (some ⟨g14, 0, none⟩) nS cap14) nS (tlCells Ls)) := by
    have h := hr14
    unfold rowT at h
    rw [HNs.out] at h
    rw [hnS]
    rw [hnS] at h
    exact h
   have hg14 : w.heap.size + 1 ≤ g14 := (HR14'.out.lt g14 rfl).1
   have HG14 := Lib.hid hg14
   clear hown14 hgrow14 hor14 hlt14 hr14 hLs hls hnS hg14 q0 q1 q2 q3 q4 q5 q6 q7 q8 HRw2 HOb HPr HBr HZr
   obtain ⟨q0, q1, q2, q3, q4, q5, q6, q7, q8⟩ := rf_cells HP14.out
   go_wp2_with (at_builtin; refine wpList_append_lies _ rfl _ _ 112 rfl (w.heap.size + 1) 115 iT (.agg #[.int .i64 0, .int .i64 0, .int .i64 0]) 3 24 Tryz.underlying112 hTi hT0 hT1 hT2 rfl (by decide) _ nS (tlCells Ls) rfl (HR14'.out.alloc _) ⟨w14.heap.size, 0, none⟩ 1 1 [.int .i64 5, .int .i64 (e2 : Int), .int .i64 (b2 : Int)] rfl rfl (World.news_of_block (cs := #[.int .i64 5, .int .i64 (e2 : Int), .int .i64 (b2 : Int)]) (heap_alloc_new w14 _)) (by simp [Value.oneCell']) (by decide) (by unfold maxLen; omega) (by omega) (by have := HZ14.out; simp; omega) _ rfl ?_; intro g16 cap16 w16 hown16 hgrow16 hor16 hlt16)
   have HR16 := Lib.hid (rowT_snoc (L := Ls) (x := (5, (e2, b2))) (by rw [HNs.out]; exact hown16))
   have HB16 : Hid (Below w.heap.size w w16) := (HB14.out.alloc HB14.out.size _).grown hgrow16 (by have := HB14.out.size; simp; omega) (fun k e => by have : g14 = k := Option.some.inj e; have := HG14.out; omega)
   clear hown16 hgrow16 hor16 hlt16
   go_wp2_with fail
   go_ret
   refine ⟨_, rfl, ?_, HB16.out⟩
   have h := HR16.out
   rw [HLs.out, HLr.out, HL1.out] at h
   rw [HPre.out]
   have hl3 : (((([(0, (h1, h2)), (2, (b1, x))] : List Tl) ++ tilesM ts cs) ++ [(4, (e1, e2))]) ++ [(5, (e2, b2))]) = (0, (h1, h2)) :: (2, (b1, x)) :: (tilesM ts cs ++ [(4, (e1, e2)), (5, (e2, b2))]) := by simp
   rw [hl3] at h
   exact own_base2 h (Nat.le_succ _)
theorem ref13Of_any (S : Nat → Prop) (n : Nat) : ∀ (t : Tr), SizeOf.sizeOf t ≤ n → goodT t → countT t ≤ 1000 → ∀ (w : World) (u : Value), refAt S w t u → Calls Tryz.prog 53 #[u] w (ofP13 t w) := by
 induction n with
 | zero => intro t ht; cases t; rw [Tr.mk.sizeOf_spec] at ht; omega
 | succ n ih =>
  intro t ht hg hcb w u hu
  obtain ⟨hf, hgk⟩ := goodT_open hg
  obtain ⟨ka, kn, kc, ca, cn, cc, us, rfl, hcs, ho, hk⟩ := refAt_open hu
  obtain ⟨rfl, _, _, hat⟩ := refkids_at ho hk
  obtain ⟨rfl, hcut⟩ := refspans_at hcs
  have hC := countT_eq t
  have hL := lenK_le t.kids
  have hko : kidO w ka t.kids := fun i h => by
   obtain ⟨g, a, m, c, a2, n2, c2, e, hg1, _, h9, htr⟩ := hat i h
   have q1 := countK_drop t.kids i h
   have q2 := countK_le t.kids i
   exact ⟨g, a, m, c, a2, n2, c2, e, hg1, h9, fun W' hb => ih t.kids[i] (by have := size_kid i h; omega) (goodK_get hgk i h) (by omega) W' _ (refAt_below htr hb)⟩
  obtain ⟨f1, f2, f3⟩ := hf
  unfold ofP13
  rw [tilesT_eq]
  rcases f3 with ⟨hk0, hks, hcs0, he⟩ | ⟨hk0, hks, hlen⟩ | ⟨hk0, hcs0, he, q, hks, hq1, hq2⟩
  ·rw [hk0, if_neg (by decide), if_neg (by decide)]
   exact refOf_leaf t.kids _ _ _ _ _ _ _ ka ca kc cc w
  ·rw [hk0, if_pos rfl]
   rw [← hlen]
   exact refOf_multi t.kids _ _ _ _ _ _ ka ca kc cc w (by omega) (by cases hkk : t.kids with | nil => exact absurd hkk hks | cons => simp) t.cuts hlen hcut hko
  ·rw [hk0, if_neg (by decide), if_pos rfl]
   have z1 : t.kids.length = 1 := by rw [hks]; rfl
   refine refOf_msg t.kids _ _ _ _ _ _ _ ka ca kc cc w z1 hko (fun h => ?_)
   have q1 := countK_drop t.kids 0 h
   have q2 := countK_le t.kids 0
   have h1 := tilesT_len t.kids[0]
   omega
def fitT (t : Tr) (n : Nat) : Prop := goodT t ∧ countT t ≤ 1000 ∧ deepT t ≤ 32 ∧ chainT 0 n (tilesT t)
theorem fit_own (l : List UInt8) : fitT (treeS l) l.length := ⟨(tree_Q l).1, tree_count l, tree_deep l, (tree_Q l).2.2.2⟩
theorem tlCells_get : ∀ (L : List Tl) (i : Nat) (h : i < L.length), (tlCells L)[i * 3 + 1]? = some (.int .i64 (L[i].2.1 : Int)) ∧ (tlCells L)[i * 3 + 1 + 1]? = some (.int .i64 (L[i].2.2 : Int))
 | [], i, h => by simp at h
 | x :: r, 0, _ => ⟨rfl, rfl⟩
 | x :: r, i + 1, h => by
  have ih := tlCells_get r i (by simpa using h)
  have e : tlCells (x :: r) = tlC x ++ tlCells r := rfl
  have h3 : (tlC x).length = 3 := rfl
  rw [e, List.getElem?_append_right (by rw [h3]; omega), List.getElem?_append_right (by rw [h3]; omega), h3]
  rw [show (i + 1) * 3 + 1 - 3 = i * 3 + 1 by omega, show (i + 1) * 3 + 1 + 1 - 3 = i * 3 + 1 + 1 by omega]
  exact ih
theorem chain_get : ∀ {L : List Tl} {a b : Nat}, chainT a b L → ∀ (i : Nat) (h : i < L.length), L[i].2.1 ≤ L[i].2.2 ∧ (i = 0 → L[i].2.1 = a) ∧ (∀ j (hj : j + 1 = i), L[i].2.1 = (L[j]'(by omega)).2.2) ∧ (i + 1 = L.length → L[i].2.2 = b)
 | [], _, _, _, i, h => by simp at h
 | x :: r, a, b, hc, 0, h => by
  obtain ⟨h1, h2, h3⟩ := hc
  refine ⟨by show x.2.1 ≤ x.2.2; omega, fun _ => h1, fun j hj => absurd hj (by omega), fun hl => ?_⟩
  have : r = [] := List.eq_nil_of_length_eq_zero (by simpa using hl.symm)
  subst this
  exact h3
 | x :: r, a, b, hc, i + 1, h => by
  obtain ⟨h1, h2, h3⟩ := hc
  have ih := chain_get h3 i (by simpa using h)
  refine ⟨ih.1, fun hh => absurd hh (by omega), fun j hj => ?_, fun hl => ih.2.2.2 (by simpa using hl)⟩
  obtain rfl : j = i := by omega
  cases j with
  | zero => exact ih.2.1 rfl
  | succ j => exact ih.2.2.1 j rfl
set_option maxRecDepth 100000 in
set_option maxHeartbeats 4000000 in
theorem ref13Check_any (S : Nat → Prop) (t : Tr) (n : Nat) (hf : fitT t n) (w : World) (u : Value) (hu : refAt S w t u) :
  Calls Tryz.prog 28 #[u, .int .i64 (n : Int)] w fun e w' => e = .returned (.int .i64 0) ∧ Below w.heap.size w w' := by
 obtain ⟨hg, hcb, hd, hch⟩ := hf
 have hce := chain_end t _ _ hg hch
 have HCt := Lib.hid (fun W (hb : Below w.heap.size w W) => refCount_any S _ t (Nat.le_refl _) (by omega) W u (refAt_below hu hb))
 have HDp := Lib.hid (fun W (hb : Below w.heap.size w W) => refDeep_any S _ t (Nat.le_refl _) (by omega) (by omega) W u (refAt_below hu hb))
 have HFt := Lib.hid (fun W (hb : Below w.heap.size w W) => refFits_any S _ t (Nat.le_refl _) hg (by omega) W u (refAt_below hu hb))
 have HOf := Lib.hid (fun W (hb : Below w.heap.size w W) => ref13Of_any S _ t (Nat.le_refl _) hg hcb W u (refAt_below hu hb))
 have HCh := Lib.hid hch
 have htl := tilesT_len t
 have htp := tilesT_pos t
 obtain ⟨ka, kn, kc, ca, cn, cc, us, rfl, -, -, -⟩ := refAt_open hu
 rw [← hce.1, ← hce.2] at HCt HDp HFt HOf ⊢
 obtain ⟨cT, hcT⟩ : ∃ c, c = countT t := ⟨_, rfl⟩
 obtain ⟨dT, hdT⟩ : ∃ c, c = deepT t := ⟨_, rfl⟩
 rw [← hcT] at HCt hcb htl
 rw [← hdT] at HDp hd
 obtain ⟨k0, hk0⟩ : ∃ k : Int, k = (t.kind : Int) := ⟨_, rfl⟩
 obtain ⟨h2, hh2⟩ : ∃ k : Int, k = (t.hd.2 : Int) := ⟨_, rfl⟩
 obtain ⟨b1, hb1⟩ : ∃ k : Int, k = (t.bd.1 : Int) := ⟨_, rfl⟩
 obtain ⟨e1, he1⟩ : ∃ k : Int, k = (t.e.1 : Int) := ⟨_, rfl⟩
 obtain ⟨e2, he2⟩ : ∃ k : Int, k = (t.e.2 : Int) := ⟨_, rfl⟩
 rw [← hk0, ← hh2, ← hb1, ← he1, ← he2] at HCt HDp HFt HOf ⊢
 have z0 : ((0 : Nat) : Int) = 0 := rfl
 rw [z0] at HCt HDp HFt HOf ⊢
 obtain ⟨X, hX⟩ : ∃ X, X = w.alloc (rfO k0 0 h2 b1 (n : Int) (.slice ka kn kc) (.slice ca cn cc) e1 e2) := ⟨_, rfl⟩
 have HBX : Hid (Below w.heap.size w X) := by unfold Hid; rw [hX]; exact (Below.refl _ _).alloc (Nat.le_refl _) _
 have HX0 : Hid (X.heap[w.heap.size]? = some (rfO k0 0 h2 b1 (n : Int) (.slice ka kn kc) (.slice ca cn cc) e1 e2)) := by unfold Hid; rw [hX]; exact heap_alloc_new w _
 unfold rfO at hX
 have g1 : ¬ (1000 : Int) < (cT : Int) := by omega
 have g1d : decide ((1000 : Int) < (cT : Int)) = false := decide_eq_false g1
 have g1e : decide (1000 < cT) = false := decide_eq_false (by omega)
 have g2 : ¬ (32 : Int) < (dT : Int) := by omega
 have g2d : decide ((32 : Int) < (dT : Int)) = false := decide_eq_false g2
 have g2e : decide (32 < dT) = false := decide_eq_false (by omega)
 have t1 : ((n : Int) != (n : Int)) = false := bne_no rfl
 obtain ⟨L, hL⟩ : ∃ L, L = tilesT t := ⟨_, rfl⟩
 have hLp : 1 ≤ L.length := by rw [hL]; exact htp
 have hLl : L.length ≤ 10000 := by rw [hL]; omega
 unfold ofP13 at HOf
 rw [← hL] at HOf HCh
 clear hu hk0 hh2 hb1 he1 he2 hcT hdT hg hch hce htl htp hL z0 hcb hd
 go_enter Tryz.func28, Tryz.ntmps28
 go_upto_region 1 with fail
 rw [← hX]
 clear hX
 obtain ⟨q0, q1, q2, q3, q4, q5, q6, q7, q8⟩ := rf_cells HX0.out
 go_wp2_with fail
 with_reducible refine (HCt.out _ HBX.out).mono ?_
 rintro e w2 ⟨rfl, hb2⟩
 have HB2 := Lib.hid (HBX.out.trans (hb2.mono HBX.out.size))
 have HP2 := Lib.hid ((hb2.block w.heap.size (Array.getElem?_eq_some_iff.1 HX0.out).1).trans HX0.out)
 clear hb2 q0 q1 q2 q3 q4 q5 q6 q7 q8 HCt
 obtain ⟨q0, q1, q2, q3, q4, q5, q6, q7, q8⟩ := rf_cells HP2.out
 go_wp2_with fail
 with_reducible refine (HDp.out _ HB2.out).mono ?_
 rintro e w3 ⟨rfl, hb3⟩
 have HB3 := Lib.hid (HB2.out.trans (hb3.mono HB2.out.size))
 have HP3 := Lib.hid ((hb3.block w.heap.size (Array.getElem?_eq_some_iff.1 HP2.out).1).trans HP2.out)
 clear hb3 q0 q1 q2 q3 q4 q5 q6 q7 q8 HDp
 obtain ⟨q0, q1, q2, q3, q4, q5, q6, q7, q8⟩ := rf_cells HP3.out
 go_wp2_with fail
 with_reducible refine (HFt.out _ HB3.out).mono ?_
 rintro e w4 ⟨rfl, hb4⟩
 have HB4 := Lib.hid (HB3.out.trans (hb4.mono HB3.out.size))
 have HP4 := Lib.hid ((hb4.block w.heap.size (Array.getElem?_eq_some_iff.1 HP3.out).1).trans HP3.out)
 clear hb4 q0 q1 q2 q3 q4 q5 q6 q7 q8 HFt
 obtain ⟨q0, q1, q2, q3, q4, q5, q6, q7, q8⟩ := rf_cells HP4.out
 go_wp2_with fail
 with_reducible refine (HOf.out _ HB4.out).mono ?_
 rintro e w5 ⟨ur, rfl, hr, hb5⟩
 have HB5 := Lib.hid (HB4.out.trans (hb5.mono HB4.out.size))
 obtain ⟨g, cap, rfl, hg0, hg1, hcell⟩ := rowT_at hr (by omega)
 have HCell : Hid (∀ i (h : i < L.length), w5.cell? ⟨g, i * 3 + 1, none⟩ = some (.int .i64 (L[i].2.1 : Int)) ∧ w5.cell? ⟨g, i * 3 + 1 + 1, none⟩ = some (.int .i64 (L[i].2.2 : Int))) := fun i h => by
  have h1 := tlCells_get L i h
  have h2 := hcell _ _ h1.1
  have h3 := hcell _ _ h1.2
  rw [Addr.add_lit, Nat.zero_add] at h2 h3
  exact ⟨h2, h3⟩
 have HGt := Lib.hid (fun i h => chain_get HCh.out i h)
 clear hb5 hr hg0 hg1 hcell q0 q1 q2 q3 q4 q5 q6 q7 q8 HOf HP4 HP3 HP2 HX0 HCh
 go_wp2_with fail
 go_loopg [7, 8] L.length (fun gg x7 x8 wr => ∃ (i : Nat), i ≤ L.length ∧ gg = L.length - i ∧ x7 = .int .i64 (i : Int) ∧ Hid (Below w5.heap.size w5 wr))
 case atStart => exact ⟨0, Nat.zero_le _, rfl, rfl, Below.refl _ _⟩
 case round =>
  obtain ⟨i, hi, rfl, rfl, HBr⟩ := hrel
  by_cases hlt : i < L.length
  ·have hgt := HGt.out i hlt
   have hc := HCell.out i hlt
   obtain ⟨f, hfe⟩ : ∃ f, f = L[i].2.1 := ⟨_, rfl⟩
   obtain ⟨tt, hte⟩ : ∃ f, f = L[i].2.2 := ⟨_, rfl⟩
   rw [← hfe, ← hte] at hc
   rw [← hfe, ← hte] at hgt
   have hft : f ≤ tt := hgt.1
   have c1 := (HBr.out.cell (p := ⟨g, i * 3 + 1, none⟩) (World.block_lt_of_cell? w5 _ hc.1)).trans hc.1
   have c2 := (HBr.out.cell (p := ⟨g, i * 3 + 1 + 1, none⟩) (World.block_lt_of_cell? w5 _ hc.2)).trans hc.2
   have r1 := BW.cell c1
   have r2 := BW.cell c2
   have m1 : ((f : Int) != (f : Int)) = false := bne_no rfl
   have m2 : ¬ (tt : Int) < (f : Int) := by omega
   have m2d : decide ((tt : Int) < (f : Int)) = false := decide_eq_false m2
   have m2e : decide (tt < f) = false := decide_eq_false (by omega)
   cases i with
   | zero =>
    have hf0 : f = 0 := hgt.2.1 rfl
    subst hf0
    clear hgt hc c1 c2 hfe hte
    go_wp2_with fail
    refine wp_region_below (by kernel_rfl) (by kernel_rfl) ?_
    repeat (go_big_quiet_step (fail))
    refine wpQuiet_nil ?_
    rintro _ ⟨z, rfl⟩
    have HZ := Lib.hid (HBr.out.trans (z.h.mono HBr.out.size))
    go_wp2_with fail
    go_roundg (L.length - 1)
    case measure => omega
    case rel => exact ⟨1, by omega, rfl, by go_num, HZ⟩
   | succ j =>
    have hp := HCell.out j (by omega)
    have hfp : f = L[j].2.2 := hgt.2.2.1 j rfl
    rw [← hfp] at hp
    have c3 := (HBr.out.cell (p := ⟨g, j * 3 + 1 + 1, none⟩) (World.block_lt_of_cell? w5 _ hp.2)).trans hp.2
    have ej : ((j + 1 : Nat) : Int) - 1 = (j : Int) := by omega
    have ej2 : (j : Int) + 1 - 1 = (j : Int) := by omega
    clear hgt hc hp c1 c2 hfe hte hfp
    go_upto_region 13 with fail
    clear c3
    refine wp_region_below (by kernel_rfl) (by kernel_rfl) ?_
    repeat (go_big_quiet_step (fail))
    refine wpQuiet_nil ?_
    rintro _ ⟨z, rfl⟩
    have HZ := Lib.hid (HBr.out.trans (z.h.mono HBr.out.size))
    go_wp2_with fail
    go_roundg (L.length - (j + 1 + 1))
    case measure => omega
    case rel => exact ⟨j + 1 + 1, by omega, rfl, by go_num, HZ⟩
  ·obtain rfl : i = L.length := by omega
   obtain ⟨m, hm⟩ : ∃ m, L.length = m + 1 := ⟨L.length - 1, by omega⟩
   have hc := (HCell.out m (by omega)).2
   have hl := (HGt.out m (by omega)).2.2.2 hm.symm
   rw [hl] at hc
   have c2 := (HBr.out.cell (p := ⟨g, m * 3 + 1 + 1, none⟩) (World.block_lt_of_cell? w5 _ hc)).trans hc
   obtain ⟨N, hN⟩ : ∃ N, N = L.length := ⟨_, rfl⟩
   have em : (N : Int) - 1 = (m : Int) := by omega
   have em2 : m < N := by omega
   have hNl : N ≤ 10000 := by omega
   have em3 : (m : Int) < (N : Int) := by omega
   have HBe := Lib.hid (HB5.out.trans (HBr.out.mono HB5.out.size))
   rw [← hN]
   clear hc hl hm hN hlt hi
   go_wp2_with fail
   go_ret
   exact ⟨rfl, HBe.out⟩
end Go.Proofs.YtedminjnnhlknaaGreatDoor
