/- Contracts of package tiles: the iterator parts. -/
import Derived.Test.YtedminjnnhlknaaGreatDoorGbTiE
import Derived.Test.YtedminjnnhlknaaGreatDoorGbTrI
import Derived.Laws.StructEq
import Derived.ChangeKeysEq
import Derived.Test.YtedminjnnhlknaaGreatDoorGbParH
namespace Go.Proofs.YtedminjnnhlknaaGreatDoor
open Go Go.RowKit Go.Shelf
attribute [local go_sem] Oper.semAt_some
abbrev PtA (S : Nat → Prop) (wb : World) := { x : Nat × Tr × Value // treeAt S wb x.2.1 x.2.2 ∧ formed x.2.1 ∧ x.1 ≤ 32 }
def prA {S : Nat → Prop} {wb : World} (x : PtA S wb) : Nat × Tr := (x.1.1, x.1.2.1)
def encA {S : Nat → Prop} {wb : World} (x : PtA S wb) : Array Value := #[.int .i64 (x.1.1 : Int), x.1.2.2]
def partPost {S : Nat → Prop} (A : Nat) (wb : World) (J Jx : List (PtA S wb) → World → Prop) (pre : List (PtA S wb)) (L : List (Nat × Tr)) (W : World) (e : Ending) (W' : World) : Prop :=
 (e = .returned (.bool true) ∧ (∃ xs : List (PtA S wb), xs.map prA = L ∧ J (pre ++ xs) W') ∧ KeepK wb.heap.size A W W') ∨ (e = .returned (.bool false) ∧ ∃ q, Jx q W')
def kidPart {S : Nat → Prop} (Lp A N : Nat) (wb : World) (J Jx : List (PtA S wb) → World → Prop) (ka : Option Addr) (d i : Nat) (q : Tr) : Prop := ∃ g a n c a2 n2 c2, ka = some ⟨g, 0, none⟩ ∧ g < wb.heap.size ∧ nineAt wb g i q (.slice a n c) (.slice a2 n2 c2) ∧
 ∀ n' pre W', J pre W' → On wb A W' → pre.length + countT q ≤ N → CallsIn Fence.wide n' Tryz.prog 96 #[.agg #[.int .i64 (q.kind : Int), .int .i64 (q.hd.1 : Int), .int .i64 (q.hd.2 : Int), .int .i64 (q.bd.1 : Int), .int .i64 (q.bd.2 : Int), .slice a n c, .slice a2 n2 c2, .int .i64 (q.e.1 : Int), .int .i64 (q.e.2 : Int)], .int .i64 ((d : Int) + 1), .func (.yield Lp) #[] #[]] W'
  (partPost A wb J Jx pre (partsT (d + 1) q) W')
theorem partsK_take {d : Nat} {ks : List Tr} {k : Nat} (h : k < ks.length) : partsK d (ks.take (k + 1)) = partsK d (ks.take k) ++ partsT d ks[k] := by
 induction ks generalizing k with
 | nil => simp at h
 | cons t r ih =>
  cases k with
  | zero => simp [partsK_cons, partsK_nil]
  | succ k =>
   simp only [List.take_succ_cons, partsK_cons, List.getElem_cons_succ]
   rw [ih (by simpa using h), List.append_assoc]
theorem countK_take {ks : List Tr} {k : Nat} (h : k < ks.length) : countK (ks.take k) + countT ks[k] ≤ countK ks := by
 induction ks generalizing k with
 | nil => simp at h
 | cons t r ih =>
  have e1 : countK (t :: r) = countT t + countK r := rfl
  cases k with
  | zero => simp only [List.take_zero, List.getElem_cons_zero]; have : countK [] = 0 := rfl; omega
  | succ k =>
   have := ih (k := k) (by simpa using h)
   simp only [List.take_succ_cons, List.getElem_cons_succ]
   have e2 : countK (t :: r.take k) = countT t + countK (r.take k) := rfl
   omega
set_option maxRecDepth 100000 in
set_option maxHeartbeats 4000000 in
theorem tellParts_step {S : Nat → Prop} (n Lp A N : Nat) (wb : World) (J Jx : List (PtA S wb) → World → Prop) (hJ : ∀ pre W W', J pre W → Below W.heap.size W W' → J pre W') (hY : Yields encA Lp A wb N J Jx)
  (t : Tr) (d : Nat) (hd : d ≤ 32) (ka ca : Option Addr) (kc cn cc : Nat) (hbig : t.kids.length ≤ 1000000) (hf : formed t)
  (hu : treeAt S wb t (.agg #[.int .i64 (t.kind : Int), .int .i64 (t.hd.1 : Int), .int .i64 (t.hd.2 : Int), .int .i64 (t.bd.1 : Int), .int .i64 (t.bd.2 : Int), .slice ka t.kids.length kc, .slice ca cn cc, .int .i64 (t.e.1 : Int), .int .i64 (t.e.2 : Int)]))
  (hk : ∀ i, (h : i < t.kids.length) → kidPart Lp A N wb J Jx ka d i t.kids[i]) (W : World) (hon : On wb A W) (pre : List (PtA S wb)) (h0 : J pre W) (hN : pre.length + (1 + countK t.kids) ≤ N) :
  CallsIn Fence.wide n Tryz.prog 96 #[.agg #[.int .i64 (t.kind : Int), .int .i64 (t.hd.1 : Int), .int .i64 (t.hd.2 : Int), .int .i64 (t.bd.1 : Int), .int .i64 (t.bd.2 : Int), .slice ka t.kids.length kc, .slice ca cn cc, .int .i64 (t.e.1 : Int), .int .i64 (t.e.2 : Int)], .int .i64 (d : Int), .func (.yield Lp) #[] #[]] W
   (partPost A wb J Jx pre ((d, t) :: partsK (d + 1) t.kids) W) := by
 obtain ⟨x0, hx0⟩ : ∃ x0 : PtA S wb, x0.1 = (d, t, .agg #[.int .i64 (t.kind : Int), .int .i64 (t.hd.1 : Int), .int .i64 (t.hd.2 : Int), .int .i64 (t.bd.1 : Int), .int .i64 (t.bd.2 : Int), .slice ka t.kids.length kc, .slice ca cn cc, .int .i64 (t.e.1 : Int), .int .i64 (t.e.2 : Int)]) := ⟨⟨_, hu, hf, hd⟩, rfl⟩
 have HX0 : Hid (prA x0 = (d, t)) := by unfold Hid prA; rw [hx0]
 have hE0 : encA x0 = #[.int .i64 (d : Int), .agg #[.int .i64 (t.kind : Int), .int .i64 (t.hd.1 : Int), .int .i64 (t.hd.2 : Int), .int .i64 (t.bd.1 : Int), .int .i64 (t.bd.2 : Int), .slice ka t.kids.length kc, .slice ca cn cc, .int .i64 (t.e.1 : Int), .int .i64 (t.e.2 : Int)]] := by unfold encA; rw [hx0]
 have HP := Lib.hid (Pb.new hon #[.int .i64 (t.kind : Int), .int .i64 (t.hd.1 : Int), .int .i64 (t.hd.2 : Int), .int .i64 (t.bd.1 : Int), .int .i64 (t.bd.2 : Int), .slice ka t.kids.length kc, .slice ca cn cc, .int .i64 (t.e.1 : Int), .int .i64 (t.e.2 : Int)] 31)
 have HK := Lib.hid (hon.kept (below_new W (.cells #[.int .i64 (t.kind : Int), .int .i64 (t.hd.1 : Int), .int .i64 (t.hd.2 : Int), .int .i64 (t.bd.1 : Int), .int .i64 (t.bd.2 : Int), .slice ka t.kids.length kc, .slice ca cn cc, .int .i64 (t.e.1 : Int), .int .i64 (t.e.2 : Int)] 31)))
 have hJX := hJ pre W _ h0 (below_new W (.cells #[.int .i64 (t.kind : Int), .int .i64 (t.hd.1 : Int), .int .i64 (t.hd.2 : Int), .int .i64 (t.bd.1 : Int), .int .i64 (t.bd.2 : Int), .slice ka t.kids.length kc, .slice ca cn cc, .int .i64 (t.e.1 : Int), .int .i64 (t.e.2 : Int)] 31))
 obtain ⟨fn, tmps, assign, body, hy, hR⟩ := hY (n - 1) pre x0 _ hJX (by omega)
 rw [hE0] at hy
 have HR := Lib.hid hR
 have HJ := Lib.hid hJ
 have HKd := Lib.hid hk
 have HN := Lib.hid hN
 obtain ⟨ks, hks⟩ : ∃ ks, ks = t.kids := ⟨_, rfl⟩
 rw [← hks] at hy HP HK HR HKd hbig HN ⊢
 obtain ⟨kd, h1, h2, b1, b2, e1, e2, g1, g2, g3, g4, g5, g6, g7⟩ : ∃ kd h1 h2 b1 b2 e1 e2 : Nat, t.kind = kd ∧ t.hd.1 = h1 ∧ t.hd.2 = h2 ∧ t.bd.1 = b1 ∧ t.bd.2 = b2 ∧ t.e.1 = e1 ∧ t.e.2 = e2 := ⟨_, _, _, _, _, _, _, rfl, rfl, rfl, rfl, rfl, rfl, rfl⟩
 rw [g1, g2, g3, g4, g5, g6, g7] at hy HP HK HR ⊢
 clear hR hJX h0 hJ hY hon hE0 hx0 hu hk hN hks g1 g2 g3 g4 g5 g6 g7 hf
 refine callsIn_of_wp Tryz.func96 rfl trivial ?_ rfl
 simp only [Tryz.ntmps96, List.size_toArray, List.length_cons, List.length_nil, Nat.reduceAdd, Nat.reduceSub, Array.replicate_succ, Array.replicate_zero, List.push_toArray, List.append_toArray, List.nil_append, List.cons_append]
 gi_wp2
 refine ⟨fun h => (by cases h), ?_⟩
 refine HR.out.mono ?_
 rintro e W3 (⟨rfl, hJ4, hk4⟩ | ⟨rfl, hJx4⟩)
 ·have HP3 := Lib.hid (HP.out.keep hk4)
  have HK3 := Lib.hid (HK.out.trans hk4)
  have HJ4 := Lib.hid hJ4
  have c5 : W3.cell? ⟨W.heap.size, 5, none⟩ = some (.slice ka ks.length kc) := by rw [HP3.out.cell]; rfl
  clear hk4 hy HR hJ4
  gi_wp2
  gi_loopw [17] (fun i wr => ∃ (k : Nat) (xs : List (PtA S wb)), i = .int .i64 (k : Int) ∧ k ≤ ks.length ∧ Hid (J (pre ++ xs) wr) ∧ Hid (xs.map prA = (d, t) :: partsK (d + 1) (ks.take k)) ∧ Hid (On wb A wr) ∧ Hid (KeepK wb.heap.size A W wr))
   (fun i _ => ks.length - (intOf i).toNat)
  case atStart => exact ⟨0, [x0], rfl, Nat.zero_le _, HJ4.out, by unfold Hid; rw [List.take_zero, partsK_nil, List.map_cons, HX0.out]; rfl, HP3.out.on, HK3.out⟩
  case round =>
   obtain ⟨k, xs, rfl, hkl, HJr, HFr, HOr, HKr⟩ := hrel
   by_cases hlt : k < ks.length
   ·obtain ⟨g, ga, gn, gc, ga2, gn2, gc2, rfl, hg, h9, hcall⟩ := HKd.out k hlt
    have HTk := Lib.hid (partsK_take (d := d + 1) hlt)
    have HCt := Lib.hid (countK_take hlt)
    have HCl := Lib.hid hcall
    obtain ⟨q, hq⟩ : ∃ q, q = ks[k] := ⟨_, rfl⟩
    rw [← hq] at HTk HCt HCl h9
    have HLen : Hid ((pre ++ xs).length + countT q ≤ N) := by
     have h1 := congrArg List.length HFr.out
     have h2 := HCt.out
     have h3 := HN.out
     simp only [List.length_map, List.length_cons, partsK_len] at h1
     unfold Hid
     rw [List.length_append]
     omega
    have hb1 := below_new wr (.cells #[.int .i64 (q.kind : Int), .int .i64 (q.hd.1 : Int), .int .i64 (q.hd.2 : Int), .int .i64 (q.bd.1 : Int), .int .i64 (q.bd.2 : Int), .slice ga gn gc, .slice ga2 gn2 gc2, .int .i64 (q.e.1 : Int), .int .i64 (q.e.2 : Int)] 31)
    have HO2 := Lib.hid (HOr.out.grow hb1)
    have HK2 := Lib.hid (HKr.out.trans (HOr.out.kept hb1))
    have hJ2 := HJ.out _ _ _ HJr.out hb1
    have HC2 := Lib.hid (HCl.out (n - 1) (pre ++ xs) _ hJ2 HO2.out HLen.out)
    have h9' := h9.block (HOr.out.below.block g hg)
    unfold nineAt at h9'
    obtain ⟨p0, p1, p2, p3, p4, p5, p6, p7, p8⟩ := h9'
    clear h9 hcall hq hb1 hJ2 HCl
    gi_wp2
    refine ⟨trivial, fun h => (by cases h), ?_⟩
    with_reducible refine (HC2.out).mono ?_
    rintro e W5 (⟨rfl, ⟨ys, hys, hJ5⟩, hk5⟩ | ⟨rfl, q', hJx5⟩)
    ·have HO5 := Lib.hid (HO2.out.keep hk5)
     have HK5 := Lib.hid (HK2.out.trans hk5)
     have HJ5 : Hid (J (pre ++ (xs ++ ys)) W5) := by unfold Hid; rw [← List.append_assoc]; exact hJ5
     have HF5 : Hid ((xs ++ ys).map prA = (d, t) :: partsK (d + 1) (ks.take (k + 1))) := by unfold Hid; rw [List.map_append, HFr.out, hys, HTk.out]; rfl
     clear hJ5 hk5 hys p0 p1 p2 p3 p4 p5 p6 p7 p8 HC2
     gi_wp2
     go_roundw
     case rel => exact ⟨k + 1, xs ++ ys, by go_num, by omega, HJ5.out, HF5.out, HO5.out, HK5.out⟩
     case measure => simp [intOf]; omega
    ·have HE : Hid (partPost A wb J Jx pre ((d, t) :: partsK (d + 1) ks) W (.returned (.bool false)) W5) := .inr ⟨rfl, q', hJx5⟩
     clear hJx5 p0 p1 p2 p3 p4 p5 p6 p7 p8 HC2
     gi_wp2
     go_ret
     exact HE.out
   ·obtain rfl : k = ks.length := by omega
    have HE : Hid (partPost A wb J Jx pre ((d, t) :: partsK (d + 1) ks) W (.returned (.bool true)) wr) := .inl ⟨rfl, ⟨xs, by rw [HFr.out, List.take_length], HJr.out⟩, HKr.out⟩
    gi_wp2
    go_ret
    exact HE.out
 ·have HE : Hid (partPost A wb J Jx pre ((d, t) :: partsK (d + 1) ks) W (.returned (.bool false)) W3) := .inr ⟨rfl, _, hJx4⟩
  clear hJx4
  gi_wp2
  go_ret
  exact HE.out
theorem tellParts_any {S : Nat → Prop} (Lp A N : Nat) (wb : World) (J Jx : List (PtA S wb) → World → Prop) (hJ : ∀ pre W W', J pre W → Below W.heap.size W W' → J pre W') (hY : Yields encA Lp A wb N J Jx) (k : Nat) :
  ∀ (t : Tr), SizeOf.sizeOf t ≤ k → goodT t → countT t ≤ 1000000 → ∀ (d : Nat), d + deepT t ≤ 32 → ∀ (n : Nat) (u : Value) (W : World) (pre : List (PtA S wb)), treeAt S wb t u → On wb A W → J pre W → pre.length + countT t ≤ N →
   CallsIn Fence.wide n Tryz.prog 96 #[u, .int .i64 (d : Int), .func (.yield Lp) #[] #[]] W (partPost A wb J Jx pre (partsT d t) W) := by
 induction k with
 | zero => intro t ht; cases t; rw [Tr.mk.sizeOf_spec] at ht; omega
 | succ k ih =>
  intro t ht hg hcb d hd n u W pre hu hon h0 hN
  obtain ⟨hf, hgk⟩ := goodT_open hg
  have hu0 := hu
  obtain ⟨ka, kn, kc, ca, cn, cc, us, rfl, hcs, ho, hkd⟩ := treeAt_open hu
  obtain ⟨rfl, hk1, hk2, hkat⟩ := kids_at ho hkd
  have hC := countT_eq t
  have hD := deepT_eq t
  have hL := lenK_le t.kids
  have hkid : ∀ i, (h : i < t.kids.length) → kidPart Lp A N wb J Jx ka d i t.kids[i] := fun i h => by
   obtain ⟨g, a, m, c, a2, n2, c2, e, hg1, _, h9, htr⟩ := hkat i h
   have h1 := countK_drop t.kids i h
   have h2 := countK_le t.kids i
   have h3 := deepK_get t.kids i h
   refine ⟨g, a, m, c, a2, n2, c2, e, hg1, h9, fun n' pre' W' hj' hon' hN' => ?_⟩
   have := ih t.kids[i] (by have := size_kid i h; omega) (goodK_get hgk i h) (by omega) (d + 1) (by omega) n' _ W' pre' htr hon' hj' hN'
   exact this
  rw [partsT_eq]
  exact tellParts_step n Lp A N wb J Jx hJ hY t d (by omega) ka ca kc cn cc (by omega) hf hu0 hkid W hon pre h0 (by omega)
set_option maxHeartbeats 2000000 in
theorem tparts1_in {S : Nat → Prop} (n Lp A B : Nat) (wb : World) (J Jx : List (PtA S wb) → World → Prop) (hJ : ∀ pre W W', J pre W → Below W.heap.size W W' → J pre W') (t : Tr) (hY : Yields encA Lp A wb (countT t) J Jx) (hg : goodT t) (hcb : countT t ≤ 1000000) (hd : deepT t ≤ 32)
  (kd h1 h2 b1 b2 e1 e2 : Int) (ka ca : Option Addr) (kn kc cn cc : Nat) (hu : treeAt S wb t (.agg #[.int .i64 kd, .int .i64 h1, .int .i64 h2, .int .i64 b1, .int .i64 b2, .slice ka kn kc, .slice ca cn cc, .int .i64 e1, .int .i64 e2]))
  (W : World) (hp : W.heap[B]? = some (.cells #[.int .i64 kd, .int .i64 h1, .int .i64 h2, .int .i64 b1, .int .i64 b2, .slice ka kn kc, .slice ca cn cc, .int .i64 e1, .int .i64 e2] 31 (0, 0))) (hon : On wb A W) (h0 : J [] W) :
  CallsIn Fence.wide n Tryz.prog 95 #[.func (.yield Lp) #[] #[], .pointer (some ⟨B, 0, none⟩)] W fun e W' => (∃ v, e = .returned v) ∧ ((∃ ys : List (PtA S wb), True ∧ J ys W') ∨ (∃ pre : List (PtA S wb), True ∧ Jx pre W')) := by
 have HT := Lib.hid (tellParts_any Lp A (countT t) wb J Jx hJ hY _ t (Nat.le_refl _) hg hcb 0 (by omega) (n - 1) _ W [] hu hon h0 (by simp))
 have c0 : W.cell? ⟨B, 0, none⟩ = some (.int .i64 kd) := by simp [World.cell?, hp]
 have c1 : W.cell? ⟨B, 1, none⟩ = some (.int .i64 h1) := by simp [World.cell?, hp]
 have c2 : W.cell? ⟨B, 2, none⟩ = some (.int .i64 h2) := by simp [World.cell?, hp]
 have c3 : W.cell? ⟨B, 3, none⟩ = some (.int .i64 b1) := by simp [World.cell?, hp]
 have c4 : W.cell? ⟨B, 4, none⟩ = some (.int .i64 b2) := by simp [World.cell?, hp]
 have c5 : W.cell? ⟨B, 5, none⟩ = some (.slice ka kn kc) := by simp [World.cell?, hp]
 have c6 : W.cell? ⟨B, 6, none⟩ = some (.slice ca cn cc) := by simp [World.cell?, hp]
 have c7 : W.cell? ⟨B, 7, none⟩ = some (.int .i64 e1) := by simp [World.cell?, hp]
 have c8 : W.cell? ⟨B, 8, none⟩ = some (.int .i64 e2) := by simp [World.cell?, hp]
 clear hp hu hon h0 hJ hY hg
 refine callsIn_of_wp Tryz.func95 rfl trivial ?_ rfl
 simp only [Tryz.ntmps95, List.size_toArray, List.length_cons, List.length_nil, Nat.reduceAdd, Nat.reduceSub, Array.replicate_succ, Array.replicate_zero, List.push_toArray, List.append_toArray, List.nil_append, List.cons_append]
 gi_wp2
 refine ⟨trivial, fun h => (by cases h), ?_⟩
 refine (HT.out).mono ?_
 rintro e W1 (⟨rfl, ⟨ys, _, hJ1⟩, _⟩ | ⟨rfl, q, hx⟩)
 ·have HE : Hid (((∃ ys : List (PtA S wb), True ∧ J ys W1) ∨ (∃ pre : List (PtA S wb), True ∧ Jx pre W1))) := .inl ⟨_, trivial, by simpa using hJ1⟩
  clear hJ1
  gi_wp2
  go_end0
  exact ⟨⟨_, rfl⟩, HE.out⟩
 ·have HE : Hid (((∃ ys : List (PtA S wb), True ∧ J ys W1) ∨ (∃ pre : List (PtA S wb), True ∧ Jx pre W1))) := .inr ⟨q, trivial, hx⟩
  clear hx
  gi_wp2
  go_end0
  exact ⟨⟨_, rfl⟩, HE.out⟩
theorem tparts_stops {S : Nat → Prop} (n A B : Nat) (wb w0 : World) (t : Tr) (hg : goodT t) (hcb : countT t ≤ 1000000) (hd : deepT t ≤ 32) (kd h1 h2 b1 b2 e1 e2 : Int) (ka ca : Option Addr) (kn kc cn cc : Nat)
  (hu : treeAt S wb t (.agg #[.int .i64 kd, .int .i64 h1, .int .i64 h2, .int .i64 b1, .int .i64 b2, .slice ka kn kc, .slice ca cn cc, .int .i64 e1, .int .i64 e2]))
  (hp : w0.heap[B]? = some (.cells #[.int .i64 kd, .int .i64 h1, .int .i64 h2, .int .i64 b1, .int .i64 b2, .slice ka kn kc, .slice ca cn cc, .int .i64 e1, .int .i64 e2] 31 (0, 0))) (hon : On wb A w0) :
  SeqStopsK Fence.wide n Tryz.prog 95 #[.pointer (some ⟨B, 0, none⟩)] (encA : PtA S wb → Array Value) (KeepK wb.heap.size A) (fun _ => True) (fun _ => True) (countT t) w0 :=
 fun Lp J Jx W hW hJ _ hY h0 => tparts1_in n Lp A B wb J Jx (abides_of hJ) t (yields_of hY) hg hcb hd kd h1 h2 b1 b2 e1 e2 ka ca kn kc cn cc hu W ((hW.block B (Array.getElem?_eq_some_iff.1 hp).1).trans hp) (hon.grow hW) h0
theorem spF_eq : (Tryz.prog.fieldsOf 27).toList = [⟨"From", 3, 0, false, "", "", 0⟩, ⟨"To", 3, 1, false, "", "", 8⟩] := by kernel_rfl
theorem span_und : Tryz.prog.underlying 27 = some (.struct (Tryz.prog.fieldsOf 27)) := by kernel_rfl
theorem span_in : Tryz.prog.stoodInHeld 27 = false := by kernel_rfl
theorem span_eql (w : World) (a b c d : Int) : (binOp .eql 27 (.agg #[.int .i64 a, .int .i64 b]) (.agg #[.int .i64 c, .int .i64 d])).run Tryz.prog w = .ok (.bool (a == c && b == d)) w := by
 rw [run_eql_struct, run_equalIn_agg _ _ _ _ _ span_und span_in, spF_eq]
 have h1 : Tryz.prog.plainKey 3 = true := by kernel_rfl
 have p : ∀ (x y : Int) (w : World), (part 3 #[.int .i64 x, .int .i64 y] 0).run Tryz.prog w = .ok (.int .i64 x) w := fun x y w => run_part_plain w h1 rfl
 have q : ∀ (x y : Int) (w : World), (part 3 #[.int .i64 x, .int .i64 y] 1).run Tryz.prog w = .ok (.int .i64 y) w := fun x y w => run_part_plain w h1 rfl
 have e : ∀ (x y : Int) (w : World), (Op.equalIn 9999 3 (.int .i64 x) (.int .i64 y)).run Tryz.prog w = .ok (x == y) w := fun x y w => run_equalIn_int w 9998 _ .i64 .i64 x y Tryz.underlying3
 simp only [Op.eqFields]
 rw [if_pos (by decide), if_pos (by decide)]
 simp only [Sem.run_bind, p, q, e, Result.andThen_ok, Sem.run_ite, Sem.run_pure]
 cases (a == c) <;> cases (b == d) <;> rfl
theorem span_same (a b : Int) (w : World) : (binOp .eql 27 (.agg #[.int .i64 a, .int .i64 b]) (.agg #[.int .i64 a, .int .i64 b])).run Tryz.prog w = .ok (.bool true) w := by
 rw [span_eql]
 simp
set_option maxHeartbeats 1000000 in
theorem uncut_any (kd h1 h2 b1 b2 : Int) (ka ca : Option Addr) (kn kc cc : Nat) (w : World) :
  Calls Tryz.prog 97 #[.agg #[.int .i64 kd, .int .i64 h1, .int .i64 h2, .int .i64 b1, .int .i64 b2, .slice ka kn kc, .slice ca 0 cc, .int .i64 0, .int .i64 0]] w
   fun e w' => e = .returned (.bool true) ∧ Below w.heap.size w w' := by
 have HB := Lib.hid (below_new w (.cells #[.int .i64 kd, .int .i64 h1, .int .i64 h2, .int .i64 b1, .int .i64 b2, .slice ka kn kc, .slice ca 0 cc, .int .i64 0, .int .i64 0] 31))
 have ks := span_same 0 0
 go_enter Tryz.func97, Tryz.ntmps97
 go_wp2
 go_ret
 exact ⟨rfl, HB.out⟩
set_option maxHeartbeats 2000000 in
theorem formed_leaf (h1 b1 b2 : Nat) (hb : b1 ≤ b2) (ka ca : Option Addr) (kc cc : Nat) (w : World) :
  Calls Tryz.prog 66 #[.agg #[.int .i64 0, .int .i64 (h1 : Int), .int .i64 (b1 : Int), .int .i64 (b1 : Int), .int .i64 (b2 : Int), .slice ka 0 kc, .slice ca 0 cc, .int .i64 0, .int .i64 0]] w
   fun e w' => e = .returned (.bool true) ∧ Below w.heap.size w w' := by
 have HB := Lib.hid (below_new w (.cells #[.int .i64 0, .int .i64 (h1 : Int), .int .i64 (b1 : Int), .int .i64 (b1 : Int), .int .i64 (b2 : Int), .slice ka 0 kc, .slice ca 0 cc, .int .i64 0, .int .i64 0] 31))
 have HU := Lib.hid (fun W => uncut_any 0 (h1 : Int) (b1 : Int) (b1 : Int) (b2 : Int) ka ca 0 kc cc W)
 have t1 : ((b1 : Int) != (b1 : Int)) = false := bne_no rfl
 have n2 : decide (b2 < b1) = false := decide_eq_false (by omega)
 have t2 : decide ((b2 : Int) < (b1 : Int)) = false := decide_eq_false (by omega)
 go_enter Tryz.func66, Tryz.ntmps66
 go_wp2_with fail
 with_reducible refine (HU.out _).mono ?_
 rintro e w2 ⟨rfl, hb2⟩
 have HB2 := Lib.hid (HB.out.trans (hb2.mono HB.out.size))
 clear hb2
 go_wp2_with fail
 go_ret
 exact ⟨rfl, HB2.out⟩
set_option maxHeartbeats 2000000 in
theorem formed_multi (h1 b1 b2 e1 e2 K : Nat) (hb : b1 ≤ b2) (hK : 0 < K) (ka ca : Option Addr) (kc cc : Nat) (w : World) :
  Calls Tryz.prog 66 #[.agg #[.int .i64 1, .int .i64 (h1 : Int), .int .i64 (b1 : Int), .int .i64 (b1 : Int), .int .i64 (b2 : Int), .slice ka K kc, .slice ca K cc, .int .i64 (e1 : Int), .int .i64 (e2 : Int)]] w
   fun e w' => e = .returned (.bool true) ∧ Below w.heap.size w w' := by
 have HB := Lib.hid (below_new w (.cells #[.int .i64 1, .int .i64 (h1 : Int), .int .i64 (b1 : Int), .int .i64 (b1 : Int), .int .i64 (b2 : Int), .slice ka K kc, .slice ca K cc, .int .i64 (e1 : Int), .int .i64 (e2 : Int)] 31))
 have t1 : ((b1 : Int) != (b1 : Int)) = false := bne_no rfl
 have n2 : decide (b2 < b1) = false := decide_eq_false (by omega)
 have t2 : decide ((b2 : Int) < (b1 : Int)) = false := decide_eq_false (by omega)
 have t3 : ((K : Int) == (K : Int)) = true := by simp
 go_enter Tryz.func66, Tryz.ntmps66
 go_wp2_with fail
 go_ret
 exact ⟨rfl, HB.out⟩
set_option maxRecDepth 100000 in
set_option maxHeartbeats 4000000 in
theorem formed_msg (h1 b1 b2 : Nat) (hb : b1 ≤ b2) (g : Nat) (q : Tr) (hq1 : q.hd.1 = b1) (hq2 : q.bd.2 = b2) (ga gn gc ga2 gn2 gc2) (ca : Option Addr) (kc cc : Nat) (w : World) (h9 : nineAt w g 0 q (.slice ga gn gc) (.slice ga2 gn2 gc2)) (hg : g < w.heap.size) :
  Calls Tryz.prog 66 #[.agg #[.int .i64 2, .int .i64 (h1 : Int), .int .i64 (b1 : Int), .int .i64 (b1 : Int), .int .i64 (b2 : Int), .slice (some ⟨g, 0, none⟩) 1 kc, .slice ca 0 cc, .int .i64 0, .int .i64 0]] w
   fun e w' => e = .returned (.bool true) ∧ Below w.heap.size w w' := by
 have hB := below_new w (.cells #[.int .i64 2, .int .i64 (h1 : Int), .int .i64 (b1 : Int), .int .i64 (b1 : Int), .int .i64 (b2 : Int), .slice (some ⟨g, 0, none⟩) 1 kc, .slice ca 0 cc, .int .i64 0, .int .i64 0] 31)
 have hl := heap_alloc_new w (.cells #[.int .i64 2, .int .i64 (h1 : Int), .int .i64 (b1 : Int), .int .i64 (b1 : Int), .int .i64 (b2 : Int), .slice (some ⟨g, 0, none⟩) 1 kc, .slice ca 0 cc, .int .i64 0, .int .i64 0] 31)
 have h9' := h9.block (hB.block g hg)
 obtain ⟨X, hX⟩ : ∃ X, X = w.alloc (.cells #[.int .i64 2, .int .i64 (h1 : Int), .int .i64 (b1 : Int), .int .i64 (b1 : Int), .int .i64 (b2 : Int), .slice (some ⟨g, 0, none⟩) 1 kc, .slice ca 0 cc, .int .i64 0, .int .i64 0] 31) := ⟨_, rfl⟩
 rw [← hX] at hB hl h9'
 unfold nineAt at h9'
 simp only [Nat.zero_mul, Nat.zero_add] at h9'
 rw [hq1, hq2] at h9'
 obtain ⟨p0, p1, p2, p3, p4, p5, p6, p7, p8⟩ := h9'
 have r0 := BW.cell p0
 have r1 := BW.cell p1
 have r2 := BW.cell p2
 have r3 := BW.cell p3
 have r4 := BW.cell p4
 have r5 := BW.cell p5
 have r6 := BW.cell p6
 have r7 := BW.cell p7
 have r8 := BW.cell p8
 have s0 : ∀ z : BW X, z.v.cell? ⟨w.heap.size, 0, none⟩ = some (.int .i64 2) := BW.cell (by simp [World.cell?, hl])
 have s1 : ∀ z : BW X, z.v.cell? ⟨w.heap.size, 1, none⟩ = some (.int .i64 (h1 : Int)) := BW.cell (by simp [World.cell?, hl])
 have s2 : ∀ z : BW X, z.v.cell? ⟨w.heap.size, 2, none⟩ = some (.int .i64 (b1 : Int)) := BW.cell (by simp [World.cell?, hl])
 have s3 : ∀ z : BW X, z.v.cell? ⟨w.heap.size, 3, none⟩ = some (.int .i64 (b1 : Int)) := BW.cell (by simp [World.cell?, hl])
 have s4 : ∀ z : BW X, z.v.cell? ⟨w.heap.size, 4, none⟩ = some (.int .i64 (b2 : Int)) := BW.cell (by simp [World.cell?, hl])
 have s5 : ∀ z : BW X, z.v.cell? ⟨w.heap.size, 5, none⟩ = some (.slice (some ⟨g, 0, none⟩) 1 kc) := BW.cell (by simp [World.cell?, hl])
 have s6 : ∀ z : BW X, z.v.cell? ⟨w.heap.size, 6, none⟩ = some (.slice ca 0 cc) := BW.cell (by simp [World.cell?, hl])
 have s7 : ∀ z : BW X, z.v.cell? ⟨w.heap.size, 7, none⟩ = some (.int .i64 0) := BW.cell (by simp [World.cell?, hl])
 have s8 : ∀ z : BW X, z.v.cell? ⟨w.heap.size, 8, none⟩ = some (.int .i64 0) := BW.cell (by simp [World.cell?, hl])
 have HX := Lib.hid hX
 have HB := Lib.hid hB
 have HU := Lib.hid (fun W => uncut_any 2 (h1 : Int) (b1 : Int) (b1 : Int) (b2 : Int) (some ⟨g, 0, none⟩) ca 1 kc cc W)
 have HT := Lib.hid (fun W => tbytes_any q.kind q.hd.1 q.hd.2 q.bd.1 q.bd.2 q.e.1 q.e.2 ga ga2 gn gc gn2 gc2 W)
 rw [hq1, hq2] at HT
 have ks : ∀ z : BW X, (binOp .eql 27 (.agg #[.int .i64 (b1 : Int), .int .i64 (b2 : Int)]) (.agg #[.int .i64 (b1 : Int), .int .i64 (b2 : Int)])).run Tryz.prog z.v = .ok (.bool true) z.v := fun z => span_same _ _ _
 have t1 : ((b1 : Int) != (b1 : Int)) = false := bne_no rfl
 have n2 : decide (b2 < b1) = false := decide_eq_false (by omega)
 have t2 : decide ((b2 : Int) < (b1 : Int)) = false := decide_eq_false (by omega)
 clear hq1 hq2 p0 p1 p2 p3 p4 p5 p6 p7 p8 hl hB hX h9
 go_enter Tryz.func66, Tryz.ntmps66
 go_wp2_with fail
 rw [← HX.out]
 refine wp_region_below (by kernel_rfl) (by kernel_rfl) ?_
 repeat (go_big_quiet_step (first
  | (go_at_call 38; exact BW.calls (HT.out _))
  | (go_at_call 97; exact BW.calls (HU.out _))))
 refine wpQuiet_nil ?_
 rintro _ ⟨z, rfl⟩
 have HZ := Lib.hid (HB.out.trans (z.h.mono HB.out.size))
 go_wp2_with fail
 go_ret
 exact ⟨rfl, HZ.out⟩
theorem tformed_any {S : Nat → Prop} (wb : World) (t : Tr) (u : Value) (hu : treeAt S wb t u) (hf : formed t) (w : World) (hb : Below wb.heap.size wb w) (hsz : wb.heap.size ≤ w.heap.size) :
  Calls Tryz.prog 66 #[u] w fun e w' => e = .returned (.bool true) ∧ Below w.heap.size w w' := by
 obtain ⟨ka, kn, kc, ca, cn, cc, us, rfl, hcs, ho, hkd⟩ := treeAt_open hu
 obtain ⟨rfl, hk1, hk2, hkat⟩ := kids_at ho hkd
 obtain ⟨rfl, hc1, hc2, hcat⟩ := spans_at hcs
 obtain ⟨f1, f2, f3⟩ := hf
 rw [f1]
 rcases f3 with ⟨hk0, hks, hcs0, he⟩ | ⟨hk0, hks, hlen⟩ | ⟨hk0, hcs0, he, q, hks, hq1, hq2⟩
 ·have e1 : t.kids.length = 0 := by rw [hks]; rfl
  have e2 : t.cuts.length = 0 := by rw [hcs0]; rfl
  rw [hk0, he, e1, e2]
  exact formed_leaf _ _ _ f2 ka ca kc cc w
 ·rw [hk0, ← hlen]
  exact formed_multi _ _ _ _ _ _ f2 (by cases hkk : t.kids with | nil => exact absurd hkk hks | cons => simp) ka ca kc cc w
 ·have e1 : t.kids.length = 1 := by rw [hks]; rfl
  have e2 : t.cuts.length = 0 := by rw [hcs0]; rfl
  obtain ⟨g, a, m, c, a2, n2, c2, rfl, hg1, _, h9, htr⟩ := hkat 0 (by omega)
  have hq' : t.kids[0]'(by omega) = q := by simp [hks]
  rw [hq'] at h9
  rw [hk0, he, e1, e2]
  exact formed_msg _ _ _ f2 g q hq1 hq2 _ _ _ _ _ _ ca kc cc w (h9.block (hb.block g hg1)) (Nat.lt_of_lt_of_le hg1 hsz)
end Go.Proofs.YtedminjnnhlknaaGreatDoor
