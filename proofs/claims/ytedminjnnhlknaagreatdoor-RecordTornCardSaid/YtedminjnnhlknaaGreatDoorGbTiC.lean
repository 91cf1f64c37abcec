/- Contracts of package tiles: Bytes, each; tell of a leaf. -/
import Derived.Test.YtedminjnnhlknaaGreatDoorGbTrI
import Derived.Test.YtedminjnnhlknaaGreatDoorGbRcM
namespace Go.Proofs.YtedminjnnhlknaaGreatDoor
open Go Go.RowKit Go.Shelf
attribute [local go_sem] Oper.semAt_some
def tlV (x : Tl) : Value := .agg #[.int .i64 (x.1 : Int), .int .i64 (x.2.1 : Int), .int .i64 (x.2.2 : Int)]
theorem round_any {m m' : Nat} {P : Program} {l : Nat} {f : FuncId} {tmps : Array Value} {assign body : Code} {w : World} {R : Ending → World → Prop} (h : RoundIn Fence.wide m P l f tmps assign body w R) : RoundIn Fence.wide m' P l f tmps assign body w R :=
 ⟨h.1, fun c cs _ => h.2 c cs (room_wide _)⟩
theorem yield_any {m m' : Nat} {P : Program} {l : Nat} {args : Array Value} {W : World} {R : Ending → World → Prop} (h : YieldAt Fence.wide m P l args W R) : YieldAt Fence.wide m' P l args W R := by
 obtain ⟨fn, tmps, assign, body, hy, hR⟩ := h
 exact ⟨fn, tmps, assign, body, hy, round_any hR⟩
def Yields {α : Type} (enc : α → Array Value) (Lp A : Nat) (wb : World) (N : Nat) (J Jx : List α → World → Prop) : Prop := ∀ m pre x W1, J pre W1 → pre.length < N → YieldAt Fence.wide m Tryz.prog Lp (enc x) W1 fun e W' =>
 (e = .returned (.bool true) ∧ J (pre ++ [x]) W' ∧ KeepK wb.heap.size A W1 W') ∨ (e = .returned (.bool false) ∧ Jx (pre ++ [x]) W')
structure On (wb : World) (A : Nat) (W : World) : Prop where
 below : Below wb.heap.size wb W
 base : wb.heap.size ≤ W.heap.size
 lie : ∀ k, ownsB A W k → k < W.heap.size
theorem On.keep {wb : World} {A : Nat} {W W' : World} (h : On wb A W) (k : KeepK wb.heap.size A W W') : On wb A W' := ⟨h.below.trans k.below, Nat.le_trans h.base k.below.size, k.lie h.lie⟩
theorem On.own {wb : World} {A : Nat} {W : World} (h : On wb A W) : A < W.heap.size := h.lie A (.inl rfl)
theorem On.kept {wb : World} {A : Nat} {W W' : World} (h : On wb A W) (k : Below W.heap.size W W') : KeepK wb.heap.size A W W' := .grow h.base h.own k
theorem On.grow {wb : World} {A : Nat} {W W' : World} (h : On wb A W) (k : Below W.heap.size W W') : On wb A W' := h.keep (h.kept k)
structure Pb (wb : World) (A B : Nat) (cs : Array Value) (t : TypeId) (W : World) : Prop where
 on : On wb A W
 lies : W.heap[B]? = some (.cells cs t (0, 0))
 no : ¬ ownsB A W B
theorem Pb.keep {wb : World} {A B : Nat} {cs : Array Value} {t : TypeId} {W W' : World} (h : Pb wb A B cs t W) (k : KeepK wb.heap.size A W W') : Pb wb A B cs t W' := by
 obtain ⟨h1, h2⟩ := k.kept B _ h.lies rfl h.no
 exact ⟨h.on.keep k, h1, h2⟩
theorem Pb.new {wb : World} {A : Nat} {W : World} (h : On wb A W) (cs : Array Value) (t : TypeId) : Pb wb A W.heap.size cs t (W.alloc (.cells cs t)) := by
 have hb : Below W.heap.size W (W.alloc (.cells cs t)) := (Below.refl _ _).alloc (Nat.le_refl _) _
 refine ⟨h.grow hb, heap_alloc_new W _, fun hh => ?_⟩
 have := h.lie _ ((ownsB_same (hb.block A h.own) _).1 hh)
 omega
theorem below_new (W : World) (o : Obj) : Below W.heap.size W (W.alloc o) := (Below.refl _ _).alloc (Nat.le_refl _) _
def tellPost {α : Type} (A : Nat) (wb : World) (J Jx : List α → World → Prop) (pre ts : List α) (W : World) (e : Ending) (W' : World) : Prop :=
 (e = .returned (.bool true) ∧ J (pre ++ ts) W' ∧ KeepK wb.heap.size A W W') ∨ (e = .returned (.bool false) ∧ ∃ q, q <+: ts ∧ Jx (pre ++ q) W')
theorem tbytes_any (kd h1 h2 b1 b2 e1 e2 : Nat) (ka ca : Option Addr) (kn kc cn cc : Nat) (w : World) :
  Calls Tryz.prog 38 #[.agg #[.int .i64 (kd : Int), .int .i64 (h1 : Int), .int .i64 (h2 : Int), .int .i64 (b1 : Int), .int .i64 (b2 : Int), .slice ka kn kc, .slice ca cn cc, .int .i64 (e1 : Int), .int .i64 (e2 : Int)]] w
   fun e w' => e = .returned (.agg #[.int .i64 (h1 : Int), .int .i64 (b2 : Int)]) ∧ Below w.heap.size w w' := by
 go_enter Tryz.func38, Tryz.ntmps38
 go_wp2
 (try simp only [Exit.inBlock, Exit.then])
 refine bodyPost_ret (results_cell_row (P := Tryz.prog) Tryz.results38 _ _ (w.heap.size + 1) 27 _ (0, 0) _ rfl (heap_alloc2_new _ _ _) Tryz.underlying27 rfl (by kernel_rfl)) rfl ?_
 exact ⟨rfl, (below_new _ _).alloc (by simp) _⟩
theorem teachI_any (kd h1 h2 b1 b2 e1 e2 : Int) (ka ca : Option Addr) (kn kc cn cc : Nat) (w : World) :
  Calls Tryz.prog 67 #[.agg #[.int .i64 kd, .int .i64 h1, .int .i64 h2, .int .i64 b1, .int .i64 b2, .slice ka kn kc, .slice ca cn cc, .int .i64 e1, .int .i64 e2]] w
   fun e w' => e = .returned (.func (.func 98) #[] #[.pointer (some ⟨w.heap.size, 0, none⟩)]) ∧
    w' = w.alloc (.cells #[.int .i64 kd, .int .i64 h1, .int .i64 h2, .int .i64 b1, .int .i64 b2, .slice ka kn kc, .slice ca cn cc, .int .i64 e1, .int .i64 e2] 31) := by
 go_enter Tryz.func67, Tryz.ntmps67
 go_wp2
 go_ret
 exact ⟨rfl, rfl⟩
theorem tpartsI_any (kd h1 h2 b1 b2 e1 e2 : Int) (ka ca : Option Addr) (kn kc cn cc : Nat) (w : World) :
  Calls Tryz.prog 65 #[.agg #[.int .i64 kd, .int .i64 h1, .int .i64 h2, .int .i64 b1, .int .i64 b2, .slice ka kn kc, .slice ca cn cc, .int .i64 e1, .int .i64 e2]] w
   fun e w' => e = .returned (.func (.func 95) #[] #[.pointer (some ⟨w.heap.size, 0, none⟩)]) ∧
    w' = w.alloc (.cells #[.int .i64 kd, .int .i64 h1, .int .i64 h2, .int .i64 b1, .int .i64 b2, .slice ka kn kc, .slice ca cn cc, .int .i64 e1, .int .i64 e2] 31) := by
 go_enter Tryz.func65, Tryz.ntmps65
 go_wp2
 go_ret
 exact ⟨rfl, rfl⟩
set_option maxRecDepth 100000 in
set_option maxHeartbeats 2000000 in
theorem tell_leaf (n Lp A N : Nat) (wb : World) (J Jx : List Tl → World → Prop) (hJ : ∀ pre W W', J pre W → Below W.heap.size W W' → J pre W') (hY : Yields (fun x => #[tlV x]) Lp A wb N J Jx)
  (h1 h2 b1 b2 e1 e2 : Nat) (ka ca : Option Addr) (kn kc cn cc : Nat) (W : World) (hon : On wb A W) (pre : List Tl) (h0 : J pre W) (hN : pre.length + 2 ≤ N) :
  CallsIn Fence.wide n Tryz.prog 99 #[.agg #[.int .i64 0, .int .i64 (h1 : Int), .int .i64 (h2 : Int), .int .i64 (b1 : Int), .int .i64 (b2 : Int), .slice ka kn kc, .slice ca cn cc, .int .i64 (e1 : Int), .int .i64 (e2 : Int)], .func (.yield Lp) #[] #[]] W
   (tellPost A wb J Jx pre [(0, (h1, h2)), (1, (b1, b2))] W) := by
 have HP := Lib.hid (Pb.new hon #[.int .i64 0, .int .i64 (h1 : Int), .int .i64 (h2 : Int), .int .i64 (b1 : Int), .int .i64 (b2 : Int), .slice ka kn kc, .slice ca cn cc, .int .i64 (e1 : Int), .int .i64 (e2 : Int)] 31)
 have HK := Lib.hid (hon.kept (below_new W (.cells #[.int .i64 0, .int .i64 (h1 : Int), .int .i64 (h2 : Int), .int .i64 (b1 : Int), .int .i64 (b2 : Int), .slice ka kn kc, .slice ca cn cc, .int .i64 (e1 : Int), .int .i64 (e2 : Int)] 31)))
 have hJX := hJ pre W _ h0 (below_new W (.cells #[.int .i64 0, .int .i64 (h1 : Int), .int .i64 (h2 : Int), .int .i64 (b1 : Int), .int .i64 (b2 : Int), .slice ka kn kc, .slice ca cn cc, .int .i64 (e1 : Int), .int .i64 (e2 : Int)] 31))
 obtain ⟨fn, tmps, assign, body, hy, hR⟩ := hY (n - 1) pre (0, (h1, h2)) _ hJX (by omega)
 have HR := Lib.hid hR
 have HY := Lib.hid hY
 have HJx : Hid (∀ W', Jx (pre ++ [(0, (h1, h2))]) W' → tellPost A wb J Jx pre [(0, (h1, h2)), (1, (b1, b2))] W (.returned (.bool false)) W') := fun W' h => .inr ⟨rfl, _, ⟨[(1, (b1, b2))], rfl⟩, h⟩
 replace hy : (Instr.yield Lp #[.agg #[.int .i64 0, .int .i64 (h1 : Int), .int .i64 (h2 : Int)]]).run Tryz.prog _ = .ok (.round Lp fn tmps assign body) _ := hy
 clear hR hJX h0 hJ hY hon
 refine callsIn_of_wp Tryz.func99 rfl trivial ?_ rfl
 simp only [Tryz.ntmps99, List.size_toArray, List.length_cons, List.length_nil, Nat.reduceAdd, Nat.reduceSub, Array.replicate_succ, Array.replicate_zero, List.push_toArray, List.append_toArray, List.nil_append, List.cons_append]
 gi_wp2
 refine ⟨fun h => (by cases h), ?_⟩
 refine HR.out.mono ?_
 rintro e W3 (⟨rfl, hJ4, hk4⟩ | ⟨rfl, hJx4⟩)
 ·have HP3 := Lib.hid (HP.out.keep hk4)
  have HK3 := Lib.hid (HK.out.trans hk4)
  have hl := HP3.out.lies
  have c0 : W3.cell? ⟨W.heap.size, 0, none⟩ = some (.int .i64 0) := by simp [World.cell?, hl]
  have c3 : W3.cell? ⟨W.heap.size, 3, none⟩ = some (.int .i64 (b1 : Int)) := by simp [World.cell?, hl]
  have c4 : W3.cell? ⟨W.heap.size, 4, none⟩ = some (.int .i64 (b2 : Int)) := by simp [World.cell?, hl]
  obtain ⟨fn', tmps', assign', body', hy', hR'⟩ := HY.out (n - 1) _ (1, (b1, b2)) _ hJ4 (by simp only [List.length_append, List.length_cons, List.length_nil]; omega)
  have HR' := Lib.hid hR'
  replace hy' : (Instr.yield Lp #[.agg #[.int .i64 1, .int .i64 (b1 : Int), .int .i64 (b2 : Int)]]).run Tryz.prog _ = .ok (.round Lp fn' tmps' assign' body') _ := hy'
  clear hR' hl hk4 hJ4 hy HR
  gi_wp2
  refine ⟨fun h => (by cases h), ?_⟩
  refine HR'.out.mono ?_
  rintro e W5 (⟨rfl, hJ5, hk5⟩ | ⟨rfl, hJx5⟩)
  ·have HE : Hid (tellPost A wb J Jx pre [(0, (h1, h2)), (1, (b1, b2))] W (.returned (.bool true)) W5) := .inl ⟨rfl, by simpa [List.append_assoc] using hJ5, HK3.out.trans hk5⟩
   clear hJ5 hk5
   gi_wp2
   go_ret
   exact HE.out
  ·have HE : Hid (tellPost A wb J Jx pre [(0, (h1, h2)), (1, (b1, b2))] W (.returned (.bool false)) W5) := .inr ⟨rfl, _, List.prefix_refl _, by simpa [List.append_assoc] using hJx5⟩
   clear hJx5
   gi_wp2
   go_ret
   exact HE.out
 ·have HE := Lib.hid (HJx.out _ hJx4)
  clear hJx4
  gi_wp2
  go_ret
  exact HE.out
end Go.Proofs.YtedminjnnhlknaaGreatDoor

/- Contracts of package tiles: tell of a message. -/
namespace Go.Proofs.YtedminjnnhlknaaGreatDoor
open Go Go.RowKit Go.Shelf
attribute [local go_sem] Oper.semAt_some
def kidTell (Lp A N : Nat) (wb : World) (J Jx : List Tl → World → Prop) (ka : Option Addr) (i : Nat) (q : Tr) : Prop := ∃ g a n c a2 n2 c2, ka = some ⟨g, 0, none⟩ ∧ g < wb.heap.size ∧ nineAt wb g i q (.slice a n c) (.slice a2 n2 c2) ∧
 ∀ n' pre W', J pre W' → On wb A W' → pre.length + (tilesT q).length ≤ N → CallsIn Fence.wide n' Tryz.prog 99 #[.agg #[.int .i64 (q.kind : Int), .int .i64 (q.hd.1 : Int), .int .i64 (q.hd.2 : Int), .int .i64 (q.bd.1 : Int), .int .i64 (q.bd.2 : Int), .slice a n c, .slice a2 n2 c2, .int .i64 (q.e.1 : Int), .int .i64 (q.e.2 : Int)], .func (.yield Lp) #[] #[]] W'
  (tellPost A wb J Jx pre (tilesT q) W')
theorem tellPost_on {α : Type} {A : Nat} {wb : World} {J Jx : List α → World → Prop} {pre a b all : List α} {W W1 : World} {e : Ending} {W' : World} (hk : KeepK wb.heap.size A W W1) (ha : all = a ++ b) (h : tellPost A wb J Jx (pre ++ a) b W1 e W') : tellPost A wb J Jx pre all W e W' := by
 subst ha
 rcases h with ⟨rfl, h2, h3⟩ | ⟨rfl, q, hq, h2⟩
 ·exact .inl ⟨rfl, by rw [← List.append_assoc]; exact h2, hk.trans h3⟩
 ·exact .inr ⟨rfl, a ++ q, (List.prefix_append_right_inj a).2 hq, by rw [← List.append_assoc]; exact h2⟩
theorem tell_cut {α : Type} {A : Nat} {wb : World} {J Jx : List α → World → Prop} {pre a b all : List α} {W : World} {W' : World} (ha : all = a ++ b) (h : Jx (pre ++ a) W') : tellPost A wb J Jx pre all W (.returned (.bool false)) W' := by
 subst ha
 exact .inr ⟨rfl, a, ⟨b, rfl⟩, h⟩
set_option maxRecDepth 100000 in
set_option maxHeartbeats 2000000 in
theorem tell_msg (n Lp A N : Nat) (wb : World) (J Jx : List Tl → World → Prop) (hJ : ∀ pre W W', J pre W → Below W.heap.size W W' → J pre W') (hY : Yields (fun x => #[tlV x]) Lp A wb N J Jx)
  (h1 h2 b1 b2 e1 e2 : Nat) (ka ca : Option Addr) (kc cn cc : Nat) (q : Tr) (hq : kidTell Lp A N wb J Jx ka 0 q) (W : World) (hon : On wb A W) (pre : List Tl) (h0 : J pre W) (hN : pre.length + (1 + (tilesT q).length) ≤ N) :
  CallsIn Fence.wide n Tryz.prog 99 #[.agg #[.int .i64 2, .int .i64 (h1 : Int), .int .i64 (h2 : Int), .int .i64 (b1 : Int), .int .i64 (b2 : Int), .slice ka 1 kc, .slice ca cn cc, .int .i64 (e1 : Int), .int .i64 (e2 : Int)], .func (.yield Lp) #[] #[]] W
   (tellPost A wb J Jx pre ((0, (h1, h2)) :: tilesT q) W) := by
 have HP := Lib.hid (Pb.new hon #[.int .i64 2, .int .i64 (h1 : Int), .int .i64 (h2 : Int), .int .i64 (b1 : Int), .int .i64 (b2 : Int), .slice ka 1 kc, .slice ca cn cc, .int .i64 (e1 : Int), .int .i64 (e2 : Int)] 31)
 have HK := Lib.hid (hon.kept (below_new W (.cells #[.int .i64 2, .int .i64 (h1 : Int), .int .i64 (h2 : Int), .int .i64 (b1 : Int), .int .i64 (b2 : Int), .slice ka 1 kc, .slice ca cn cc, .int .i64 (e1 : Int), .int .i64 (e2 : Int)] 31)))
 have hJX := hJ pre W _ h0 (below_new W (.cells #[.int .i64 2, .int .i64 (h1 : Int), .int .i64 (h2 : Int), .int .i64 (b1 : Int), .int .i64 (b2 : Int), .slice ka 1 kc, .slice ca cn cc, .int .i64 (e1 : Int), .int .i64 (e2 : Int)] 31))
 obtain ⟨fn, tmps, assign, body, hy, hR⟩ := hY (n - 1) pre (0, (h1, h2)) _ hJX (by omega)
 have HR := Lib.hid hR
 have HJx : Hid (∀ W', Jx (pre ++ [(0, (h1, h2))]) W' → tellPost A wb J Jx pre ((0, (h1, h2)) :: tilesT q) W (.returned (.bool false)) W') := fun W' h => tell_cut (a := [(0, (h1, h2))]) rfl h
 obtain ⟨g, ga, gn, gc, ga2, gn2, gc2, rfl, hg, h9, hcall⟩ := hq
 have H9 := Lib.hid h9
 have HC := Lib.hid hcall
 have HN := Lib.hid hN
 replace hy : (Instr.yield Lp #[.agg #[.int .i64 0, .int .i64 (h1 : Int), .int .i64 (h2 : Int)]]).run Tryz.prog _ = .ok (.round Lp fn tmps assign body) _ := hy
 clear hR hJX h0 hJ hY hon h9 hcall hN
 refine callsIn_of_wp Tryz.func99 rfl trivial ?_ rfl
 simp only [Tryz.ntmps99, List.size_toArray, List.length_cons, List.length_nil, Nat.reduceAdd, Nat.reduceSub, Array.replicate_succ, Array.replicate_zero, List.push_toArray, List.append_toArray, List.nil_append, List.cons_append]
 gi_wp2
 refine ⟨fun h => (by cases h), ?_⟩
 refine HR.out.mono ?_
 rintro e W3 (⟨rfl, hJ4, hk4⟩ | ⟨rfl, hJx4⟩)
 ·have HP3 := Lib.hid (HP.out.keep hk4)
  have HK3 := Lib.hid (HK.out.trans hk4)
  have hl := HP3.out.lies
  have c0 : W3.cell? ⟨W.heap.size, 0, none⟩ = some (.int .i64 2) := by simp [World.cell?, hl]
  have c5 : W3.cell? ⟨W.heap.size, 5, none⟩ = some (.slice (some ⟨g, 0, none⟩) 1 kc) := by simp [World.cell?, hl]
  have h9' := H9.out.block (HP3.out.on.below.block g hg)
  unfold nineAt at h9'
  simp only [Nat.zero_mul, Nat.zero_add] at h9'
  obtain ⟨p0, p1, p2, p3, p4, p5, p6, p7, p8⟩ := h9'
  have HCl := Lib.hid (HC.out (n - 1) (pre ++ [(0, (h1, h2))]) W3 hJ4 HP3.out.on (by have := HN.out; simp only [List.length_append, List.length_cons, List.length_nil]; omega))
  clear hl hk4 hJ4 hy HR HC
  gi_wp2
  refine ⟨trivial, fun h => (by cases h), ?_⟩
  with_reducible refine (HCl.out).mono ?_
  intro e W5 h5
  have HE := Lib.hid (tellPost_on HK3.out (all := (0, (h1, h2)) :: tilesT q) rfl h5)
  have he : e = .returned (.bool true) ∨ e = .returned (.bool false) := h5.imp And.left And.left
  clear h5 HCl
  rcases he with rfl | rfl
  ·gi_wp2
   go_ret
   exact HE.out
  ·gi_wp2
   go_ret
   exact HE.out
 ·have HE := Lib.hid (HJx.out _ hJx4)
  clear hJx4
  gi_wp2
  go_ret
  exact HE.out
end Go.Proofs.YtedminjnnhlknaaGreatDoor

/- Contracts of package tiles: tellMulti. -/
namespace Go.Proofs.YtedminjnnhlknaaGreatDoor
open Go Go.RowKit Go.Shelf
attribute [local go_sem] Oper.semAt_some
theorem tilesM_drop {ks : List Tr} {cs : List Sp} {i : Nat} {x y : Nat} (h : i < ks.length) (hc : cs[i]? = some (x, y)) : tilesM (ks.drop i) (cs.drop i) = (3, (x, y)) :: (tilesT ks[i] ++ tilesM (ks.drop (i + 1)) (cs.drop (i + 1))) := by
 obtain ⟨h2, h3⟩ := List.getElem?_eq_some_iff.1 hc
 rw [List.drop_eq_getElem_cons h, List.drop_eq_getElem_cons h2, tilesM_cons, h3]
theorem preE_at {cs : List Sp} {e : Sp} {x y : Nat} (hc : cs[0]? = some (x, y)) : preE cs e = x := by
 cases cs with
 | nil => simp at hc
 | cons c r =>
  simp at hc
  subst hc
  rfl
def cutAt (wb : World) (ca : Option Addr) (cs : List Sp) (i : Nat) : Prop := ∃ g x y, ca = some ⟨g, 0, none⟩ ∧ g < wb.heap.size ∧ cs[i]? = some (x, y) ∧ wb.cell? ⟨g, i * 2, none⟩ = some (.int .i64 (x : Int)) ∧ wb.cell? ⟨g, i * 2 + 1, none⟩ = some (.int .i64 (y : Int))
theorem Pb.cell {wb : World} {A B : Nat} {cs : Array Value} {t : TypeId} {W : World} (h : Pb wb A B cs t W) (i : Nat) : W.cell? ⟨B, i, none⟩ = cs[i]? := by
 have := h.lies
 simp [World.cell?, this]
set_option maxRecDepth 100000 in
set_option maxHeartbeats 4000000 in
theorem tellMulti_any (n Lp A N : Nat) (wb : World) (J Jx : List Tl → World → Prop) (hJ : ∀ pre W W', J pre W → Below W.heap.size W W' → J pre W') (hY : Yields (fun x => #[tlV x]) Lp A wb N J Jx)
  (h1 h2 b1 b2 e1 e2 : Nat) (ka ca : Option Addr) (kc cc : Nat) (ks : List Tr) (cs : List Sp) (hpos : 0 < ks.length) (hbig : ks.length ≤ 1000000) (hcut : ∀ i, i < ks.length → cutAt wb ca cs i)
  (hk : ∀ i, (h : i < ks.length) → kidTell Lp A N wb J Jx ka i ks[i]) (W : World) (hon : On wb A W) (pre : List Tl) (h0 : J pre W) (hN : pre.length + ((tilesM ks cs).length + 3) ≤ N) :
  CallsIn Fence.wide n Tryz.prog 125 #[.agg #[.int .i64 1, .int .i64 (h1 : Int), .int .i64 (h2 : Int), .int .i64 (b1 : Int), .int .i64 (b2 : Int), .slice ka ks.length kc, .slice ca ks.length cc, .int .i64 (e1 : Int), .int .i64 (e2 : Int)], .func (.yield Lp) #[] #[]] W
   (tellPost A wb J Jx pre ((2, (b1, preE cs (e1, e2))) :: (tilesM ks cs ++ [(4, (e1, e2)), (5, (e2, b2))])) W) := by
 obtain ⟨g0, x0, y0, rfl, hg0, hx0, d0, _⟩ := hcut 0 hpos
 have HPre : Hid (preE cs (e1, e2) = x0) := preE_at hx0
 rw [HPre.out]
 have HP := Lib.hid (Pb.new hon #[.int .i64 1, .int .i64 (h1 : Int), .int .i64 (h2 : Int), .int .i64 (b1 : Int), .int .i64 (b2 : Int), .slice ka ks.length kc, .slice (some ⟨g0, 0, none⟩) ks.length cc, .int .i64 (e1 : Int), .int .i64 (e2 : Int)] 31)
 have hK0 := hon.kept (below_new W (.cells #[.int .i64 1, .int .i64 (h1 : Int), .int .i64 (h2 : Int), .int .i64 (b1 : Int), .int .i64 (b2 : Int), .slice ka ks.length kc, .slice (some ⟨g0, 0, none⟩) ks.length cc, .int .i64 (e1 : Int), .int .i64 (e2 : Int)] 31))
 have hJX0 := hJ pre W _ h0 (below_new W (.cells #[.int .i64 1, .int .i64 (h1 : Int), .int .i64 (h2 : Int), .int .i64 (b1 : Int), .int .i64 (b2 : Int), .slice ka ks.length kc, .slice (some ⟨g0, 0, none⟩) ks.length cc, .int .i64 (e1 : Int), .int .i64 (e2 : Int)] 31))
 have hb2 := HP.out.on.below.alloc HP.out.on.base (.cells #[.int .i64 (b1 : Int), .int .i64 (e1 : Int)] 27)
 replace d0 := (hb2.cell (p := ⟨g0, 0 * 2, none⟩) hg0).trans d0
 simp only [Nat.zero_mul] at d0
 have hk2 := HP.out.on.kept (below_new (W.alloc (.cells #[.int .i64 1, .int .i64 (h1 : Int), .int .i64 (h2 : Int), .int .i64 (b1 : Int), .int .i64 (b2 : Int), .slice ka ks.length kc, .slice (some ⟨g0, 0, none⟩) ks.length cc, .int .i64 (e1 : Int), .int .i64 (e2 : Int)] 31)) (.cells #[.int .i64 (b1 : Int), .int .i64 (x0 : Int)] 27))
 have HP2 := Lib.hid (HP.out.keep hk2)
 have HK2 := Lib.hid (hK0.trans hk2)
 have hJX := hJ pre _ _ hJX0 (below_new (W.alloc (.cells #[.int .i64 1, .int .i64 (h1 : Int), .int .i64 (h2 : Int), .int .i64 (b1 : Int), .int .i64 (b2 : Int), .slice ka ks.length kc, .slice (some ⟨g0, 0, none⟩) ks.length cc, .int .i64 (e1 : Int), .int .i64 (e2 : Int)] 31)) (.cells #[.int .i64 (b1 : Int), .int .i64 (x0 : Int)] 27))
 obtain ⟨fn, tmps, assign, body, hy, hR⟩ := hY (n - 1) pre (2, (b1, x0)) _ hJX (by omega)
 have HR := Lib.hid hR
 replace hy : (Instr.yield Lp #[.agg #[.int .i64 2, .int .i64 (b1 : Int), .int .i64 (x0 : Int)]]).run Tryz.prog _ = .ok (.round Lp fn tmps assign body) _ := hy
 obtain ⟨full, hfull⟩ : ∃ full, full = (2, (b1, x0)) :: (tilesM ks cs ++ [(4, (e1, e2)), (5, (e2, b2))]) := ⟨_, rfl⟩
 rw [← hfull]
 have HF := Lib.hid hfull
 have HN : Hid (pre.length + full.length ≤ N) := by unfold Hid; rw [hfull]; simp only [List.length_cons, List.length_append, List.length_nil]; omega
 have HY := Lib.hid hY
 have HJ := Lib.hid hJ
 have HC := Lib.hid hcut
 have HKd := Lib.hid hk
 clear hx0 h0 hJ hY hon hcut hk hN hb2 hK0 hJX0 hk2 hJX hR hfull HP
 refine callsIn_of_wp Tryz.func125 rfl trivial ?_ rfl
 simp only [Tryz.ntmps125, List.size_toArray, List.length_cons, List.length_nil, Nat.reduceAdd, Nat.reduceSub, Array.replicate_succ, Array.replicate_zero, List.push_toArray, List.append_toArray, List.nil_append, List.cons_append]
 gi_wp2
 refine ⟨fun h => (by cases h), ?_⟩
 refine HR.out.mono ?_
 rintro e W3 (⟨rfl, hJ4, hk4⟩ | ⟨rfl, hJx4⟩)
 ·have HP3 := Lib.hid (HP2.out.keep hk4)
  have HK3 := Lib.hid (HK2.out.trans hk4)
  have HJ4 := Lib.hid hJ4
  have c5 : W3.cell? ⟨W.heap.size, 5, none⟩ = some (.slice ka ks.length kc) := by rw [HP3.out.cell]; rfl
  have c6 : W3.cell? ⟨W.heap.size, 6, none⟩ = some (.slice (some ⟨g0, 0, none⟩) ks.length cc) := by rw [HP3.out.cell]; rfl
  have hmi : ¬ (ks.length : Int) < (ks.length : Int) := Int.lt_irrefl _
  clear hk4 hy HR d0 hJ4
  gi_wp2
  gi_loopw [37] (fun i wr => ∃ (k : Nat) (acc : List Tl), i = .int .i64 (k : Int) ∧ k ≤ ks.length ∧ Hid (J (pre ++ acc) wr) ∧ Hid (full = acc ++ (tilesM (ks.drop k) (cs.drop k) ++ [(4, (e1, e2)), (5, (e2, b2))])) ∧ Hid (Pb wb A W.heap.size #[.int .i64 1, .int .i64 (h1 : Int), .int .i64 (h2 : Int), .int .i64 (b1 : Int), .int .i64 (b2 : Int), .slice ka ks.length kc, .slice (some ⟨g0, 0, none⟩) ks.length cc, .int .i64 (e1 : Int), .int .i64 (e2 : Int)] 31 wr) ∧ Hid (KeepK wb.heap.size A W wr))
   (fun i _ => ks.length - (intOf i).toNat)
  case atStart => exact ⟨0, [(2, (b1, x0))], rfl, Nat.zero_le _, HJ4.out, HF.out, HP3.out, HK3.out⟩
  case round =>
   obtain ⟨k, acc, rfl, hkl, HJr, HFr, HPr, HKr⟩ := hrel
   have c1 : wr.cell? ⟨W.heap.size, 4, none⟩ = some (.int .i64 (b2 : Int)) := by rw [HPr.out.cell]; rfl
   have c5 : wr.cell? ⟨W.heap.size, 5, none⟩ = some (.slice ka ks.length kc) := by rw [HPr.out.cell]; rfl
   have c6 : wr.cell? ⟨W.heap.size, 6, none⟩ = some (.slice (some ⟨g0, 0, none⟩) ks.length cc) := by rw [HPr.out.cell]; rfl
   have c7 : wr.cell? ⟨W.heap.size, 7, none⟩ = some (.int .i64 (e1 : Int)) := by rw [HPr.out.cell]; rfl
   have c8 : wr.cell? ⟨W.heap.size, 8, none⟩ = some (.int .i64 (e2 : Int)) := by rw [HPr.out.cell]; rfl
   by_cases hlt : k < ks.length
   ·obtain ⟨g1, x, y, hg1, hgl, hx, d0, d1⟩ := HC.out k hlt
    obtain rfl : g0 = g1 := by cases hg1; rfl
    replace d0 := (HPr.out.on.below.cell (p := ⟨g0, k * 2, none⟩) hgl).trans d0
    replace d1 := (HPr.out.on.below.cell (p := ⟨g0, k * 2 + 1, none⟩) hgl).trans d1
    have hdr := tilesM_drop hlt hx
    obtain ⟨g, ga, gn, gc, ga2, gn2, gc2, rfl, hg, h9, hcall⟩ := HKd.out k hlt
    have H9 := Lib.hid h9
    have HCl := Lib.hid hcall
    obtain ⟨q, hq⟩ : ∃ q, q = ks[k] := ⟨_, rfl⟩
    rw [← hq] at hdr H9 HCl
    have HF2 : Hid (full = acc ++ ((3, (x, y)) :: (tilesT q ++ (tilesM (ks.drop (k + 1)) (cs.drop (k + 1)) ++ [(4, (e1, e2)), (5, (e2, b2))])))) := by unfold Hid; rw [HFr.out, hdr]; simp only [List.cons_append, List.append_assoc]
    have hln := congrArg List.length HF2.out
    simp only [List.length_append, List.length_cons, List.length_nil] at hln
    have hNN := HN.out
    obtain ⟨fn2, tmps2, assign2, body2, hy2, hR2⟩ := HY.out (n - 1) (pre ++ acc) (3, (x, y)) _ HJr.out (by rw [List.length_append]; omega)
    have HR2 := Lib.hid hR2
    replace hy2 : (Instr.yield Lp #[.agg #[.int .i64 3, .int .i64 (x : Int), .int .i64 (y : Int)]]).run Tryz.prog _ = .ok (.round Lp fn2 tmps2 assign2 body2) _ := hy2
    have HLn : Hid ((pre ++ acc ++ [(3, (x, y))]).length + (tilesT q).length ≤ N) := by unfold Hid; simp only [List.length_append, List.length_cons, List.length_nil]; omega
    clear h9 hcall hq hdr hR2 hln hNN hg1 hx
    gi_wp2
    refine ⟨fun h => (by cases h), ?_⟩
    refine HR2.out.mono ?_
    rintro e W5 (⟨rfl, hJ5, hk5⟩ | ⟨rfl, hJx5⟩)
    ·have HP5 := Lib.hid (HPr.out.keep hk5)
     have HK5 := Lib.hid (HKr.out.trans hk5)
     have HC5 := Lib.hid (HCl.out (n - 1) (pre ++ acc ++ [(3, (x, y))]) W5 hJ5 HP5.out.on HLn.out)
     have c5' : W5.cell? ⟨W.heap.size, 5, none⟩ = some (.slice (some ⟨g, 0, none⟩) ks.length kc) := by rw [HP5.out.cell]; rfl
     have h9' := H9.out.block (HP5.out.on.below.block g hg)
     unfold nineAt at h9'
     obtain ⟨p0, p1, p2, p3, p4, p5, p6, p7, p8⟩ := h9'
     clear c1 c5 c6 c7 c8 d0 d1 hy2 HR2 hk5 hJ5 HCl H9
     gi_wp2
     refine ⟨trivial, fun h => (by cases h), ?_⟩
     with_reducible refine (HC5.out).mono ?_
     rintro e W6 (⟨rfl, hJ6, hk6⟩ | ⟨rfl, q', hq', hJx6⟩)
     ·have HP6 := Lib.hid (HP5.out.keep hk6)
      have HK6 := Lib.hid (HK5.out.trans hk6)
      have HJ6 : Hid (J (pre ++ (acc ++ (3, (x, y)) :: tilesT q)) W6) := by unfold Hid; simpa [List.append_assoc] using hJ6
      clear hk6 hJ6 c5' p0 p1 p2 p3 p4 p5 p6 p7 p8 HC5
      gi_wp2
      go_roundw
      case rel => exact ⟨k + 1, acc ++ (3, (x, y)) :: tilesT q, by go_num, by omega, HJ6.out, by unfold Hid; rw [HF2.out]; simp only [List.cons_append, List.append_assoc], HP6.out, HK6.out⟩
      case measure => simp [intOf]; omega
     ·have HE : Hid (tellPost A wb J Jx pre full W (.returned (.bool false)) W6) := by
       obtain ⟨r, hr⟩ := hq'
       refine tell_cut (a := acc ++ (3, (x, y)) :: q') (b := r ++ (tilesM (ks.drop (k + 1)) (cs.drop (k + 1)) ++ [(4, (e1, e2)), (5, (e2, b2))])) ?_ (by simpa [List.append_assoc] using hJx6)
       rw [HF2.out, ← hr]
       simp only [List.cons_append, List.append_assoc]
      clear hJx6 c5' p0 p1 p2 p3 p4 p5 p6 p7 p8 HC5
      gi_wp2
      go_ret
      exact HE.out
    ·have HE : Hid (tellPost A wb J Jx pre full W (.returned (.bool false)) W5) := tell_cut (a := acc ++ [(3, (x, y))]) (b := tilesT q ++ (tilesM (ks.drop (k + 1)) (cs.drop (k + 1)) ++ [(4, (e1, e2)), (5, (e2, b2))])) (by rw [HF2.out]; simp only [List.cons_append, List.append_assoc, List.nil_append]) (by simpa [List.append_assoc] using hJx5)
     clear hJx5 c1 c5 c6 c7 c8 d0 d1 hy2 HR2 HCl H9
     gi_wp2
     refine ⟨trivial, ?_⟩
     gi_wp2
     go_ret
     exact HE.out
   ·obtain rfl : k = ks.length := by omega
    have HF2 : Hid (full = acc ++ [(4, (e1, e2)), (5, (e2, b2))]) := by unfold Hid; rw [HFr.out, List.drop_length, tilesM_nil]; rfl
    have hln := congrArg List.length HF2.out
    simp only [List.length_append, List.length_cons, List.length_nil] at hln
    have hNN := HN.out
    have hk2 := HPr.out.on.kept (below_new wr (.cells #[.int .i64 (e2 : Int), .int .i64 (b2 : Int)] 27))
    have HP5 := Lib.hid (HPr.out.keep hk2)
    have HQ5 := Lib.hid (Pb.new HPr.out.on #[.int .i64 (e2 : Int), .int .i64 (b2 : Int)] 27)
    have HK5 := Lib.hid (HKr.out.trans hk2)
    have hJ5 := HJ.out _ _ _ HJr.out (below_new wr (.cells #[.int .i64 (e2 : Int), .int .i64 (b2 : Int)] 27))
    have c7' : (wr.alloc (.cells #[.int .i64 (e2 : Int), .int .i64 (b2 : Int)] 27)).cell? ⟨W.heap.size, 7, none⟩ = some (.int .i64 (e1 : Int)) := by rw [HP5.out.cell]; rfl
    have c8' : (wr.alloc (.cells #[.int .i64 (e2 : Int), .int .i64 (b2 : Int)] 27)).cell? ⟨W.heap.size, 8, none⟩ = some (.int .i64 (e2 : Int)) := by rw [HP5.out.cell]; rfl
    obtain ⟨fn2, tmps2, assign2, body2, hy2, hR2⟩ := HY.out (n - 1) (pre ++ acc) (4, (e1, e2)) _ hJ5 (by rw [List.length_append]; omega)
    have HR2 := Lib.hid hR2
    replace hy2 : (Instr.yield Lp #[.agg #[.int .i64 4, .int .i64 (e1 : Int), .int .i64 (e2 : Int)]]).run Tryz.prog _ = .ok (.round Lp fn2 tmps2 assign2 body2) _ := hy2
    have HLn : Hid ((pre ++ acc ++ [(4, (e1, e2))]).length < N) := by unfold Hid; simp only [List.length_append, List.length_cons, List.length_nil]; omega
    clear hR2 hln hNN hJ5 hk2
    gi_wp2
    refine ⟨fun h => (by cases h), ?_⟩
    refine HR2.out.mono ?_
    rintro e W5 (⟨rfl, hJ6, hk5⟩ | ⟨rfl, hJx5⟩)
    ·have HK6 := Lib.hid (HK5.out.trans hk5)
     have HQ6 := Lib.hid (HQ5.out.keep hk5)
     have q0 : W5.cell? ⟨wr.heap.size, 0, none⟩ = some (.int .i64 (e2 : Int)) := by rw [HQ6.out.cell]; rfl
     have q1 : W5.cell? ⟨wr.heap.size, 1, none⟩ = some (.int .i64 (b2 : Int)) := by rw [HQ6.out.cell]; rfl
     obtain ⟨fn3, tmps3, assign3, body3, hy3, hR3⟩ := HY.out (n - 1) _ (5, (e2, b2)) _ hJ6 HLn.out
     have HR3 := Lib.hid hR3
     replace hy3 : (Instr.yield Lp #[.agg #[.int .i64 5, .int .i64 (e2 : Int), .int .i64 (b2 : Int)]]).run Tryz.prog _ = .ok (.round Lp fn3 tmps3 assign3 body3) _ := hy3
     clear hR3 hk5 hJ6 hy2 HR2 c1 c5 c6 c7 c8 c7' c8'
     gi_wp2
     refine ⟨fun h => (by cases h), ?_⟩
     refine HR3.out.mono ?_
     rintro e W6 (⟨rfl, hJ7, hk6⟩ | ⟨rfl, hJx6⟩)
     ·have HE : Hid (tellPost A wb J Jx pre full W (.returned (.bool true)) W6) := .inl ⟨rfl, by rw [HF2.out]; simpa [List.append_assoc] using hJ7, HK6.out.trans hk6⟩
      clear hJ7 hk6
      gi_wp2
      go_ret
      exact HE.out
     ·have HE : Hid (tellPost A wb J Jx pre full W (.returned (.bool false)) W6) := tell_cut (a := full) (b := []) (by simp) (by rw [HF2.out]; simpa [List.append_assoc] using hJx6)
      clear hJx6
      gi_wp2
      go_ret
      exact HE.out
    ·have HE : Hid (tellPost A wb J Jx pre full W (.returned (.bool false)) W5) := tell_cut (a := acc ++ [(4, (e1, e2))]) (b := [(5, (e2, b2))]) (by rw [HF2.out]; simp only [List.cons_append, List.append_assoc, List.nil_append]) (by simpa [List.append_assoc] using hJx5)
     clear hJx5 c1 c5 c6 c7 c8 hy2 HR2
     gi_wp2
     refine ⟨fun _ h => (by cases h), ?_⟩
     gi_wp2
     go_ret
     exact HE.out
 ·have HE : Hid (tellPost A wb J Jx pre full W (.returned (.bool false)) W3) := tell_cut (a := [(2, (b1, x0))]) (by rw [HF.out]; rfl) hJx4
  clear hJx4
  gi_wp2
  go_ret
  exact HE.out
end Go.Proofs.YtedminjnnhlknaaGreatDoor
