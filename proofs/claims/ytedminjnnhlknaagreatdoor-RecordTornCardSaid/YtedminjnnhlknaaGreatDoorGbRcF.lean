/- Contracts of package record: a reader's kid. -/
import Derived.Test.YtedminjnnhlknaaGreatDoorGbRcD
import Derived.Deep.AppendLies
import Derived.Test.YtedminjnnhlknaaGreatDoorGbLt
import Derived.Test.YtedminjnnhlknaaGreatDoorGbRcJ
import Derived.Test.YtedminjnnhlknaaGreatDoorGbTiC
import Derived.Test.YtedminjnnhlknaaGreatDoorGbParH
namespace Go.Proofs.YtedminjnnhlknaaGreatDoor
open Go Go.RowKit
theorem below_new' (W : World) (o : Obj) : Below W.heap.size W (W.alloc o).drew := ((Below.refl _ _).alloc (Nat.le_refl _) _).drew
def treeOut (R b off cap : Nat) (l : List UInt8) (w : World) (q : Rs Tr) (u ev : Value) (w' : World) : Prop := match q with
 | .ok t r => ev = .nilIface ∧ treeAt (fun k => w.heap.size ≤ k) w' t u ∧ At w' R b off cap l r
 | .no x => ∃ (z : Nat) (r : List UInt8), ev = fltV (z : Int) (x : Int) ∧ At w' R b off cap l r
def recTreePost (R b off cap : Nat) (l : List UInt8) (q : Rs Tr) (w : World) (e : Ending) (w' : World) : Prop :=
 Gr R w w' ∧ ∃ (k0 a1 a2 a3 a4 : Int) (ka : Option Addr) (kn kc : Nat) (ca : Option Addr) (cn cc : Nat) (a7 a8 : Int) (ev : Value),
  e = .returned (.tuple #[.agg #[.int .i64 k0, .int .i64 a1, .int .i64 a2, .int .i64 a3, .int .i64 a4, .slice ka kn kc, .slice ca cn cc, .int .i64 a7, .int .i64 a8], ev]) ∧
  treeOut R b off cap l w q (.agg #[.int .i64 k0, .int .i64 a1, .int .i64 a2, .int .i64 a3, .int .i64 a4, .slice ka kn kc, .slice ca cn cc, .int .i64 a7, .int .i64 a8]) ev w'
structure K3 (R B : Nat) (row : Option Nat) (W W' : World) : Prop where
 os : W'.os = W.os
 tape : W'.tape = W.tape
 output : W'.output = W.output
 size : W.heap.size ≤ W'.heap.size
 block : ∀ k, k < W.heap.size → k ≠ R → k ≠ B → ¬ row = some k → W'.heap[k]? = W.heap[k]?
theorem K3.trans {R B : Nat} {row : Option Nat} {a b c : World} (h : K3 R B row a b) (k : K3 R B row b c) : K3 R B row a c :=
 ⟨k.os.trans h.os, k.tape.trans h.tape, k.output.trans h.output, Nat.le_trans h.size k.size, fun q hq h1 h2 h3 => (k.block q (Nat.lt_of_lt_of_le hq h.size) h1 h2 h3).trans (h.block q hq h1 h2 h3)⟩
theorem K3.gr {R B : Nat} {row : Option Nat} {W W' : World} (h : Gr R W W') : K3 R B row W W' :=
 ⟨h.os, h.tape, h.output, h.size, fun k hk h1 _ _ => h.block k hk (fun e => h1 (Option.some.inj e))⟩
theorem K3.grown {R B : Nat} {row : Option Nat} {W W' : World} (h : W.grownBy W' row) : K3 R B row W W' :=
 ⟨h.os, h.tape, h.output, h.size, fun k hk _ _ h3 => h.block k hk (fun e => h3 e.symm)⟩
theorem K3.below {R B : Nat} {row : Option Nat} {W W' : World} (h : Below W.heap.size W W') : K3 R B row W W' :=
 ⟨h.os, h.tape, h.output, h.size, fun k hk _ _ _ => h.block k hk⟩
theorem K3.set {R B : Nat} {row : Option Nat} (W : World) (p : Addr) (u : Value) (hp : p.block = B ∨ row = some p.block) : K3 R B row W (W.setCell p u) :=
 ⟨rfl, rfl, rfl, by rw [size_set]; exact Nat.le_refl _, fun k _ _ h2 h3 => Below.heap_setCell _ _ _ _ (fun e => by
  rcases hp with h | h
  ·exact h2 (e.trans h)
  ·exact h3 (by rw [h, e]))⟩
def rowS (base : Nat) (v : Value) (Z : Nat → Prop) (q : Nat) : Prop := base ≤ q ∧ ¬ v.ownBlock = some q ∧ Z q
def kidPost (R b off cap : Nat) (l : List UInt8) (B base : Nat) (Z : Nat → Prop) (kd h1 h2 b1 b2 : Int) (cs : Value) (e1 e2 : Int) (pv : Value) (ts : List Tr) (us : List Value) (q : Rs Tr) (w : World) (e : Ending) (w' : World) : Prop :=
 K3 R B pv.ownBlock w w' ∧ (∃ (ga : Option Addr) (gn gc : Nat), w'.heap[B]? = some (partO kd h1 h2 b1 b2 (.slice ga gn gc) cs e1 e2) ∧ (∀ q, (Value.slice ga gn gc).ownBlock = some q → pv.ownBlock = some q ∨ w.heap.size ≤ q) ∧
  match q with
  | .ok t r => e = .returned .nilIface ∧ At w' R b off cap l r ∧ ∃ u, w'.ownsRow base 31 9 (.slice ga gn gc) (us ++ [u]).length ((us ++ [u]).flatMap partCells) ∧ kidsAt (rowS base (.slice ga gn gc) Z) w' (ts ++ [t]) (us ++ [u])
  | .no x => ∃ (z : Nat) (r : List UInt8), e = .returned (fltV (z : Int) (x : Int)) ∧ At w' R b off cap l r)
theorem nine_new {w : World} {base g cap n : Nat} {e : TypeId} {xs : List Value} {z0 z1 z2 z3 z4 z5 z6 z7 z8 : Value} (h : w.ownsRow base e 9 (.slice (some ⟨g, 0, none⟩) (n + 1) cap) (n + 1) (xs ++ [z0, z1, z2, z3, z4, z5, z6, z7, z8])) (hl : xs.length = n * 9) :
  w.cell? ⟨g, n * 9, none⟩ = some z0 ∧ w.cell? ⟨g, n * 9 + 1, none⟩ = some z1 ∧ w.cell? ⟨g, n * 9 + 2, none⟩ = some z2 ∧ w.cell? ⟨g, n * 9 + 3, none⟩ = some z3 ∧ w.cell? ⟨g, n * 9 + 4, none⟩ = some z4 ∧ w.cell? ⟨g, n * 9 + 5, none⟩ = some z5 ∧ w.cell? ⟨g, n * 9 + 6, none⟩ = some z6 ∧ w.cell? ⟨g, n * 9 + 7, none⟩ = some z7 ∧ w.cell? ⟨g, n * 9 + 8, none⟩ = some z8 := by
 have key : ∀ j, j < 9 → w.cell? ⟨g, n * 9 + j, none⟩ = [z0, z1, z2, z3, z4, z5, z6, z7, z8][j]? := fun j hj => by
  rw [h.cellAt _ (by omega), List.getElem?_append_right (by omega), hl, Nat.add_sub_cancel_left]
 exact ⟨key 0 (by decide), key 1 (by decide), key 2 (by decide), key 3 (by decide), key 4 (by decide), key 5 (by decide), key 6 (by decide), key 7 (by decide), key 8 (by decide)⟩
theorem kid_app {Y w13 : World} {row : Option Nat} {g B base n : Nat} {o : Obj} (hg : Y.grownBy w13 row) (hor : row = some g ∨ g = Y.heap.size) (hob : ∀ q, row = some q → base ≤ q ∧ q < n) (hB : Y.heap[B]? = some o) (hBb : B < base) : g ≠ B ∧ w13.heap[B]? = some o := by
 have hlt := (Array.getElem?_eq_some_iff.1 hB).1
 refine ⟨?_, (hg.block B hlt (fun e => ?_)).trans hB⟩
 ·rcases hor with h | h
  ·have := hob g h; omega
  ·omega
 ·have := hob B e.symm; omega
theorem own_ln {W : World} {base size n pn pc : Nat} {pa : Option Addr} {ty : TypeId} {xs : List Value} (h : W.ownsRow base ty size (.slice pa pn pc) n xs) : pn = n := by
 rcases h.2 with ⟨e, h0⟩ | ⟨g, cap, cur, e, _⟩
 ·obtain ⟨_, rfl, _⟩ := Value.slice.inj e; exact h0.symm
 ·obtain ⟨_, rfl, _⟩ := Value.slice.inj e; rfl
theorem own_gr {R base size n : Nat} {W W' : World} {ty : TypeId} {v : Value} {xs : List Value} (h : W.ownsRow base ty size v n xs) (k : Gr R W W') (hR : R < base) : W'.ownsRow base ty size v n xs := by
 have hlt := h.lt
 refine ⟨h.1, ?_⟩
 rcases h.2 with h2 | ⟨g, cap, cur, rfl, hg, hh, r⟩
 ·exact .inl h2
 ·have hgo : (Value.slice (some ⟨g, 0, none⟩) n cap).ownBlock = some g := rfl
  exact .inr ⟨g, cap, cur, rfl, hg, (k.block g (hlt g hgo).2 (by intro e; have := Option.some.inj e; omega)).trans hh, r⟩
def st9 (W : World) (g n : Nat) (a0 a1 a2 a3 a4 a5 a6 a7 a8 : Value) : World :=
 ((((((((W.setCell ⟨g, n * 9, none⟩ a0).setCell ⟨g, n * 9 + 1, none⟩ a1).setCell ⟨g, n * 9 + 2, none⟩ a2).setCell ⟨g, n * 9 + 3, none⟩ a3).setCell ⟨g, n * 9 + 4, none⟩ a4).setCell ⟨g, n * 9 + 5, none⟩ a5).setCell ⟨g, n * 9 + 6, none⟩ a6).setCell ⟨g, n * 9 + 7, none⟩ a7).setCell ⟨g, n * 9 + 8, none⟩ a8
theorem st9_heap {W : World} {g n q : Nat} {a0 a1 a2 a3 a4 a5 a6 a7 a8 : Value} (h : q ≠ g) : (st9 W g n a0 a1 a2 a3 a4 a5 a6 a7 a8).heap[q]? = W.heap[q]? := by
 unfold st9
 rw [Below.heap_setCell _ _ _ _ h, Below.heap_setCell _ _ _ _ h, Below.heap_setCell _ _ _ _ h, Below.heap_setCell _ _ _ _ h, Below.heap_setCell _ _ _ _ h, Below.heap_setCell _ _ _ _ h, Below.heap_setCell _ _ _ _ h, Below.heap_setCell _ _ _ _ h, Below.heap_setCell _ _ _ _ h]
theorem st9_size {W : World} {g n : Nat} {a0 a1 a2 a3 a4 a5 a6 a7 a8 : Value} : (st9 W g n a0 a1 a2 a3 a4 a5 a6 a7 a8).heap.size = W.heap.size := by
 unfold st9
 simp only [size_set]
theorem st9_gr (W : World) (g n : Nat) (a0 a1 a2 a3 a4 a5 a6 a7 a8 : Value) : Gr g W (st9 W g n a0 a1 a2 a3 a4 a5 a6 a7 a8) :=
 ((((((((((Gr.refl g W).set _ _).set _ _).set _ _).set _ _).set _ _).set _ _).set _ _).set _ _).set _ _)
theorem st9_own {W : World} {base g cap n : Nat} {e : TypeId} {xs : List Value} {z0 z1 z2 z3 z4 z5 z6 z7 z8 a0 a1 a2 a3 a4 a5 a6 a7 a8 : Value} (h : W.ownsRow base e 9 (.slice (some ⟨g, 0, none⟩) (n + 1) cap) (n + 1) (xs ++ [z0, z1, z2, z3, z4, z5, z6, z7, z8])) (hl : xs.length = n * 9) :
  (st9 W g n a0 a1 a2 a3 a4 a5 a6 a7 a8).ownsRow base e 9 (.slice (some ⟨g, 0, none⟩) (n + 1) cap) (n + 1) (xs ++ [a0, a1, a2, a3, a4, a5, a6, a7, a8]) := by
 have h0 := (h.stored (n * 9) a0).1
 have h1 := (h0.stored (n * 9 + 1) a1).1
 have h2 := (h1.stored (n * 9 + 2) a2).1
 have h3 := (h2.stored (n * 9 + 3) a3).1
 have h4 := (h3.stored (n * 9 + 4) a4).1
 have h5 := (h4.stored (n * 9 + 5) a5).1
 have h6 := (h5.stored (n * 9 + 6) a6).1
 have h7 := (h6.stored (n * 9 + 7) a7).1
 have h8 := (h7.stored (n * 9 + 8) a8).1
 have key : ∀ (ys : List Value) (j : Nat) (u : Value), (xs ++ ys).set (n * 9 + j) u = xs ++ ys.set j u := fun ys j u => by
  rw [List.set_append_right _ _ (by omega), hl, Nat.add_sub_cancel_left]
 have key0 : ∀ (ys : List Value) (u : Value), (xs ++ ys).set (n * 9) u = xs ++ ys.set 0 u := fun ys u => key ys 0 u
 rw [key0, key, key, key, key, key, key, key, key] at h8
 exact h8
theorem kid_end0 {R b off cap : Nat} {l : List UInt8} {B base : Nat} {Z : Nat → Prop} {kd h1 h2 b1 b2 : Int} {cs : Value} {e1 e2 : Int} {pa : Option Addr} {pn pc : Nat} {ts : List Tr} {us : List Value} {q : Rs Tr} {w w1 X1 w13 W : World} {k0 a1 a2 a3 a4 : Int} {ka : Option Addr} {kn kc : Nat} {ca : Option Addr} {cn cc : Nat} {a7 a8 : Int} {ev : Value} {g13 cap13 : Nat} {o1 o2 : Obj} {z0 z1 z2 z3 z4 z5 z6 z7 z8 : Value}
  (hBb : B < base) (hRb : R < base) (hRB : R ≠ B) (hb : base ≤ w.heap.size) (hZ : ∀ q, w.heap.size ≤ q → Z q) (hB : w.heap[B]? = some (partO kd h1 h2 b1 b2 (.slice pa pn pc) cs e1 e2))
  (hrow : w.ownsRow base 31 9 (.slice pa pn pc) us.length (us.flatMap partCells)) (hk : kidsAt (rowS base (.slice pa pn pc) Z) w ts us) (hg : Gr R w w1) (hX : X1 = w1.alloc o1)
  (hout : treeOut R b off cap l w q (.agg #[.int .i64 k0, .int .i64 a1, .int .i64 a2, .int .i64 a3, .int .i64 a4, .slice ka kn kc, .slice ca cn cc, .int .i64 a7, .int .i64 a8]) ev w1)
  (hown : w13.ownsRow base 31 9 (.slice (some ⟨g13, 0, none⟩) (pn + 1) cap13) (pn + 1) (us.flatMap partCells ++ [z0, z1, z2, z3, z4, z5, z6, z7, z8])) (hgrow : (X1.alloc o2).drew.grownBy w13 (Value.slice pa pn pc).ownBlock)
  (hor : (Value.slice pa pn pc).ownBlock = some g13 ∨ g13 = (X1.alloc o2).drew.heap.size) (hN : pn = us.length)
  (hW : W = (st9 w13 g13 pn (.int .i64 k0) (.int .i64 a1) (.int .i64 a2) (.int .i64 a3) (.int .i64 a4) (.slice ka kn kc) (.slice ca cn cc) (.int .i64 a7) (.int .i64 a8)).setCell ⟨B, 5, none⟩ (.slice (some ⟨g13, 0, none⟩) (pn + 1) cap13) ∨
   W = st9 (w13.setCell ⟨B, 5, none⟩ (.slice (some ⟨g13, 0, none⟩) (pn + 1) cap13)) g13 pn (.int .i64 k0) (.int .i64 a1) (.int .i64 a2) (.int .i64 a3) (.int .i64 a4) (.slice ka kn kc) (.slice ca cn cc) (.int .i64 a7) (.int .i64 a8)) :
  kidPost R b off cap l B base Z kd h1 h2 b1 b2 cs e1 e2 (.slice pa pn pc) ts us q w (.returned ev) W := by
 have hob := hrow.lt
 have hBl := (Array.getElem?_eq_some_iff.1 hB).1
 have hYs : (X1.alloc o2).drew.heap.size = w1.heap.size + 2 := by rw [hX]; simp
 have hY : ∀ k, k < w1.heap.size → (X1.alloc o2).drew.heap[k]? = w1.heap[k]? := fun k hk => by
  show (X1.alloc o2).heap[k]? = _
  rw [Below.heap_alloc _ _ _ (by rw [hX]; simp; omega), hX, Below.heap_alloc _ _ _ hk]
 have hz1 : w.heap.size ≤ w1.heap.size := hg.size
 have hgb : base ≤ g13 := by
  rcases hor with h | h
  ·exact (hob _ h).1
  ·omega
 have hgB : g13 ≠ B := by omega
 have hBY : (X1.alloc o2).drew.heap[B]? = some (partO kd h1 h2 b1 b2 (.slice pa pn pc) cs e1 e2) := (hY B (by omega)).trans ((hg.block B hBl (by intro e; exact hRB (Option.some.inj e).symm)).trans hB)
 have hB13 := (kid_app hgrow hor hob hBY hBb).2
 have hlen : (us.flatMap partCells).length = pn * 9 := by rw [hrow.1, hN]
 have hfin : W.os = w13.os ∧ W.tape = w13.tape ∧ W.output = w13.output ∧ W.heap.size = w13.heap.size ∧ (∀ k, k ≠ g13 → k ≠ B → W.heap[k]? = w13.heap[k]?) ∧ W.heap[B]? = some (partO kd h1 h2 b1 b2 (.slice (some ⟨g13, 0, none⟩) (pn + 1) cap13) cs e1 e2) ∧
   W.ownsRow base 31 9 (.slice (some ⟨g13, 0, none⟩) (pn + 1) cap13) (pn + 1) (us.flatMap partCells ++ [.int .i64 k0, .int .i64 a1, .int .i64 a2, .int .i64 a3, .int .i64 a4, .slice ka kn kc, .slice ca cn cc, .int .i64 a7, .int .i64 a8]) := by
  unfold partO at hB13
  have hsB : (w13.setCell ⟨B, 5, none⟩ (.slice (some ⟨g13, 0, none⟩) (pn + 1) cap13)).heap[B]? = some (partO kd h1 h2 b1 b2 (.slice (some ⟨g13, 0, none⟩) (pn + 1) cap13) cs e1 e2) := row_set hB13
  rcases hW with h | h
  ·have g1 := st9_gr w13 g13 pn (.int .i64 k0) (.int .i64 a1) (.int .i64 a2) (.int .i64 a3) (.int .i64 a4) (.slice ka kn kc) (.slice ca cn cc) (.int .i64 a7) (.int .i64 a8)
   have g2 := st9_own (a0 := .int .i64 k0) (a1 := .int .i64 a1) (a2 := .int .i64 a2) (a3 := .int .i64 a3) (a4 := .int .i64 a4) (a5 := .slice ka kn kc) (a6 := .slice ca cn cc) (a7 := .int .i64 a7) (a8 := .int .i64 a8) hown hlen
   have g3 : (st9 w13 g13 pn (.int .i64 k0) (.int .i64 a1) (.int .i64 a2) (.int .i64 a3) (.int .i64 a4) (.slice ka kn kc) (.slice ca cn cc) (.int .i64 a7) (.int .i64 a8)).heap.size = w13.heap.size := st9_size
   have g4 : ∀ k, k ≠ g13 → (st9 w13 g13 pn (.int .i64 k0) (.int .i64 a1) (.int .i64 a2) (.int .i64 a3) (.int .i64 a4) (.slice ka kn kc) (.slice ca cn cc) (.int .i64 a7) (.int .i64 a8)).heap[k]? = w13.heap[k]? := fun k hk => st9_heap hk
   obtain ⟨X9, hX9⟩ : ∃ X9, X9 = st9 w13 g13 pn (.int .i64 k0) (.int .i64 a1) (.int .i64 a2) (.int .i64 a3) (.int .i64 a4) (.slice ka kn kc) (.slice ca cn cc) (.int .i64 a7) (.int .i64 a8) := ⟨_, rfl⟩
   rw [← hX9] at g1 g2 g3 g4 h
   clear hX9
   have gB9 := (g4 B (Ne.symm hgB)).trans hB13
   subst h
   exact ⟨g1.os, g1.tape, g1.output, by rw [size_set, g3], fun k hk1 hk2 => (Below.heap_setCell _ _ _ _ hk2).trans (g4 k hk1), row_set gB9, ownsRow_setCell_below (a := ⟨B, 5, none⟩) g2 hBb _⟩
  ·have ho2 := ownsRow_setCell_below (a := ⟨B, 5, none⟩) hown hBb (.slice (some ⟨g13, 0, none⟩) (pn + 1) cap13)
   have hb2 : ∀ k, k ≠ B → (w13.setCell ⟨B, 5, none⟩ (.slice (some ⟨g13, 0, none⟩) (pn + 1) cap13)).heap[k]? = w13.heap[k]? := fun k hk => Below.heap_setCell _ _ _ _ hk
   have hz2 : (w13.setCell ⟨B, 5, none⟩ (.slice (some ⟨g13, 0, none⟩) (pn + 1) cap13)).heap.size = w13.heap.size := size_set _ _ _
   have ho3 : (w13.setCell ⟨B, 5, none⟩ (.slice (some ⟨g13, 0, none⟩) (pn + 1) cap13)).os = w13.os ∧ (w13.setCell ⟨B, 5, none⟩ (.slice (some ⟨g13, 0, none⟩) (pn + 1) cap13)).tape = w13.tape ∧ (w13.setCell ⟨B, 5, none⟩ (.slice (some ⟨g13, 0, none⟩) (pn + 1) cap13)).output = w13.output := ⟨rfl, rfl, rfl⟩
   obtain ⟨X8, hX8⟩ : ∃ X8, X8 = w13.setCell ⟨B, 5, none⟩ (.slice (some ⟨g13, 0, none⟩) (pn + 1) cap13) := ⟨_, rfl⟩
   rw [← hX8] at ho2 hb2 hz2 ho3 hsB h
   clear hX8
   have g1 := st9_gr X8 g13 pn (.int .i64 k0) (.int .i64 a1) (.int .i64 a2) (.int .i64 a3) (.int .i64 a4) (.slice ka kn kc) (.slice ca cn cc) (.int .i64 a7) (.int .i64 a8)
   have g2 := st9_own (a0 := .int .i64 k0) (a1 := .int .i64 a1) (a2 := .int .i64 a2) (a3 := .int .i64 a3) (a4 := .int .i64 a4) (a5 := .slice ka kn kc) (a6 := .slice ca cn cc) (a7 := .int .i64 a7) (a8 := .int .i64 a8) ho2 hlen
   have g3 : (st9 X8 g13 pn (.int .i64 k0) (.int .i64 a1) (.int .i64 a2) (.int .i64 a3) (.int .i64 a4) (.slice ka kn kc) (.slice ca cn cc) (.int .i64 a7) (.int .i64 a8)).heap.size = X8.heap.size := st9_size
   have g4 : ∀ k, k ≠ g13 → (st9 X8 g13 pn (.int .i64 k0) (.int .i64 a1) (.int .i64 a2) (.int .i64 a3) (.int .i64 a4) (.slice ka kn kc) (.slice ca cn cc) (.int .i64 a7) (.int .i64 a8)).heap[k]? = X8.heap[k]? := fun k hk => st9_heap hk
   rw [← h] at g1 g2 g3 g4
   clear h
   exact ⟨g1.os.trans ho3.1, g1.tape.trans ho3.2.1, g1.output.trans ho3.2.2, g3.trans hz2, fun k hk1 hk2 => (g4 k hk1).trans (hb2 k hk2), (g4 B (Ne.symm hgB)).trans hsB, g2⟩
 obtain ⟨f1, f2, f3, f4, f5, f6, f7⟩ := hfin
 have hblk : ∀ k, k < w1.heap.size → k ≠ B → ¬ (Value.slice pa pn pc).ownBlock = some k → W.heap[k]? = w1.heap[k]? := fun k hk h1 h2 => by
  have hkg : k ≠ g13 := by
   rintro rfl
   rcases hor with h | h
   ·exact h2 h
   ·omega
  exact (f5 k hkg h1).trans ((hgrow.block k (by omega) (fun e => h2 e.symm)).trans (hY k hk))
 have hK3 : K3 R B (Value.slice pa pn pc).ownBlock w W :=
  ⟨f1.trans (hgrow.os.trans (by rw [hX]; exact hg.os)), f2.trans (hgrow.tape.trans (by rw [hX]; exact hg.tape)), f3.trans (hgrow.output.trans (by rw [hX]; exact hg.output)), by have := hgrow.size; omega,
   fun k hk h1 h2 h3 => (hblk k (by omega) h2 h3).trans (hg.block k hk (fun e => h1 (Option.some.inj e)))⟩
 refine ⟨hK3, some ⟨g13, 0, none⟩, pn + 1, cap13, f6, fun q hq => ?_, ?_⟩
 ·have hgq : g13 = q := Option.some.inj hq
  rcases hor with h | h
  ·exact .inl (by rw [h, hgq])
  ·exact .inr (by omega)
 ·have hRW : W.heap[R]? = w1.heap[R]? := by
   by_cases hRl : R < w1.heap.size
   ·exact hblk R hRl hRB (fun e => by have := hob _ e; omega)
   ·omega
  cases q with
  | no x =>
   obtain ⟨z, r, rfl, ha⟩ := hout
   exact ⟨z, r, rfl, ha.block hRW⟩
  | ok t r =>
   obtain ⟨rfl, ht, ha⟩ := hout
   refine ⟨rfl, ha.block hRW, .agg #[.int .i64 k0, .int .i64 a1, .int .i64 a2, .int .i64 a3, .int .i64 a4, .slice ka kn kc, .slice ca cn cc, .int .i64 a7, .int .i64 a8], ?_, ?_⟩
   ·rw [List.length_append, List.flatMap_append, ← hN]
    exact f7
   ·refine kidsAt_snoc (kidsAt.keep ?_ _ _ hk) (treeAt.keep ?_ _ _ ht)
    ·rintro k ⟨k1, k2, k3⟩ hkz
     refine ⟨(hK3.block k hkz (by omega) (by omega) k2), k1, fun e => ?_, k3⟩
     have hgq : g13 = k := Option.some.inj e
     rcases hor with h | h
     ·exact k2 (by rw [h, hgq])
     ·omega
    ·intro k hkw hkz
     have hkw' : w.heap.size ≤ k := hkw
     refine ⟨hblk k hkz (by omega) (fun e => by have := hob _ e; omega), by omega, fun e => ?_, hZ k hkw'⟩
     have hgq : g13 = k := Option.some.inj e
     rcases hor with h | h
     ·have := hob _ h; omega
     ·omega
theorem kid_end {R b off cap : Nat} {l : List UInt8} {B base : Nat} {Z : Nat → Prop} {kd h1 h2 b1 b2 : Int} {cs : Value} {e1 e2 : Int} {pa : Option Addr} {pn pc : Nat} {ts : List Tr} {us : List Value} {q : Rs Tr} {w w1 X1 w13 W : World} {k0 a1 a2 a3 a4 : Int} {ka : Option Addr} {kn kc : Nat} {ca : Option Addr} {cn cc : Nat} {a7 a8 : Int} {ev : Value} {g13 cap13 : Nat} {o1 o2 : Obj} {z0 z1 z2 z3 z4 z5 z6 z7 z8 : Value}
  (hBb : B < base) (hRb : R < base) (hRB : R ≠ B) (hb : base ≤ w.heap.size) (hZ : ∀ q, w.heap.size ≤ q → Z q) (hB : w.heap[B]? = some (partO kd h1 h2 b1 b2 (.slice pa pn pc) cs e1 e2))
  (hrow : w.ownsRow base 31 9 (.slice pa pn pc) us.length (us.flatMap partCells)) (hk : kidsAt (rowS base (.slice pa pn pc) Z) w ts us) (hg : Gr R w w1) (hX : X1 = w1.alloc o1)
  (hout : treeOut R b off cap l w q (.agg #[.int .i64 k0, .int .i64 a1, .int .i64 a2, .int .i64 a3, .int .i64 a4, .slice ka kn kc, .slice ca cn cc, .int .i64 a7, .int .i64 a8]) ev w1)
  (hown : w13.ownsRow base 31 9 (.slice (some ⟨g13, 0, none⟩) (pn + 1) cap13) (pn + 1) (us.flatMap partCells ++ [z0, z1, z2, z3, z4, z5, z6, z7, z8])) (hgrow : (X1.alloc o2).drew.grownBy w13 (Value.slice pa pn pc).ownBlock)
  (hor : (Value.slice pa pn pc).ownBlock = some g13 ∨ g13 = (X1.alloc o2).drew.heap.size) (hN : pn = us.length)
  (hW : W = (((((((((w13.setCell ⟨g13, pn * 9, none⟩ (.int .i64 k0)).setCell ⟨g13, pn * 9 + 1, none⟩ (.int .i64 a1)).setCell ⟨g13, pn * 9 + 2, none⟩ (.int .i64 a2)).setCell ⟨g13, pn * 9 + 3, none⟩ (.int .i64 a3)).setCell ⟨g13, pn * 9 + 4, none⟩ (.int .i64 a4)).setCell ⟨g13, pn * 9 + 5, none⟩ (.slice ka kn kc)).setCell ⟨g13, pn * 9 + 6, none⟩ (.slice ca cn cc)).setCell ⟨g13, pn * 9 + 7, none⟩ (.int .i64 a7)).setCell ⟨g13, pn * 9 + 8, none⟩ (.int .i64 a8)).setCell ⟨B, 5, none⟩ (.slice (some ⟨g13, 0, none⟩) (pn + 1) cap13) ∨
   W = ((((((((((w13.setCell ⟨B, 5, none⟩ (.slice (some ⟨g13, 0, none⟩) (pn + 1) cap13)).setCell ⟨g13, pn * 9, none⟩ (.int .i64 k0)).setCell ⟨g13, pn * 9 + 1, none⟩ (.int .i64 a1)).setCell ⟨g13, pn * 9 + 2, none⟩ (.int .i64 a2)).setCell ⟨g13, pn * 9 + 3, none⟩ (.int .i64 a3)).setCell ⟨g13, pn * 9 + 4, none⟩ (.int .i64 a4)).setCell ⟨g13, pn * 9 + 5, none⟩ (.slice ka kn kc)).setCell ⟨g13, pn * 9 + 6, none⟩ (.slice ca cn cc)).setCell ⟨g13, pn * 9 + 7, none⟩ (.int .i64 a7)).setCell ⟨g13, pn * 9 + 8, none⟩ (.int .i64 a8))) :
  kidPost R b off cap l B base Z kd h1 h2 b1 b2 cs e1 e2 (.slice pa pn pc) ts us q w (.returned ev) W :=
 kid_end0 hBb hRb hRB hb hZ hB hrow hk hg hX hout hown hgrow hor hN (by unfold st9; exact hW)
set_option maxRecDepth 100000 in
set_option maxHeartbeats 8000000 in
theorem recKid_any (w0 : World) (R b off cap : Nat) (l : List UInt8) (F : Nat → List UInt8 → Rs Tr) (D : Int) (hD : 0 ≤ D ∧ D ≤ 100) (f : Nat) (s : List UInt8)
  (ih : ∀ w, Below w0.heap.size w0 w → At w R b off cap l s → Calls Tryz.prog 45 #[.pointer (some ⟨R, 0, none⟩), .int .i64 (f : Int), .int .i64 (D + 1)] w (recTreePost R b off cap l (F f s) w))
  (B base : Nat) (Z : Nat → Prop) (kd h1 h2 b1 b2 : Int) (cs : Value) (e1 e2 : Int) (pa : Option Addr) (pn pc : Nat) (ts : List Tr) (us : List Value) (w : World) (hw : Below w0.heap.size w0 w) (hat : At w R b off cap l s)
  (hB : w.heap[B]? = some (partO kd h1 h2 b1 b2 (.slice pa pn pc) cs e1 e2)) (hBb : B < base) (hRb : R < base) (hRB : R ≠ B) (hb : base ≤ w.heap.size) (hZ : ∀ q, w.heap.size ≤ q → Z q)
  (hrow : w.ownsRow base 31 9 (.slice pa pn pc) us.length (us.flatMap partCells)) (hk : kidsAt (rowS base (.slice pa pn pc) Z) w ts us) (hul : us.length ≤ 1000) :
  Calls Tryz.prog 73 #[.pointer (some ⟨R, 0, none⟩), .pointer (some ⟨B, 0, none⟩), .int .i64 (f : Int), .int .i64 D] w
   (kidPost R b off cap l B base Z kd h1 h2 b1 b2 cs e1 e2 (.slice pa pn pc) ts us (F f s) w) := by
 obtain ⟨i0, hi0, hz0, hz1, hz2⟩ := info_parts Tryz.infoPt
 have HI0 := Lib.hid hi0
 have HZ0 := Lib.hid hz0
 have HZ1 := Lib.hid hz1
 have HZ2 := Lib.hid hz2
 have HIh := Lib.hid (ih w hw hat)
 unfold recTreePost at HIh
 obtain ⟨q, hq⟩ : ∃ q, q = F f s := ⟨_, rfl⟩
 rw [← hq] at HIh ⊢
 have HBb := Lib.hid hB
 have HRow := Lib.hid hrow
 have HKd := Lib.hid hk
 have HZ := Lib.hid hZ
 obtain ⟨N, hN⟩ : ∃ N, N = us.length := ⟨_, rfl⟩
 obtain rfl : pn = N := (own_ln hrow).trans hN.symm
 have HN := Lib.hid hN
 clear hi0 hz0 hz1 hz2 ih hq hB hrow hk hw hat hZ hN
 go_enter Tryz.func73, Tryz.ntmps73
 go_wp2_with fail
 with_reducible refine HIh.out.mono ?_
 rintro e w1 ⟨hg, k0, a1, a2, a3, a4, ka, kn, kc, ca, cn, cc, a7, a8, ev, rfl, hout⟩
 have HG := Lib.hid hg
 have HOut := Lib.hid hout
 clear hg hout HIh
 have hBl : B < w.heap.size := (Array.getElem?_eq_some_iff.1 HBb.out).1
 obtain ⟨X1, hX1⟩ : ∃ X1, X1 = w1.alloc (.cells #[.int .i64 k0, .int .i64 a1, .int .i64 a2, .int .i64 a3, .int .i64 a4, .slice ka kn kc, .slice ca cn cc, .int .i64 a7, .int .i64 a8] 31) := ⟨_, rfl⟩
 have HGX : Hid (Gr R w X1) := by rw [hX1]; exact gr_alloc HG.out _
 have HOX : Hid (X1.heap[w1.heap.size]? = some (.cells #[.int .i64 k0, .int .i64 a1, .int .i64 a2, .int .i64 a3, .int .i64 a4, .slice ka kn kc, .slice ca cn cc, .int .i64 a7, .int .i64 a8] 31 (0, 0))) := by rw [hX1]; exact heap_alloc_new w1 _
 have HBX : Hid (X1.heap[B]? = some (partO kd h1 h2 b1 b2 (.slice pa pn pc) cs e1 e2)) := (HGX.out.block B hBl (by intro e; exact hRB (Option.some.inj e).symm)).trans HBb.out
 have hzX : w.heap.size ≤ w1.heap.size := HG.out.size
 have hzX1 : X1.heap.size = w1.heap.size + 1 := by rw [hX1]; simp
 have HOb : Hid (∀ q, (Value.slice pa pn pc).ownBlock = some q → base ≤ q ∧ q < w.heap.size) := HRow.out.lt
 have HRX : Hid (X1.ownsRow base 31 9 (.slice pa pn pc) pn (us.flatMap partCells)) := by
  have h := own_gr HRow.out HGX.out (show R < base by omega)
  rw [← HN.out] at h
  exact h
 go_upto_region 2 with fail
 rw [← hX1]
 have HGr := Lib.hid HG.out
 have HRb := Lib.hid hRb
 have HBbb := Lib.hid hBb
 have HX1 := Lib.hid hX1
 have HzX1 := Lib.hid hzX1
 clear hX1 HG hzX1
 obtain ⟨_, _, _, _, _, p5, _, _, _⟩ := part_cells HBX.out
 obtain ⟨_, _, _, _, _, q5, _, _, _⟩ := part_frozen HBX.out
 have hl := HOX.out
 have c0 : X1.cell? ⟨w1.heap.size, 0, none⟩ = some (.int .i64 k0) := by simp [World.cell?, hl]
 have c1 : X1.cell? ⟨w1.heap.size, 1, none⟩ = some (.int .i64 a1) := by simp [World.cell?, hl]
 have c2 : X1.cell? ⟨w1.heap.size, 2, none⟩ = some (.int .i64 a2) := by simp [World.cell?, hl]
 have c3 : X1.cell? ⟨w1.heap.size, 3, none⟩ = some (.int .i64 a3) := by simp [World.cell?, hl]
 have c4 : X1.cell? ⟨w1.heap.size, 4, none⟩ = some (.int .i64 a4) := by simp [World.cell?, hl]
 have c5 : X1.cell? ⟨w1.heap.size, 5, none⟩ = some (.slice ka kn kc) := by simp [World.cell?, hl]
 have c6 : X1.cell? ⟨w1.heap.size, 6, none⟩ = some (.slice ca cn cc) := by simp [World.cell?, hl]
 have c7 : X1.cell? ⟨w1.heap.size, 7, none⟩ = some (.int .i64 a7) := by simp [World.cell?, hl]
 have c8 : X1.cell? ⟨w1.heap.size, 8, none⟩ = some (.int .i64 a8) := by simp [World.cell?, hl]
 have hle1 : pn + 1 ≤ maxLen := by have := HN.out; unfold maxLen; omega
 have hle2 : (pn + 1) * 104 ≤ 140737488355328 := by have := HN.out; omega
 have HRY : Hid ((X1.alloc (.cells #[.int .i64 0, .int .i64 0, .int .i64 0, .int .i64 0, .int .i64 0, .slice none 0 0, .slice none 0 0, .int .i64 0, .int .i64 0] 31)).drew.ownsRow base 31 9 (.slice pa pn pc) pn (us.flatMap partCells)) := ownsRow_below HRX.out (((Below.refl _ _).alloc (Nat.le_refl _) _).drew)
 have HBY : Hid ((X1.alloc (.cells #[.int .i64 0, .int .i64 0, .int .i64 0, .int .i64 0, .int .i64 0, .slice none 0 0, .slice none 0 0, .int .i64 0, .int .i64 0] 31)).drew.heap[B]? = some (partO kd h1 h2 b1 b2 (.slice pa pn pc) cs e1 e2)) := (Below.heap_alloc X1 _ B (Array.getElem?_eq_some_iff.1 HBX.out).1).trans HBX.out
 have hKl : w1.heap.size < X1.heap.size := by have := HzX1.out; omega
 have hKn : w1.heap.size ≠ X1.heap.size := by omega
 have hBX : B < X1.heap.size := by omega
 have hBn : B ≠ X1.heap.size := by omega
 have hpd : (pn : Int) < (pn : Int) + 1 := by omega
 clear hl
 have hS0 : (fun W' : World => W'.cell? ⟨B, 5, none⟩ = some (.slice pa pn pc) ∧ W'.cell? ⟨w1.heap.size, 0, none⟩ = some (.int .i64 k0) ∧ W'.cell? ⟨w1.heap.size, 1, none⟩ = some (.int .i64 a1) ∧ W'.cell? ⟨w1.heap.size, 2, none⟩ = some (.int .i64 a2) ∧ W'.cell? ⟨w1.heap.size, 3, none⟩ = some (.int .i64 a3) ∧ W'.cell? ⟨w1.heap.size, 4, none⟩ = some (.int .i64 a4) ∧ W'.cell? ⟨w1.heap.size, 5, none⟩ = some (.slice ka kn kc) ∧ W'.cell? ⟨w1.heap.size, 6, none⟩ = some (.slice ca cn cc) ∧ W'.cell? ⟨w1.heap.size, 7, none⟩ = some (.int .i64 a7) ∧ W'.cell? ⟨w1.heap.size, 8, none⟩ = some (.int .i64 a8)) X1.drew := ⟨p5, c0, c1, c2, c3, c4, c5, c6, c7, c8⟩
 have hS1 : (fun W' : World => W'.cell? ⟨B, 5, none⟩ = some (.slice pa pn pc) ∧ W'.cell? ⟨w1.heap.size, 0, none⟩ = some (.int .i64 k0) ∧ W'.cell? ⟨w1.heap.size, 1, none⟩ = some (.int .i64 a1) ∧ W'.cell? ⟨w1.heap.size, 2, none⟩ = some (.int .i64 a2) ∧ W'.cell? ⟨w1.heap.size, 3, none⟩ = some (.int .i64 a3) ∧ W'.cell? ⟨w1.heap.size, 4, none⟩ = some (.int .i64 a4) ∧ W'.cell? ⟨w1.heap.size, 5, none⟩ = some (.slice ka kn kc) ∧ W'.cell? ⟨w1.heap.size, 6, none⟩ = some (.slice ca cn cc) ∧ W'.cell? ⟨w1.heap.size, 7, none⟩ = some (.int .i64 a7) ∧ W'.cell? ⟨w1.heap.size, 8, none⟩ = some (.int .i64 a8)) (X1.alloc (.cells #[.int .i64 0, .int .i64 0, .int .i64 0, .int .i64 0, .int .i64 0, .slice none 0 0, .slice none 0 0, .int .i64 0, .int .i64 0] 31)).drew :=
  have far : ∀ (b' k' : Nat) (v' : Value), b' < X1.heap.size → X1.cell? ⟨b', k', none⟩ = some v' → (X1.alloc (.cells #[.int .i64 0, .int .i64 0, .int .i64 0, .int .i64 0, .int .i64 0, .slice none 0 0, .slice none 0 0, .int .i64 0, .int .i64 0] 31)).drew.cell? ⟨b', k', none⟩ = some v' := fun b' k' v' hb' h => ((below_new' _ _).cell (p := ⟨b', k', none⟩) hb').trans h
  ⟨far _ _ _ hBX p5, far _ _ _ hKl c0, far _ _ _ hKl c1, far _ _ _ hKl c2, far _ _ _ hKl c3, far _ _ _ hKl c4, far _ _ _ hKl c5, far _ _ _ hKl c6, far _ _ _ hKl c7, far _ _ _ hKl c8⟩
 refine wp_region_T (fun W' => W'.cell? ⟨B, 5, none⟩ = some (.slice pa pn pc) ∧ W'.cell? ⟨w1.heap.size, 0, none⟩ = some (.int .i64 k0) ∧ W'.cell? ⟨w1.heap.size, 1, none⟩ = some (.int .i64 a1) ∧ W'.cell? ⟨w1.heap.size, 2, none⟩ = some (.int .i64 a2) ∧ W'.cell? ⟨w1.heap.size, 3, none⟩ = some (.int .i64 a3) ∧ W'.cell? ⟨w1.heap.size, 4, none⟩ = some (.int .i64 a4) ∧ W'.cell? ⟨w1.heap.size, 5, none⟩ = some (.slice ka kn kc) ∧ W'.cell? ⟨w1.heap.size, 6, none⟩ = some (.slice ca cn cc) ∧ W'.cell? ⟨w1.heap.size, 7, none⟩ = some (.int .i64 a7) ∧ W'.cell? ⟨w1.heap.size, 8, none⟩ = some (.int .i64 a8)) (fun n => decide (n ≤ 6)) (by kernel_rfl) ?_
 refine wpAnyT_takeE (i := 0) rfl (by kernel_rfl) (by kernel_rfl) (by kernel_rfl) (by kernel_rfl) (fun _ _ _ _ h => h) rfl hS0 ?_
 apply Exists.intro
 refine ⟨fun w hSw => ?_, ?_⟩
 ·obtain ⟨_, _, _, _, _, _, _, _, _, _⟩ := hSw
  go_simp
  try rfl
 try simp only [Act.put]
 try simp only [List.setIfInBounds_toArray]
 try simp only [List.set_cons_succ]
 try simp only [List.set_cons_zero]
 refine wpAnyT_takeE (i := 1) rfl (by kernel_rfl) (by kernel_rfl) (by kernel_rfl) (by kernel_rfl) (fun _ _ _ _ h => h) rfl hS0 ?_
 apply Exists.intro
 refine ⟨fun w hSw => ?_, ?_⟩
 ·obtain ⟨_, _, _, _, _, _, _, _, _, _⟩ := hSw
  go_simp
  try rfl
 try simp only [Act.put]
 try simp only [List.setIfInBounds_toArray]
 try simp only [List.set_cons_succ]
 try simp only [List.set_cons_zero]
 refine wpAnyT_takeE (i := 2) rfl (by kernel_rfl) (by kernel_rfl) (by kernel_rfl) (by kernel_rfl) (fun _ _ _ _ h => h) rfl hS0 ?_
 apply Exists.intro
 refine ⟨fun w hSw => ?_, ?_⟩
 ·obtain ⟨_, _, _, _, _, _, _, _, _, _⟩ := hSw
  go_simp
  try rfl
 try simp only [Act.put]
 try simp only [List.setIfInBounds_toArray]
 try simp only [List.set_cons_succ]
 try simp only [List.set_cons_zero]
 refine wpAnyT_takeE (i := 3) rfl (by kernel_rfl) (by kernel_rfl) (by kernel_rfl) (by kernel_rfl) (fun _ _ _ _ h => h) rfl hS0 ?_
 apply Exists.intro
 refine ⟨fun w hSw => ?_, ?_⟩
 ·obtain ⟨_, _, _, _, _, _, _, _, _, _⟩ := hSw
  go_simp
  try rfl
 try simp only [Act.put]
 try simp only [List.setIfInBounds_toArray]
 try simp only [List.set_cons_succ]
 try simp only [List.set_cons_zero]
 refine wpAnyT_takeE (i := 4) rfl (by kernel_rfl) (by kernel_rfl) (by kernel_rfl) (by kernel_rfl) (fun _ _ _ _ h => h) rfl hS0 ?_
 apply Exists.intro
 refine ⟨fun w hSw => ?_, ?_⟩
 ·obtain ⟨_, _, _, _, _, _, _, _, _, _⟩ := hSw
  go_simp
  try rfl
 try simp only [Act.put]
 try simp only [List.setIfInBounds_toArray]
 try simp only [List.set_cons_succ]
 try simp only [List.set_cons_zero]
 refine wpAnyT_takeE (i := 5) rfl (by kernel_rfl) (by kernel_rfl) (by kernel_rfl) (by kernel_rfl) (fun _ _ _ _ h => h) rfl hS0 ?_
 apply Exists.intro
 refine ⟨fun w hSw => ?_, ?_⟩
 ·obtain ⟨_, _, _, _, _, _, _, _, _, _⟩ := hSw
  go_simp
  try rfl
 try simp only [Act.put]
 try simp only [List.setIfInBounds_toArray]
 try simp only [List.set_cons_succ]
 try simp only [List.set_cons_zero]
 refine wpAnyT_one (i := 6) (by kernel_rfl) rfl (fun K hK => ?_)
 go_simp
 refine hK.out _ _ (fun _ => hS1) ?_
 clear hK K
 refine wpAnyT_rest _ _ _ _ (by kernel_rfl) ?_
 clear hS0 hS1 c0 c1 c2 c3 c4 c5 c6 c7 c8 p5 q5
 refine wpAny_one (i := 7) (by kernel_rfl) rfl (fun K hK => ?_)
 refine step_append_lies _ (by exact rfl) _ _ 28 (by exact rfl) base 31 i0 (.agg #[.int .i64 0, .int .i64 0, .int .i64 0, .int .i64 0, .int .i64 0, .slice none 0 0, .slice none 0 0, .int .i64 0, .int .i64 0]) 9 104 Tryz.underlying28 HI0.out HZ0.out HZ1.out HZ2.out rfl (by decide) _ pn (us.flatMap partCells) (by exact rfl) HRY.out ⟨X1.heap.size, 0, none⟩ 1 1 [.int .i64 0, .int .i64 0, .int .i64 0, .int .i64 0, .int .i64 0, .slice none 0 0, .slice none 0 0, .int .i64 0, .int .i64 0] (by exact rfl) rfl (World.news_of_block (cs := #[.int .i64 0, .int .i64 0, .int .i64 0, .int .i64 0, .int .i64 0, .slice none 0 0, .slice none 0 0, .int .i64 0, .int .i64 0]) (heap_alloc_new X1 _)) (by simp [Value.oneCell']) (by decide) hle1 hle2 (by have := HzX1.out; simp; omega) _ rfl ?_
 intro g13 cap13 w13 hown13 hgrow13 hor13 hlt13
 obtain ⟨gB, gz⟩ := kid_app hgrow13 hor13 HOb.out HBY.out hBb
 have Hown := Lib.hid hown13
 have Hgrow := Lib.hid hgrow13
 have Hor := Lib.hid hor13
 obtain ⟨y0, y1, y2, y3, y4, y5, y6, y7, y8⟩ := nine_new hown13 HRX.out.1
 have v0 := hown13.frozenAt (pn * 9)
 have v1 := hown13.frozenAt (pn * 9 + 1)
 have v2 := hown13.frozenAt (pn * 9 + 2)
 have v3 := hown13.frozenAt (pn * 9 + 3)
 have v4 := hown13.frozenAt (pn * 9 + 4)
 have v5 := hown13.frozenAt (pn * 9 + 5)
 have v6 := hown13.frozenAt (pn * 9 + 6)
 have v7 := hown13.frozenAt (pn * 9 + 7)
 have v8 := hown13.frozenAt (pn * 9 + 8)
 have r5 := (part_cells gz).2.2.2.2.2.1
 have s5 := (part_frozen gz).2.2.2.2.2.1
 clear hown13 hgrow13 hor13 gz
 refine hK.out _ _ ?_
 clear hK K
 try simp only [Act.put]
 try simp only [List.setIfInBounds_toArray]
 try simp only [List.set_cons_succ]
 try simp only [List.set_cons_zero]
 have hpd : (pn : Int) < (pn : Int) + 1 := by omega
 refine wpAny_takeE (i := 10) rfl (by kernel_rfl) (by kernel_rfl) (by kernel_rfl) (fun _ _ _ _ h => h) rfl ?_
 apply Exists.intro
 refine ⟨fun w => ?_, ?_⟩
 ·go_simp
  try rfl
 try simp only [Act.put]
 try simp only [List.setIfInBounds_toArray]
 try simp only [List.set_cons_succ]
 try simp only [List.set_cons_zero]
 refine wpAny_takeE (i := 11) rfl (by kernel_rfl) (by kernel_rfl) (by kernel_rfl) (fun _ _ _ _ h => h) rfl ?_
 apply Exists.intro
 refine ⟨fun w => ?_, ?_⟩
 ·go_simp
  try rfl
 try simp only [Act.put]
 try simp only [List.setIfInBounds_toArray]
 try simp only [List.set_cons_succ]
 try simp only [List.set_cons_zero]
 refine wpAny_takeE (i := 8) rfl (by kernel_rfl) (by kernel_rfl) (by kernel_rfl) (fun _ _ _ _ h => h) rfl ?_
 apply Exists.intro
 refine ⟨fun w => ?_, ?_⟩
 ·go_simp
  try rfl
 try simp only [Act.put]
 try simp only [List.setIfInBounds_toArray]
 try simp only [List.set_cons_succ]
 try simp only [List.set_cons_zero]
 refine wpAny_two (i := 9) (j := 12) (by kernel_rfl) rfl rfl (fun K hK => ?_) (fun K hK => ?_)
 ·go_simp
  refine hK.out _ _ ?_
  clear hK K
  refine wpAny_one (i := 12) (by kernel_rfl) rfl (fun K hK => ?_)
  go_simp
  refine hK.out _ _ ?_
  clear hK K
  refine wpAny_done (by kernel_rfl) ?_ _
  clear y0 y1 y2 y3 y4 y5 y6 y7 y8 v0 v1 v2 v3 v4 v5 v6 v7 v8 r5 s5
  go_wp2_with fail
  go_ret
  exact kid_end HBbb.out HRb.out hRB hb HZ.out HBb.out HRow.out HKd.out HGr.out HX1.out HOut.out Hown.out Hgrow.out Hor.out HN.out (.inl rfl)
 ·go_simp
  refine hK.out _ _ ?_
  clear hK K
  refine wpAny_one (i := 9) (by kernel_rfl) rfl (fun K hK => ?_)
  go_simp
  refine hK.out _ _ ?_
  clear hK K
  refine wpAny_done (by kernel_rfl) ?_ _
  clear y0 y1 y2 y3 y4 y5 y6 y7 y8 v0 v1 v2 v3 v4 v5 v6 v7 v8 r5 s5
  go_wp2_with fail
  go_ret
  exact kid_end HBbb.out HRb.out hRB hb HZ.out HBb.out HRow.out HKd.out HGr.out HX1.out HOut.out Hown.out Hgrow.out Hor.out HN.out (.inr rfl)
def mulPost (R b off cap : Nat) (l : List UInt8) (B : Nat) (kd h1 h2 b1 b2 : Int) (q : Rs (List Tr × List Sp × Sp)) (w : World) (e : Ending) (w' : World) : Prop :=
 K3 R B none w w' ∧ ∃ (ga : Option Addr) (gn gc : Nat) (ca : Option Addr) (cn cc : Nat) (x1 x2 : Int), w'.heap[B]? = some (partO kd h1 h2 b1 b2 (.slice ga gn gc) (.slice ca cn cc) x1 x2) ∧
  match q with
  | .ok v r => e = .returned .nilIface ∧ At w' R b off cap l r ∧ x1 = (v.2.2.1 : Int) ∧ x2 = (v.2.2.2 : Int) ∧ ∃ us, ownS (fun k => w.heap.size ≤ k) w' 31 9 (.slice ga gn gc) us.length (us.flatMap partCells) ∧
    ownS (fun k => w.heap.size ≤ k) w' 27 2 (.slice ca cn cc) v.2.1.length (spCells v.2.1) ∧ kidsAt (fun k => w.heap.size ≤ k) w' v.1 us
  | .no x => ∃ (z : Nat) (r : List UInt8), e = .returned (fltV (z : Int) (x : Int)) ∧ At w' R b off cap l r
theorem mulP_at (F : Nat → List UInt8 → Rs Tr) (a : Nat) (s : List UInt8) : mulP F a s = (atP 1000 s).bind fun n s => (rkidsP F n a s).bind fun q s => (apP q.2.2 s).bind fun e s => .ok (q.1, q.2.1, e) s := by
 unfold mulP atP
 cases numP s with
 | no e => rfl
 | ok n r =>
  show (if 1000 < n then _ else _) = (if 1000 < n then _ else _ : Rs Nat).bind _
  by_cases hn : 1000 < n
  ·rw [if_pos hn, if_pos hn]; rfl
  ·rw [if_neg hn, if_neg hn]; rfl
theorem atP_ok {m : Nat} {s r : List UInt8} {n : Nat} (h : atP m s = .ok n r) : n ≤ m ∧ n + r.length * 1099511627776 ≤ s.length * 1099511627776 := by
 unfold atP at h
 obtain ⟨n', r', h1, h⟩ := bind_ok h
 have b1 := numP_bud h1
 by_cases hn : m < n'
 ·rw [if_pos hn] at h; cases h
 ·rw [if_neg hn] at h
  cases h
  exact ⟨by omega, b1.1⟩
theorem apart_ap (f : Nat) (s : List UInt8) : apartP f s = apP f s := rfl
theorem K3.into {R B : Nat} {row : Option Nat} {w W W' : World} (h : K3 R B none w W) (k : K3 R B row W W') (hr : ∀ q, row = some q → w.heap.size ≤ q) : K3 R B none w W' :=
 ⟨k.os.trans h.os, k.tape.trans h.tape, k.output.trans h.output, Nat.le_trans h.size k.size, fun q hq h1 h2 h3 => (k.block q (Nat.lt_of_lt_of_le hq h.size) h1 h2 (fun e => by have := hr q e; omega)).trans (h.block q hq h1 h2 h3)⟩
theorem K3.base {R B : Nat} {w0 w W : World} (h : K3 R B none w W) (hb : Below w0.heap.size w0 w) (hR : w0.heap.size ≤ R) (hB : w0.heap.size ≤ B) : Below w0.heap.size w0 W :=
 ⟨h.os.trans hb.os, h.tape.trans hb.tape, h.output.trans hb.output, Nat.le_trans hb.size h.size, fun k hk => (h.block k (Nat.lt_of_lt_of_le hk hb.size) (by omega) (by omega) (by intro e; cases e)).trans (hb.block k hk)⟩
theorem own_k3 {R B base size n : Nat} {row : Option Nat} {W W' : World} {ty : TypeId} {v : Value} {xs : List Value} (h : W.ownsRow base ty size v n xs) (k : K3 R B row W W') (hR : R < base) (hB : B < base) (hr : ∀ q, v.ownBlock = some q → ¬ row = some q) : W'.ownsRow base ty size v n xs := by
 have hlt := h.lt
 refine ⟨h.1, ?_⟩
 rcases h.2 with h2 | ⟨g, cap, cur, rfl, hg, hh, r⟩
 ·exact .inl h2
 ·have hgo : (Value.slice (some ⟨g, 0, none⟩) n cap).ownBlock = some g := rfl
  exact .inr ⟨g, cap, cur, rfl, hg, (k.block g (hlt g hgo).2 (by omega) (by omega) (hr g hgo)).trans hh, r⟩
theorem K3.bl {R B : Nat} {row : Option Nat} {W W' W'' : World} (h : K3 R B row W W') (k : Below W'.heap.size W' W'') : K3 R B row W W'' := h.trans (K3.below k)
theorem span_to (a b : Int) (W : World) : (Instr.field 27 (.agg #[.int .i64 a, .int .i64 b]) 1).run Tryz.prog W = .ok (.int .i64 b) W := by kernel_rfl
theorem part_set78 {W : World} {B : Nat} {kd h1 h2 b1 b2 e f u1 u2 : Int} {ks cs : Value} (h : W.heap[B]? = some (partO kd h1 h2 b1 b2 ks cs e f)) : ((W.setCell ⟨B, 7, none⟩ (.int .i64 u1)).setCell ⟨B, 8, none⟩ (.int .i64 u2)).heap[B]? = some (partO kd h1 h2 b1 b2 ks cs u1 u2) := by
 unfold partO at h ⊢
 exact row_set (row_set h)
structure LpS (w : World) (R B b off cap : Nat) (l : List UInt8) (kd h1 h2 b1 b2 : Int) (ts : List Tr) (cs : List Sp) (us : List Value) (pv cv : Value) (s1 : List UInt8) (W : World) : Prop where
 hB : W.heap[B]? = some (partO kd h1 h2 b1 b2 pv cv 0 0)
 row : W.ownsRow w.heap.size 31 9 pv us.length (us.flatMap partCells)
 cut : W.ownsRow w.heap.size 27 2 cv cs.length (spCells cs)
 dj : ∀ q, pv.ownBlock = some q → ¬ cv.ownBlock = some q
 kids : kidsAt (rowS w.heap.size pv (fun q => ¬ cv.ownBlock = some q)) W ts us
 rd : At W R b off cap l s1
 k3 : K3 R B none w W
section
variable {w : World} {R B b off cap : Nat} {l : List UInt8} {kd h1 h2 b1 b2 : Int} {ts : List Tr} {cs : List Sp} {us : List Value} {pv cv : Value} {s1 s2 : List UInt8} {W W' : World}
theorem LpS.gr (h : LpS w R B b off cap l kd h1 h2 b1 b2 ts cs us pv cv s1 W) (hR : R < w.heap.size) (hB : B < w.heap.size) (hRB : R ≠ B) (g : Gr R W W') (ha : At W' R b off cap l s2) : LpS w R B b off cap l kd h1 h2 b1 b2 ts cs us pv cv s2 W' :=
  have hk : K3 R B none W W' := K3.gr g
  have hz := h.k3.size
  ⟨(g.block B (by omega) (by intro e; exact hRB (Option.some.inj e).symm)).trans h.hB, own_k3 h.row hk hR hB (fun _ _ e => by cases e), own_k3 h.cut hk hR hB (fun _ _ e => by cases e), h.dj,
    kidsAt.keep (fun q hq hz => ⟨hk.block q hz (by have := hq.1; omega) (by have := hq.1; omega) (by intro e; cases e), hq⟩) _ _ h.kids, ha, h.k3.trans hk⟩
theorem LpS.below (h : LpS w R B b off cap l kd h1 h2 b1 b2 ts cs us pv cv s1 W) (hB : B < w.heap.size) (g : Below W.heap.size W W') : LpS w R B b off cap l kd h1 h2 b1 b2 ts cs us pv cv s1 W' :=
 have hz := h.k3.size
 ⟨(g.block B (by omega)).trans h.hB, ownsRow_below h.row g, ownsRow_below h.cut g, h.dj, kidsAt.keep (fun q hq hz => ⟨g.block q hz, hq⟩) _ _ h.kids, h.rd.below g, h.k3.bl g⟩
theorem LpS.cutapp {g13 cap13 n : Nat} {w13 : World} {c : Sp} (h : LpS w R B b off cap l kd h1 h2 b1 b2 ts cs us pv cv s1 W) (hR : R < w.heap.size) (hB : B < w.heap.size) (hRB : R ≠ B) (hn : n = cs.length)
  (hown : w13.ownsRow w.heap.size 27 2 (.slice (some ⟨g13, 0, none⟩) (n + 1) cap13) (n + 1) (spCells cs ++ [.int .i64 (c.1 : Int), .int .i64 (c.2 : Int)])) (hgrow : W.grownBy w13 cv.ownBlock) (hor : cv.ownBlock = some g13 ∨ g13 = W.heap.size) :
  LpS w R B b off cap l kd h1 h2 b1 b2 ts (cs ++ [c]) us pv (.slice (some ⟨g13, 0, none⟩) (n + 1) cap13) s1 (w13.setCell ⟨B, 6, none⟩ (.slice (some ⟨g13, 0, none⟩) (n + 1) cap13)) := by
 have hz := h.k3.size
 have hob := h.cut.lt
 have hkb := h.row.lt
 have hgb : w.heap.size ≤ g13 := by
  rcases hor with e | e
  ·exact (hob _ e).1
  ·omega
 have hkr : ∀ q, q < W.heap.size → ¬ cv.ownBlock = some q → w13.heap[q]? = W.heap[q]? := fun q hq hc => hgrow.block q hq (fun e => hc e.symm)
 have hB13 : w13.heap[B]? = some (partO kd h1 h2 b1 b2 pv cv 0 0) := (hkr B (by omega) (fun e => by have := hob _ e; omega)).trans h.hB
 have hdj : ∀ q, pv.ownBlock = some q → ¬ (Value.slice (some ⟨g13, 0, none⟩) (n + 1) cap13).ownBlock = some q := fun q hq e => by
  have hgq : g13 = q := Option.some.inj e
  rcases hor with e2 | e2
  ·exact h.dj q hq (by rw [e2, hgq])
  ·have := hkb q hq; omega
 refine ⟨?_, ?_, ?_, hdj, ?_, h.rd.block ?_, ?_⟩
 ·unfold partO at hB13
  exact row_set hB13
 ·exact ownsRow_setCell_below (a := ⟨B, 6, none⟩) (own_k3 (R := R) (B := B) h.row (K3.grown hgrow) hR hB (fun q hq e => h.dj q hq e)) hB _
 ·have := ownsRow_setCell_below (a := ⟨B, 6, none⟩) hown hB (.slice (some ⟨g13, 0, none⟩) (n + 1) cap13)
  rw [spCells_snoc, List.length_append]
  rw [hn] at this ⊢
  exact this
 ·refine kidsAt.keep (fun q hq hqz => ⟨?_, hq.1, hq.2.1, fun e => ?_⟩) _ _ h.kids
  ·rw [Below.heap_setCell _ _ _ _ (show q ≠ B by have := hq.1; omega)]
   exact hkr q hqz hq.2.2
  ·have hgq : g13 = q := Option.some.inj e
   rcases hor with e2 | e2
   ·exact hq.2.2 (by rw [e2, hgq])
   ·omega
 ·rw [Below.heap_setCell _ _ _ _ hRB]
  exact hkr R (by omega) (fun e => by have := hob _ e; omega)
 ·exact (h.k3.into (K3.grown (R := R) (B := B) hgrow) (fun q hq => (hob q hq).1)).trans (K3.set _ _ _ (.inl rfl))
theorem LpS.kid {q : Rs Tr} {t : Tr} {r : List UInt8} {e : Ending} (h : LpS w R B b off cap l kd h1 h2 b1 b2 ts cs us pv cv s1 W) (hR : R < w.heap.size) (hB : B < w.heap.size) (hq : q = .ok t r)
  (hp : kidPost R b off cap l B w.heap.size (fun q => ¬ cv.ownBlock = some q) kd h1 h2 b1 b2 cv 0 0 pv ts us q W e W') :
  e = .returned .nilIface ∧ ∃ (ga : Option Addr) (gn gc : Nat) (u : Value), LpS w R B b off cap l kd h1 h2 b1 b2 (ts ++ [t]) cs (us ++ [u]) (.slice ga gn gc) cv r W' := by
 subst hq
 obtain ⟨k3, ga, gn, gc, hb, hd, he, ha, u, hrow, hkids⟩ := hp
 have hz := h.k3.size
 have hob := h.row.lt
 have hcb := h.cut.lt
 refine ⟨he, ga, gn, gc, u, hb, hrow, own_k3 h.cut k3 hR hB (fun q hq e => h.dj q e hq), fun q hq e => ?_, hkids, ha, h.k3.into k3 (fun q hq => (hob q hq).1)⟩
 rcases hd q hq with h3 | h3
 ·exact h.dj q h3 e
 ·have := hcb q e; omega
end
set_option maxRecDepth 100000 in
set_option maxHeartbeats 16000000 in
theorem recMul_any (w0 : World) (R b off cap : Nat) (l : List UInt8) (hS : Src w0 R b off cap l) (F : Nat → List UInt8 → Rs Tr) (D : Int) (hD : 0 ≤ D ∧ D ≤ 100)
  (hF : ∀ a s t r, F a s = .ok t r → t.bd.2 + r.length * 1099511627776 ≤ a + s.length * 1099511627776)
  (ih : ∀ (f : Nat) (s : List UInt8) (w : World), f + s.length * 1099511627776 ≤ 576460752303423488 → Below w0.heap.size w0 w → At w R b off cap l s → Calls Tryz.prog 45 #[.pointer (some ⟨R, 0, none⟩), .int .i64 (f : Int), .int .i64 (D + 1)] w (recTreePost R b off cap l (F f s) w))
  (a : Nat) (s : List UInt8) (hbud : a + s.length * 1099511627776 ≤ 576460752303423488) (B : Nat) (kd h1 h2 b2 : Int) (w : World) (hw : Below w0.heap.size w0 w) (hat : At w R b off cap l s)
  (hB : w.heap[B]? = some (partO kd h1 h2 (a : Int) b2 (.slice none 0 0) (.slice none 0 0) 0 0)) (hRB : R ≠ B) (hB0 : w0.heap.size ≤ B) :
  Calls Tryz.prog 72 #[.pointer (some ⟨R, 0, none⟩), .pointer (some ⟨B, 0, none⟩), .int .i64 D] w (mulPost R b off cap l B kd h1 h2 (a : Int) b2 (mulP F a s) w) := by
 have hRl := hat.lt
 have hBl : B < w.heap.size := (Array.getElem?_eq_some_iff.1 hB).1
 have hR0 := hS.base
 have HAt := Lib.hid (recAtMost_any w0 R b off cap l hS s w hw hat 1000 (by decide))
 have HAp := Lib.hid (fun (s' : List UInt8) (W : World) (hW : K3 R B none w W) hat' (f : Nat) (hf : f + s'.length * 1099511627776 ≤ 576460752303423488) => recApart_any w0 R b off cap l hS s' W (hW.base hw hR0 hB0) hat' f (by omega))
 have HIh := Lib.hid ih
 have HKd := Lib.hid (fun (f : Nat) (s' : List UInt8) (hf : f + s'.length * 1099511627776 ≤ 576460752303423488) (Z : Nat → Prop) (cs : Value) (pa : Option Addr) (pn pc : Nat) (ts : List Tr) (us : List Value) W (hW : K3 R B none w W) hat' hB' hZ hrow hk hul =>
  recKid_any w0 R b off cap l F D hD f s' (fun W' => ih f s' W' hf) B w.heap.size Z kd h1 h2 (a : Int) b2 cs 0 0 pa pn pc ts us W (hW.base hw hR0 hB0) hat' hB' hBl hRl hRB hW.size hZ hrow hk hul)
 have HBB := Lib.hid hB
 have HQ : Hid (mulP F a s = (atP 1000 s).bind fun n s => (rkidsP F n a s).bind fun q s => (apP q.2.2 s).bind fun e s => .ok (q.1, q.2.1, e) s) := mulP_at F a s
 obtain ⟨q, hq⟩ : ∃ q, q = mulP F a s := ⟨_, rfl⟩
 rw [← hq] at HQ ⊢
 have h1000 : ((1000 : Nat) : Int) = 1000 := rfl
 rw [h1000] at HAt
 have HFb := Lib.hid hF
 clear hq hB hat hw hS ih h1000 hF
 unfold numPost at HAt
 cases hn : atP 1000 s with
 | no x =>
  rw [hn] at HAt HQ
  have HQ3 : Hid (q = .no x) := HQ.out
  clear HQ hn HAp HIh HKd
  go_enter Tryz.func72, Tryz.ntmps72
  go_wp2_with fail
  with_reducible refine HAt.out.mono ?_
  rintro e w1 ⟨hg, z, r, rfl, ha⟩
  have HG := Lib.hid hg
  have HA := Lib.hid ha
  clear hg ha
  unfold fltV
  go_wp2_with fail
  go_ret
  unfold mulPost
  rw [HQ3.out]
  exact ⟨K3.gr HG.out, none, 0, 0, none, 0, 0, 0, 0, (HG.out.block B hBl (by intro e; exact hRB (Option.some.inj e).symm)).trans HBB.out, z, r, rfl, HA.out⟩
 | ok n r1 =>
  have hnb := atP_ok hn
  rw [hn] at HAt HQ
  have HQ2 : Hid (q = (rkidsP F n a r1).bind fun q s => (apP q.2.2 s).bind fun e s => .ok (q.1, q.2.1, e) s) := HQ.out
  have hb1 : a + r1.length * 1099511627776 ≤ 576460752303423488 := Nat.le_trans (Nat.add_le_add_left (Nat.le_trans (Nat.le_add_left _ _) hnb.2) _) hbud
  obtain ⟨hn1, _⟩ := hnb
  have Hbud := Lib.hid hb1
  clear HQ hn hbud hb1
  obtain ⟨i0, hi0, hz0, hz1, hz2⟩ := info_parts Tryz.infoSp
  have HI0 := Lib.hid hi0
  have HZ0 := Lib.hid hz0
  have HZ1 := Lib.hid hz1
  have HZ2 := Lib.hid hz2
  clear hi0 hz0 hz1 hz2
  go_enter Tryz.func72, Tryz.ntmps72
  go_wp2_with fail
  with_reducible refine HAt.out.mono ?_
  rintro e w1 ⟨hg, rfl, ha⟩
  have HA1 := Lib.hid ha
  have HK1 : Hid (K3 R B none w w1) := K3.gr hg
  have HB1 : Hid (w1.heap[B]? = some (partO kd h1 h2 (a : Int) b2 (.slice none 0 0) (.slice none 0 0) 0 0)) := (hg.block B hBl (by intro e; exact hRB (Option.some.inj e).symm)).trans HBB.out
  obtain ⟨_, _, _, p3, _, _, _, _, _⟩ := part_cells HB1.out
  clear hg ha HAt
  go_wp2_with fail
  go_loopg [9, 10, 11, 12, 27] n (fun gg x9 x10 x11 x12 x27 wr => ∃ (k a1 : Nat) (s1 : List UInt8) (ts : List Tr) (cs : List Sp) (us : List Value) (pa : Option Addr) (pn pc : Nat) (ca : Option Addr) (cn cc : Nat), k ≤ n ∧ gg = n - k ∧ x9 = .int .i64 (a1 : Int) ∧ x27 = .int .i64 (k : Int) ∧
   Hid (us.length = k ∧ cs.length = k) ∧ Hid (LpS w R B b off cap l kd h1 h2 (a : Int) b2 ts cs us (.slice pa pn pc) (.slice ca cn cc) s1 wr) ∧
   Hid (rkidsP F n a r1 = aheadK ts cs (rkidsP F (n - k) a1 s1)) ∧ Hid (a1 + s1.length * 1099511627776 ≤ 576460752303423488))
  case atStart =>
   exact ⟨0, a, r1, [], [], [], none, 0, 0, none, 0, 0, Nat.zero_le _, rfl, rfl, rfl, ⟨rfl, rfl⟩, ⟨HB1.out, World.ownsRow_nil _ _ _ _, World.ownsRow_nil _ _ _ _, (fun q h => by cases h), kidsAt_nil _ _, HA1.out, HK1.out⟩, (aheadK_nil _).symm, Hbud.out⟩
  case round =>
   obtain ⟨k, a1, s1, ts, cs, us, pa, pn, pc, ca, cn, cc, hk, rfl, rfl, rfl, HLn, HL, HQr, Hbr⟩ := hrel
   have hzr : w.heap.size ≤ wr.heap.size := HL.out.k3.size
   by_cases hlt : k < n
   ·have hlt' : (k : Int) < (n : Int) := by omega
    have hb1 := Hbr.out
    have HAc := Lib.hid (HAp.out s1 wr HL.out.k3 HL.out.rd a1 hb1)
    rw [apart_ap] at HAc
    unfold spanPost at HAc
    have HRest : Hid (rkidsP F (n - k) a1 s1 = rkidsP F (n - (k + 1) + 1) a1 s1) := by unfold Hid; rw [show n - k = n - (k + 1) + 1 by omega]
    cases hap : apP a1 s1 with
    | no x =>
     rw [hap] at HAc
     have HQ3 : Hid (q = .no x) := by
      unfold Hid
      rw [HQ2.out, HQr.out, HRest.out, aheadK_no1 ts cs _ a1 s1 hap]
      rfl
     clear hap
     go_wp2_with fail
     with_reducible refine HAc.out.mono ?_
     rintro e w2 ⟨hg, z, r, u1, u2, rfl, ha⟩
     have HG := Lib.hid hg
     have HA := Lib.hid ha
     clear hg ha
     unfold fltV
     go_wp2_with fail
     go_ret
     unfold mulPost
     rw [HQ3.out]
     have hL2 := (HL.out.gr hRl hBl hRB HG.out HA.out).below hBl (below_new w2 (.cells #[.int .i64 u1, .int .i64 u2] 27))
     exact ⟨hL2.k3, pa, pn, pc, ca, cn, cc, 0, 0, hL2.hB, z, r, rfl, hL2.rd⟩
    | ok c r2 =>
     rw [hap] at HAc
     have hcb := apP_bud hap
     obtain ⟨c1, c2⟩ := c
     simp only at hcb HAc
     have Hap := Lib.hid hap
     clear hap
     go_wp2_with fail
     with_reducible refine HAc.out.mono ?_
     rintro e w2 ⟨hg, rfl, ha⟩
     have hL2 := HL.out.gr hRl hBl hRB hg ha
     have hLX := hL2.below hBl (below_new w2 (.cells #[.int .i64 (c1 : Int), .int .i64 (c2 : Int)] 27))
     have hcn : cn = cs.length := own_ln hL2.cut
     have hzw := hg.size
     have hBw2 : w2.heap.size ≠ B := by omega
     clear hg ha HAc hL2
     go_upto_region 10 with fail
     obtain ⟨X2, hX2⟩ : ∃ X2, X2 = w2.alloc (.cells #[.int .i64 (c1 : Int), .int .i64 (c2 : Int)] 27) := ⟨_, rfl⟩
     have HOX : Hid (X2.heap[w2.heap.size]? = some (.cells #[.int .i64 (c1 : Int), .int .i64 (c2 : Int)] 27 (0, 0))) := by rw [hX2]; exact heap_alloc_new w2 _
     have HzX : Hid (X2.heap.size = w2.heap.size + 1) := by unfold Hid; rw [hX2]; simp
     rw [← hX2] at hLX ⊢
     have HLX := Lib.hid hLX
     have Hcn := Lib.hid hcn
     clear hX2 hLX hcn
     have p6 := (part_cells HLX.out.hB).2.2.2.2.2.2.1
     obtain ⟨d0, d1⟩ := cells_of_heap2 HOX.out
     have hKl : w2.heap.size < X2.heap.size := by have := HzX.out; omega
     have hBX : B < X2.heap.size := (Array.getElem?_eq_some_iff.1 HLX.out.hB).1
     have hS0 : (fun W' : World => W'.cell? ⟨B, 6, none⟩ = some (.slice ca cn cc) ∧ W'.cell? ⟨w2.heap.size, 0, none⟩ = some (.int .i64 (c1 : Int)) ∧ W'.cell? ⟨w2.heap.size, 1, none⟩ = some (.int .i64 (c2 : Int))) X2.drew := ⟨p6, d0, d1⟩
     have hS1 : (fun W' : World => W'.cell? ⟨B, 6, none⟩ = some (.slice ca cn cc) ∧ W'.cell? ⟨w2.heap.size, 0, none⟩ = some (.int .i64 (c1 : Int)) ∧ W'.cell? ⟨w2.heap.size, 1, none⟩ = some (.int .i64 (c2 : Int))) (X2.alloc (.cells #[.int .i64 (c1 : Int), .int .i64 (c2 : Int)] 27)).drew :=
      have far : ∀ (b' k' : Nat) (v' : Value), b' < X2.heap.size → X2.cell? ⟨b', k', none⟩ = some v' → (X2.alloc (.cells #[.int .i64 (c1 : Int), .int .i64 (c2 : Int)] 27)).drew.cell? ⟨b', k', none⟩ = some v' := fun b' k' v' hb' h => ((below_new' _ _).cell (p := ⟨b', k', none⟩) hb').trans h
      ⟨far _ _ _ hBX p6, far _ _ _ hKl d0, far _ _ _ hKl d1⟩
     have hLY := HLX.out.below hBl (below_new' X2 (.cells #[.int .i64 (c1 : Int), .int .i64 (c2 : Int)] 27))
     have hRY := hLY.cut
     rw [← Hcn.out] at hRY
     have HLY := Lib.hid hLY
     have HRY := Lib.hid hRY
     have hle1 : cn + 1 ≤ maxLen := by have := Hcn.out; have := HLn.out.2; unfold maxLen; omega
     have hle2 : (cn + 1) * 16 ≤ 140737488355328 := by have := Hcn.out; have := HLn.out.2; omega
     clear hLY hRY
     refine wp_region_last (fun W' => W'.cell? ⟨B, 6, none⟩ = some (.slice ca cn cc) ∧ W'.cell? ⟨w2.heap.size, 0, none⟩ = some (.int .i64 (c1 : Int)) ∧ W'.cell? ⟨w2.heap.size, 1, none⟩ = some (.int .i64 (c2 : Int))) 10 (by kernel_rfl) ?_
     refine wpAnyN_takeE (i := 0) rfl (by kernel_rfl) (by kernel_rfl) (by kernel_rfl) (by kernel_rfl) (fun _ _ _ _ h => h) rfl hS0 ?_
     apply Exists.intro
     refine ⟨fun w hSw => ?_, ?_⟩
     ·obtain ⟨_, _, _⟩ := hSw
      go_simp
      try rfl
     try simp only [Act.put]
     try simp only [List.setIfInBounds_toArray]
     try simp only [List.set_cons_succ]
     try simp only [List.set_cons_zero]
     refine wpAnyN_takeE (i := 1) rfl (by kernel_rfl) (by kernel_rfl) (by kernel_rfl) (by kernel_rfl) (fun _ _ _ _ h => h) rfl hS0 ?_
     apply Exists.intro
     refine ⟨fun w hSw => ?_, ?_⟩
     ·obtain ⟨_, _, _⟩ := hSw
      go_simp
      try rfl
     try simp only [Act.put]
     try simp only [List.setIfInBounds_toArray]
     try simp only [List.set_cons_succ]
     try simp only [List.set_cons_zero]
     refine wpAnyN_takeE (i := 2) rfl (by kernel_rfl) (by kernel_rfl) (by kernel_rfl) (by kernel_rfl) (fun _ _ _ _ h => h) rfl hS0 ?_
     apply Exists.intro
     refine ⟨fun w hSw => ?_, ?_⟩
     ·obtain ⟨_, _, _⟩ := hSw
      go_simp
      try rfl
     try simp only [Act.put]
     try simp only [List.setIfInBounds_toArray]
     try simp only [List.set_cons_succ]
     try simp only [List.set_cons_zero]
     refine wpAnyN_takeE (i := 3) rfl (by kernel_rfl) (by kernel_rfl) (by kernel_rfl) (by kernel_rfl) (fun _ _ _ _ h => h) rfl hS0 ?_
     apply Exists.intro
     refine ⟨fun w hSw => ?_, ?_⟩
     ·obtain ⟨_, _, _⟩ := hSw
      go_simp
      try rfl
     try simp only [Act.put]
     try simp only [List.setIfInBounds_toArray]
     try simp only [List.set_cons_succ]
     try simp only [List.set_cons_zero]
     refine wpAnyN_takeE (i := 4) rfl (by kernel_rfl) (by kernel_rfl) (by kernel_rfl) (by kernel_rfl) (fun _ _ _ _ h => h) rfl hS0 ?_
     apply Exists.intro
     refine ⟨fun w hSw => ?_, ?_⟩
     ·obtain ⟨_, _, _⟩ := hSw
      go_simp
      try rfl
     try simp only [Act.put]
     try simp only [List.setIfInBounds_toArray]
     try simp only [List.set_cons_succ]
     try simp only [List.set_cons_zero]
     refine wpAnyN_takeE (i := 5) rfl (by kernel_rfl) (by kernel_rfl) (by kernel_rfl) (by kernel_rfl) (fun _ _ _ _ h => h) rfl hS0 ?_
     apply Exists.intro
     refine ⟨fun w hSw => ?_, ?_⟩
     ·obtain ⟨_, _, _⟩ := hSw
      go_simp
      try rfl
     try simp only [Act.put]
     try simp only [List.setIfInBounds_toArray]
     try simp only [List.set_cons_succ]
     try simp only [List.set_cons_zero]
     refine wpAnyN_one (i := 6) (by kernel_rfl) rfl (fun K hK => ?_)
     go_simp
     refine hK.out _ _ (fun _ => hS1) ?_
     clear hK K
     clear hS0 d0 d1 p6
     refine wpAnyN_one (i := 7) (by kernel_rfl) rfl (fun K hK => ?_)
     refine step_append_lies _ (by exact rfl) _ _ 29 (by exact rfl) w.heap.size 27 i0 (.agg #[.int .i64 0, .int .i64 0]) 2 16 Tryz.underlying29 HI0.out HZ0.out HZ1.out HZ2.out rfl (by decide) _ cn (spCells cs) (by exact rfl) HRY.out ⟨X2.heap.size, 0, none⟩ 1 1 [.int .i64 (c1 : Int), .int .i64 (c2 : Int)] (by exact rfl) rfl (World.news_of_block (cs := #[.int .i64 (c1 : Int), .int .i64 (c2 : Int)]) (heap_alloc_new X2 _)) (by simp [Value.oneCell']) (by decide) hle1 hle2 (by have := HLX.out.k3.size; simp; omega) _ rfl ?_
     intro g13 cap13 w13 hown13 hgrow13 hor13 hlt13
     have hL3 := HLY.out.cutapp (c := (c1, c2)) hRl hBl hRB Hcn.out hown13 hgrow13 hor13
     have hB13 : w13.heap[B]? = some (partO kd h1 h2 (a : Int) b2 (.slice pa pn pc) (.slice ca cn cc) 0 0) := (kid_app (base := w.heap.size) hgrow13 hor13 HLY.out.cut.lt HLY.out.hB hBl).2
     have HOx : Hid (w13.heap[w2.heap.size]? = some (.cells #[.int .i64 (c1 : Int), .int .i64 (c2 : Int)] 27 (0, 0))) := (hgrow13.block w2.heap.size (by simp; omega) (fun e => by
      have h1 := HLX.out.cut.lt _ e.symm
      have h2 := (HL.out.cut.lt _ e.symm).2
      have := HzX.out
      omega)).trans ((Below.heap_alloc X2 _ _ hKl).trans HOX.out)
     have r6 := (part_cells hB13).2.2.2.2.2.2.1
     have s6 := (part_frozen hB13).2.2.2.2.2.2.1
     have HL3 := Lib.hid hL3
     have hS2 : (fun W' : World => W'.cell? ⟨B, 6, none⟩ = some (.slice ca cn cc) ∧ W'.cell? ⟨w2.heap.size, 0, none⟩ = some (.int .i64 (c1 : Int)) ∧ W'.cell? ⟨w2.heap.size, 1, none⟩ = some (.int .i64 (c2 : Int))) w13 := ⟨r6, (cells_of_heap2 HOx).1, (cells_of_heap2 HOx).2⟩
     clear hown13 hgrow13 hor13 hL3 hB13 hS1
     refine hK.out _ _ (fun _ => hS2) ?_
     clear hK K
     try simp only [Act.put]
     try simp only [List.setIfInBounds_toArray]
     try simp only [List.set_cons_succ]
     try simp only [List.set_cons_zero]
     refine wpAnyN_one (i := 8) (by kernel_rfl) rfl (fun K hK => ?_)
     go_simp
     refine hK.out _ _ (fun _ => hS2) ?_
     clear hK K
     refine wpAnyN_one (i := 9) (by kernel_rfl) rfl (fun K hK => ?_)
     go_simp
     refine hK.out _ _ (fun _ => hS2) ?_
     clear hK K
     clear hS2
     refine wpAnyN_one (i := 10) (by kernel_rfl) rfl (fun K hK => ?_)
     go_simp
     refine hK.out _ _ (fun hh => absurd rfl hh) ?_
     clear hK K
     refine wpAnyN_done (by kernel_rfl) ?_ _
     clear r6 s6
     obtain ⟨W3, hW3⟩ : ∃ W3, W3 = w13.setCell ⟨B, 6, none⟩ (.slice (some ⟨g13, 0, none⟩) (cn + 1) cap13) := ⟨_, rfl⟩
     have hO3 : W3.heap[w2.heap.size]? = some (.cells #[.int .i64 (c1 : Int), .int .i64 (c2 : Int)] 27 (0, 0)) := by rw [hW3]; exact (Below.heap_setCell _ _ _ _ hBw2).trans HOx
     have hL3 := HL3.out
     rw [← hW3] at hL3 ⊢
     have hb3 : c2 + r2.length * 1099511627776 ≤ 576460752303423488 := Nat.le_trans hcb.2.2 hb1
     have hul : us.length ≤ 1000 := by have := HLn.out.1; omega
     have HKq := Lib.hid (HKd.out c2 r2 hb3 (fun q => ¬ (Value.slice (some ⟨g13, 0, none⟩) (cn + 1) cap13).ownBlock = some q) (.slice (some ⟨g13, 0, none⟩) (cn + 1) cap13) pa pn pc ts us W3 hL3.k3 hL3.rd hL3.hB (fun q hq e => by have := (hL3.cut.lt q e).2; omega) hL3.row hL3.kids hul)
     have HL4 := Lib.hid hL3
     obtain ⟨d0, d1⟩ := cells_of_heap2 hO3
     clear hW3 hO3 hL3 HL3 HLY HRY hle1 hle2 HOX HzX HLX Hcn
     cases hf : F c2 r2 with
     | no x =>
      rw [hf] at HKq
      have HQ3 : Hid (q = .no x) := by
       unfold Hid
       rw [HQ2.out, HQr.out, HRest.out, aheadK_no2 ts cs _ a1 s1 Hap.out hf]
       rfl
      have HKp : Hid (∀ e w', kidPost R b off cap l B w.heap.size (fun q => ¬ (Value.slice (some ⟨g13, 0, none⟩) (cn + 1) cap13).ownBlock = some q) kd h1 h2 (a : Int) b2 (.slice (some ⟨g13, 0, none⟩) (cn + 1) cap13) 0 0 (.slice pa pn pc) ts us (.no x) W3 e w' →
        ∃ (z : Nat) (r : List UInt8) (ga : Option Addr) (gn gc : Nat), e = .returned (fltV (z : Int) (x : Int)) ∧ At w' R b off cap l r ∧ K3 R B none w w' ∧ w'.heap[B]? = some (partO kd h1 h2 (a : Int) b2 (.slice ga gn gc) (.slice (some ⟨g13, 0, none⟩) (cn + 1) cap13) 0 0)) := by
       rintro e w' ⟨k3, ga, gn, gc, hb, _, z, r, he, ha⟩
       exact ⟨z, r, ga, gn, gc, he, ha, HL4.out.k3.into k3 (fun q hq => (HL4.out.row.lt q hq).1), hb⟩
      clear hf
      go_wp2_with fail
      with_reducible refine HKq.out.mono ?_
      rintro e w4 hp
      obtain ⟨z, r, ga, gn, gc, rfl, ha, hk3, hb4⟩ := HKp.out e w4 hp
      have HE := Lib.hid (And.intro ha (And.intro hk3 hb4))
      clear hp ha hk3 hb4
      unfold fltV
      go_wp2_with fail
      go_ret
      unfold mulPost
      rw [HQ3.out]
      exact ⟨HE.out.2.1, ga, gn, gc, _, _, _, 0, 0, HE.out.2.2, z, r, rfl, HE.out.1⟩
     | ok t r3 =>
      rw [hf] at HKq
      have hfb := HFb.out _ _ _ _ hf
      have HQn : Hid (rkidsP F n a r1 = aheadK (ts ++ [t]) (cs ++ [(c1, c2)]) (rkidsP F (n - (k + 1)) t.bd.2 r3)) := by
       unfold Hid
       rw [HQr.out, HRest.out, aheadK_one ts cs _ a1 s1 Hap.out hf]
      clear hf
      go_wp2_with fail
      with_reducible refine HKq.out.mono ?_
      rintro e w4 hp
      obtain ⟨rfl, ga, gn, gc, u, hL5⟩ := HL4.out.kid hRl hBl rfl hp
      have hk5 := kids_at (S := fun _ => True) ⟨own_base2 hL5.row (Nat.zero_le _), fun _ _ => trivial⟩ (kidsAt.keep (fun q _ _ => ⟨rfl, trivial⟩) _ _ hL5.kids)
      have htl : ts.length = us.length := (kidsAt_len HL4.out.kids).symm
      obtain ⟨hgn, _, hgm, h9⟩ := hk5
      obtain ⟨g, ka9, kn9, kc9, ca9, cn9, cc9, rfl, hg9, -, h9, -⟩ := h9 us.length (by rw [List.length_append, htl]; simp)
      have hte : (ts ++ [t])[us.length]'(by rw [List.length_append, htl]; simp) = t := by simp [← htl]
      rw [hte] at h9
      rw [List.length_append, htl] at hgn
      obtain ⟨m, hm⟩ : ∃ m, m = us.length := ⟨_, rfl⟩
      rw [← hm] at h9 hgn
      have hgn1 : (gn : Int) - 1 = (m : Int) := by simp at hgn; omega
      have hgn2 : m < gn := by simp at hgn; omega
      have hgn3 : gn ≤ 2000 := by simp at hgn; omega
      obtain ⟨t1, t2, t3, t4, t5, t6, t7, t8, t9⟩ := h9
      have r0 := BW.cell t1
      have r1' := BW.cell t2
      have r2' := BW.cell t3
      have r3' := BW.cell t4
      have r4' := BW.cell t5
      have r5' := BW.cell t6
      have r6' := BW.cell t7
      have r7' := BW.cell t8
      have r8' := BW.cell t9
      have P5 := BW.cell ((part_cells hL5.hB).2.2.2.2.2.1)
      have HT := Lib.hid (fun W => tbytes_any t.kind t.hd.1 t.hd.2 t.bd.1 t.bd.2 t.e.1 t.e.2 ka9 ca9 kn9 kc9 cn9 cc9 W)
      have kf := span_to (t.hd.1 : Int) (t.bd.2 : Int)
      have HL5 := Lib.hid hL5
      have HM := Lib.hid hm
      clear hp hL5 t1 t2 t3 t4 t5 t6 t7 t8 t9 hgn hte htl hm d0 d1
      go_wp2_with fail
      refine wp_region_below (by kernel_rfl) (by kernel_rfl) ?_
      repeat (go_big_quiet_step (first | (go_at_call 38; exact BW.calls (HT.out _))))
      refine wpQuiet_nil ?_
      rintro _ ⟨z, rfl⟩
      have HL6 := Lib.hid (HL5.out.below hBl z.h)
      clear r0 r1' r2' r3' r4' r5' r6' r7' r8' P5
      go_wp2_with fail
      go_roundg (n - (k + 1))
      case measure => omega
      case rel => exact ⟨k + 1, t.bd.2, r3, ts ++ [t], cs ++ [(c1, c2)], us ++ [u], _, _, _, _, _, _, by omega, rfl, rfl, by go_num, ⟨by rw [List.length_append, HLn.out.1]; rfl, by rw [List.length_append, HLn.out.2]; rfl⟩, HL6.out, HQn.out, Nat.le_trans hfb hb3⟩
   ·obtain rfl : k = n := by omega
    have HE : Hid (q = (apP a1 s1).bind fun e s => .ok (ts, cs, e) s) := by
     unfold Hid
     rw [HQ2.out, HQr.out, Nat.sub_self]
     show (Rs.ok (ts ++ [], cs ++ [], a1) s1).bind _ = _
     rw [List.append_nil, List.append_nil]
     rfl
    have HAc := Lib.hid (HAp.out s1 wr HL.out.k3 HL.out.rd a1 Hbr.out)
    rw [apart_ap] at HAc
    unfold spanPost at HAc
    cases hap : apP a1 s1 with
    | no x =>
     rw [hap] at HAc HE
     have HQ3 : Hid (q = .no x) := HE.out
     clear hap HE
     go_wp2_with fail
     with_reducible refine HAc.out.mono ?_
     rintro e w2 ⟨hg, z, r, u1, u2, rfl, ha⟩
     have HL2 := Lib.hid (HL.out.gr hRl hBl hRB hg ha)
     obtain ⟨_, _, _, _, _, _, _, y7, y8⟩ := part_cells HL2.out.hB
     obtain ⟨_, _, _, _, _, _, _, f7, f8⟩ := part_frozen HL2.out.hB
     clear hg ha
     unfold fltV
     go_wp2_with fail
     go_ret
     unfold mulPost
     rw [HQ3.out]
     exact ⟨(HL2.out.k3.trans (K3.set _ ⟨B, 7, none⟩ _ (.inl rfl))).trans (K3.set _ ⟨B, 8, none⟩ _ (.inl rfl)), _, _, _, _, _, _, u1, u2, part_set78 HL2.out.hB, z, r, rfl, HL2.out.rd.block (by rw [Below.heap_setCell _ _ _ _ hRB, Below.heap_setCell _ _ _ _ hRB])⟩
    | ok ee r =>
     rw [hap] at HAc HE
     obtain ⟨u1, u2⟩ := ee
     simp only at HAc
     have HQ3 : Hid (q = .ok (ts, cs, (u1, u2)) r) := HE.out
     clear hap HE
     go_wp2_with fail
     with_reducible refine HAc.out.mono ?_
     rintro e w2 ⟨hg, rfl, ha⟩
     have HL2 := Lib.hid (HL.out.gr hRl hBl hRB hg ha)
     obtain ⟨_, _, _, _, _, _, _, y7, y8⟩ := part_cells HL2.out.hB
     obtain ⟨_, _, _, _, _, _, _, f7, f8⟩ := part_frozen HL2.out.hB
     clear hg ha
     go_wp2_with fail
     go_ret
     unfold mulPost
     rw [HQ3.out]
     have far : ∀ q, q ≠ B → ((w2.setCell ⟨B, 7, none⟩ (.int .i64 (u1 : Int))).setCell ⟨B, 8, none⟩ (.int .i64 (u2 : Int))).heap[q]? = w2.heap[q]? := fun q hq => by rw [Below.heap_setCell _ _ _ _ hq, Below.heap_setCell _ _ _ _ hq]
     refine ⟨(HL2.out.k3.trans (K3.set _ ⟨B, 7, none⟩ _ (.inl rfl))).trans (K3.set _ ⟨B, 8, none⟩ _ (.inl rfl)), _, _, _, _, _, _, _, _, part_set78 HL2.out.hB, rfl, HL2.out.rd.block (far R hRB), rfl, rfl, us, ?_, ?_, ?_⟩
     ·exact own_base0 (ownsRow_setCell_below (a := ⟨B, 8, none⟩) (ownsRow_setCell_below (a := ⟨B, 7, none⟩) HL2.out.row hBl _) hBl _) (fun a h _ => h)
     ·exact own_base0 (ownsRow_setCell_below (a := ⟨B, 8, none⟩) (ownsRow_setCell_below (a := ⟨B, 7, none⟩) HL2.out.cut hBl _) hBl _) (fun a h _ => h)
     ·exact kidsAt.keep (fun q hq _ => ⟨far q (by have := hq.1; omega), hq.1⟩) _ _ HL2.out.kids
end Go.Proofs.YtedminjnnhlknaaGreatDoor
