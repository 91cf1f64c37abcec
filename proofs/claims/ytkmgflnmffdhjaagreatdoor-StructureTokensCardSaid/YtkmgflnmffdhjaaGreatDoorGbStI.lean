/- A tree of parts in memory. -/
import Derived.Test.YtkmgflnmffdhjaaGreatDoorGbTrF
import Derived.Test.YtkmgflnmffdhjaaGreatDoorGbTrO
import Derived.Test.YtkmgflnmffdhjaaGreatDoorGbChars9
namespace Go.Proofs.YtkmgflnmffdhjaaGreatDoor
open Go Go.RowKit

def partCells : Value → List Value | .agg cs => cs.toList | _ => []
/-- A row of the call's own, in a block of which S holds. -/
def ownS (S : Nat → Prop) (W : World) (ty : TypeId) (size : Nat) (v : Value) (n : Nat) (xs : List Value) : Prop := W.ownsRow 0 ty size v n xs ∧ ∀ a, v.ownBlock = some a → S a
theorem ownS.keep {S S' : Nat → Prop} {W W' : World} {ty : TypeId} {size : Nat} {v : Value} {n : Nat} {xs : List Value} (h : ownS S W ty size v n xs) (hk : ∀ k, S k → k < W.heap.size → W'.heap[k]? = W.heap[k]? ∧ S' k) : ownS S' W' ty size v n xs := by
  obtain ⟨ho, hS⟩ := h
  have hlt := ho.lt
  refine ⟨⟨ho.1, ?_⟩, fun a ha => (hk a (hS a ha) (hlt a ha).2).2⟩
  rcases ho.2 with h2 | ⟨g, cap, cur, rfl, hg, hh, r⟩
  · exact .inl h2
  · have hgo : (Value.slice (some ⟨g, 0, none⟩) n cap).ownBlock = some g := rfl
    exact .inr ⟨g, cap, cur, rfl, hg, (hk g (hS g hgo) (hlt g hgo).2).1.trans hh, r⟩
mutual
def treeAt (S : Nat → Prop) (W : World) : Tr → Value → Prop
  | .mk k hd bd ks cs e, u => ∃ ka kn kc ca cn cc us, u = partV k hd bd (.slice ka kn kc) (.slice ca cn cc) e ∧ ownS S W 25 2 (.slice ca cn cc) cs.length (spCells cs) ∧
      ownS S W 29 9 (.slice ka kn kc) us.length (us.flatMap partCells) ∧ kidsAt S W ks us
def kidsAt (S : Nat → Prop) (W : World) : List Tr → List Value → Prop
  | [], us => us = []
  | t :: r, us => ∃ u us', us = u :: us' ∧ treeAt S W t u ∧ kidsAt S W r us'
end
mutual
theorem treeAt.keep {S S' : Nat → Prop} {W W' : World} (hk : ∀ k, S k → k < W.heap.size → W'.heap[k]? = W.heap[k]? ∧ S' k) : ∀ (t : Tr) (u : Value), treeAt S W t u → treeAt S' W' t u
  | .mk k hd bd ks cs e, u, h => by
    unfold treeAt at h ⊢
    obtain ⟨ka, kn, kc, ca, cn, cc, us, h1, h2, h3, h4⟩ := h
    exact ⟨ka, kn, kc, ca, cn, cc, us, h1, h2.keep hk, h3.keep hk, kidsAt.keep hk ks us h4⟩
theorem kidsAt.keep {S S' : Nat → Prop} {W W' : World} (hk : ∀ k, S k → k < W.heap.size → W'.heap[k]? = W.heap[k]? ∧ S' k) : ∀ (ts : List Tr) (us : List Value), kidsAt S W ts us → kidsAt S' W' ts us
  | [], us, h => by
    unfold kidsAt at h ⊢
    exact h
  | t :: r, us, h => by
    unfold kidsAt at h ⊢
    obtain ⟨u, us', h1, h2, h3⟩ := h
    exact ⟨u, us', h1, treeAt.keep hk t u h2, kidsAt.keep hk r us' h3⟩
end
theorem kidsAt_nil (S : Nat → Prop) (W : World) : kidsAt S W [] [] := by unfold kidsAt; rfl
theorem kidsAt_snoc {S : Nat → Prop} {W : World} : ∀ {ts : List Tr} {us : List Value} {t : Tr} {u : Value}, kidsAt S W ts us → treeAt S W t u → kidsAt S W (ts ++ [t]) (us ++ [u])
  | [], us, t, u, h, ht => by
    unfold kidsAt at h
    subst h
    show kidsAt S W [t] [u]
    unfold kidsAt
    exact ⟨u, [], rfl, ht, kidsAt_nil _ _⟩
  | x :: r, us, t, u, h, ht => by
    unfold kidsAt at h
    obtain ⟨v, us', rfl, h2, h3⟩ := h
    show kidsAt S W (x :: (r ++ [t])) (v :: (us' ++ [u]))
    unfold kidsAt
    exact ⟨v, us' ++ [u], rfl, h2, kidsAt_snoc h3 ht⟩
theorem kidsAt_len {S : Nat → Prop} {W : World} : ∀ {ts : List Tr} {us : List Value}, kidsAt S W ts us → us.length = ts.length
  | [], us, h => by
    unfold kidsAt at h
    subst h
    rfl
  | t :: r, us, h => by
    unfold kidsAt at h
    obtain ⟨u, us', rfl, _, h3⟩ := h
    simp [kidsAt_len h3]
theorem treeAt_part {S : Nat → Prop} {W : World} {t : Tr} {u : Value} (h : treeAt S W t u) : ∃ ka kn kc ca cn cc, u = partV t.kind t.hd t.bd (.slice ka kn kc) (.slice ca cn cc) t.e := by
  cases t
  unfold treeAt at h
  obtain ⟨ka, kn, kc, ca, cn, cc, us, h1, _⟩ := h
  exact ⟨ka, kn, kc, ca, cn, cc, h1⟩
theorem ownS_nil (S : Nat → Prop) (W : World) (ty : TypeId) (size : Nat) : ownS S W ty size (.slice none 0 0) 0 [] := ⟨World.ownsRow_nil _ _ _ _, fun a h => by cases h⟩
theorem leaf_at (S : Nat → Prop) (W : World) (f h t : Nat) : treeAt S W (leafT f h t) (partV 0 (f, h) (h, t) (.slice none 0 0) (.slice none 0 0) (0, 0)) := by
  unfold leafT treeAt
  exact ⟨none, 0, 0, none, 0, 0, [], rfl, ownS_nil _ _ _ _, ownS_nil _ _ _ _, kidsAt_nil _ _⟩
theorem own_base0 {S : Nat → Prop} {W : World} {base : Nat} {ty : TypeId} {size : Nat} {v : Value} {n : Nat} {xs : List Value} (h : W.ownsRow base ty size v n xs) (hS : ∀ a, base ≤ a → a < W.heap.size → S a) : ownS S W ty size v n xs :=
  ⟨own_base2 h (Nat.zero_le _), fun a ha => hS a (h.lt a ha).1 (h.lt a ha).2⟩
/-- The maker's block. -/
structure Mk (W : World) (M : Nat) (v : Value) (c : Nat) : Prop where
  c0 : W.cell? ⟨M, 0, none⟩ = some v
  c1 : W.cell? ⟨M, 1, none⟩ = some (.int .i64 (c : Int))
  f1 : W.frozen? ⟨M, 1, none⟩ = false
theorem Mk.lt {W : World} {M : Nat} {v : Value} {c : Nat} (h : Mk W M v c) : M < W.heap.size := World.block_lt_of_cell? _ _ h.c0
theorem Mk.block {W W' : World} {M : Nat} {v : Value} {c : Nat} (h : Mk W M v c) (hb : W'.heap[M]? = W.heap[M]?) : Mk W' M v c :=
  ⟨(World.cell?_of_block (a := ⟨M, 0, none⟩) hb).trans h.c0, (World.cell?_of_block (a := ⟨M, 1, none⟩) hb).trans h.c1, (World.frozen?_of_block (a := ⟨M, 1, none⟩) hb).trans h.f1⟩
theorem Mk.below {W W' : World} {M : Nat} {v : Value} {c : Nat} (h : Mk W M v c) (hb : Below W.heap.size W W') : Mk W' M v c := h.block (hb.block M h.lt)
theorem Mk.set {W : World} {M : Nat} {v : Value} {c : Nat} (h : Mk W M v c) (j : Nat) : Mk (W.setCell ⟨M, 1, none⟩ (.int .i64 (j : Int))) M v j :=
  ⟨(World.cell?_setCell_other _ ⟨M, 1, none⟩ ⟨M, 0, none⟩ _ (by simp)).trans h.c0, World.cell?_setCell_same _ _ _ h.c1, (World.frozen?_setCell _ _ _ _).trans h.f1⟩
theorem Mk.far {W : World} {M : Nat} {v : Value} {c : Nat} (h : Mk W M v c) {p : Addr} (hp : M ≠ p.block) (u : Value) : Mk (W.setCell p u) M v c := h.block (Below.heap_setCell _ _ _ _ hp)
/-- What an entity's call leaves. -/
def entPost (M : Nat) (v : Value) (r : Tr × Nat) (w : World) (e : Ending) (w' : World) : Prop :=
  ∃ u, e = .returned u ∧ treeAt (fun k => w.heap.size ≤ k) w' r.1 u ∧ Gr M w w' ∧ Mk w' M v r.2
theorem gr_below {M : Nat} {w0 w w' : World} (h : Below w0.heap.size w0 w) (hM : w0.heap.size ≤ M) (hg : Gr M w w') : Below w0.heap.size w0 w' := h.grown hg h.size (fun k hk => by cases hk; exact hM)
theorem below_gr {M : Nat} {w w' : World} (h : Below w.heap.size w w') : Gr M w w' := (Gr.refl M w).below h
theorem mk_set9 {M : Nat} {v : Value} {c : Nat} {W : World} {g : Nat} {a0 a1 a2 a3 a4 a5 a6 a7 a8 : Value} (h : Mk W M v c) (hg : M ≠ g) :
    Mk (((((((((W.setCell ⟨g, 0, none⟩ a0).setCell ⟨g, 1, none⟩ a1).setCell ⟨g, 2, none⟩ a2).setCell ⟨g, 3, none⟩ a3).setCell ⟨g, 4, none⟩ a4).setCell ⟨g, 5, none⟩ a5).setCell ⟨g, 6, none⟩ a6).setCell ⟨g, 7, none⟩ a7).setCell ⟨g, 8, none⟩ a8) M v c :=
  ((((((((h.far (p := ⟨g, 0, none⟩) hg _).far (p := ⟨g, 1, none⟩) hg _).far (p := ⟨g, 2, none⟩) hg _).far (p := ⟨g, 3, none⟩) hg _).far (p := ⟨g, 4, none⟩) hg _).far (p := ⟨g, 5, none⟩) hg _).far (p := ⟨g, 6, none⟩) hg _).far (p := ⟨g, 7, none⟩) hg _).far (p := ⟨g, 8, none⟩) hg _
theorem leaf_end {M : Nat} {v : Value} {c : Nat} {w X : World} {B : Nat} (f h t : Nat) (hB : w.heap.size ≤ B) (hMB : M ≠ B) (hb : Below w.heap.size w X) (hm : Mk X M v c) :
    entPost M v (leafT f h t, c) w (.returned (partV 0 (f, h) (h, t) (.slice none 0 0) (.slice none 0 0) (0, 0))) (((((((((X.setCell ⟨B, 0, none⟩ (.int .i64 0)).setCell ⟨B, 1, none⟩ (.int .i64 (f : Int))).setCell ⟨B, 2, none⟩ (.int .i64 (h : Int))).setCell ⟨B, 3, none⟩ (.int .i64 (h : Int))).setCell ⟨B, 4, none⟩ (.int .i64 (t : Int))).setCell ⟨B, 5, none⟩ (.slice none 0 0)).setCell ⟨B, 6, none⟩ (.slice none 0 0)).setCell ⟨B, 7, none⟩ (.int .i64 0)).setCell ⟨B, 8, none⟩ (.int .i64 0)) :=
  ⟨_, rfl, leaf_at _ _ f h t, below_gr (below_set9 hb hB), mk_set9 hm hMB⟩
theorem treeAt_agg {S : Nat → Prop} {W : World} {t : Tr} {u : Value} (h : treeAt S W t u) : ∃ ka kn kc ca cn cc, u = .agg #[.int .i64 (t.kind : Int), .int .i64 (t.hd.1 : Int), .int .i64 (t.hd.2 : Int), .int .i64 (t.bd.1 : Int), .int .i64 (t.bd.2 : Int), .slice ka kn kc, .slice ca cn cc, .int .i64 (t.e.1 : Int), .int .i64 (t.e.2 : Int)] := by
  obtain ⟨ka, kn, kc, ca, cn, cc, h⟩ := treeAt_part h
  exact ⟨ka, kn, kc, ca, cn, cc, h⟩
theorem Tryz.infoPt : (Tryz.prog.info? 29).map (fun i => (i.zero, i.size, i.bytes)) = some (some (.agg #[.int .i64 0, .int .i64 0, .int .i64 0, .int .i64 0, .int .i64 0, .slice none 0 0, .slice none 0 0, .int .i64 0, .int .i64 0]), 9, 104) := by kernel_rfl
/-- All that lay lies, but for two blocks. -/
structure K2 (M P : Nat) (W W' : World) : Prop where
  os : W'.os = W.os
  tape : W'.tape = W.tape
  output : W'.output = W.output
  size : W.heap.size ≤ W'.heap.size
  block : ∀ k, k < W.heap.size → k ≠ M → k ≠ P → W'.heap[k]? = W.heap[k]?
theorem K2.refl (M P : Nat) (W : World) : K2 M P W W := ⟨rfl, rfl, rfl, Nat.le_refl _, fun _ _ _ _ => rfl⟩
theorem K2.below {M P : Nat} {W W' W'' : World} (h : K2 M P W W') (hb : Below W'.heap.size W' W'') : K2 M P W W'' :=
  ⟨hb.os.trans h.os, hb.tape.trans h.tape, hb.output.trans h.output, Nat.le_trans h.size hb.size, fun k hk h1 h2 => (hb.block k (Nat.lt_of_lt_of_le hk h.size)).trans (h.block k hk h1 h2)⟩
theorem K2.gr {M P : Nat} {W W' W'' : World} (h : K2 M P W W') (hg : Gr M W' W'') : K2 M P W W'' :=
  ⟨hg.os.trans h.os, hg.tape.trans h.tape, hg.output.trans h.output, Nat.le_trans h.size hg.size, fun k hk h1 h2 => (hg.block k (Nat.lt_of_lt_of_le hk h.size) (fun e => h1 (Option.some.inj e))).trans (h.block k hk h1 h2)⟩
theorem K2.grM {M P : Nat} {W W' W'' : World} (h : K2 M P W W') (hg : W'.grownBy W'' (some M)) : K2 M P W W'' := h.gr hg
theorem K2.grown {M P : Nat} {W W' W'' : World} {row : Option Nat} (h : K2 M P W W') (hg : W'.grownBy W'' row) (hr : ∀ k, row = some k → W.heap.size ≤ k) : K2 M P W W'' :=
  ⟨hg.os.trans h.os, hg.tape.trans h.tape, hg.output.trans h.output, Nat.le_trans h.size hg.size, fun k hk h1 h2 => (hg.block k (Nat.lt_of_lt_of_le hk h.size) (fun e => by have := hr k e.symm; omega)).trans (h.block k hk h1 h2)⟩
theorem K2.set {M P : Nat} {W W' : World} (h : K2 M P W W') (j : Nat) (u : Value) : K2 M P W (W'.setCell ⟨P, j, none⟩ u) :=
  ⟨h.os, h.tape, h.output, by rw [size_set]; exact h.size, fun k hk h1 h2 => (Below.heap_setCell _ _ _ _ h2).trans (h.block k hk h1 h2)⟩
theorem K2.to {M P : Nat} {w W W' : World} (h : K2 M P W W') (hb : Gr M w W) (hP : w.heap.size ≤ P) : Gr M w W' :=
  ⟨h.os.trans hb.os, h.tape.trans hb.tape, h.output.trans hb.output, Nat.le_trans hb.size h.size, fun k hk h1 => (h.block k (Nat.lt_of_lt_of_le hk hb.size) (fun e => h1 (by rw [e])) (by omega)).trans (hb.block k hk h1)⟩
theorem K2.trans {M P : Nat} {a b c : World} (h : K2 M P a b) (k : K2 M P b c) : K2 M P a c :=
  ⟨k.os.trans h.os, k.tape.trans h.tape, k.output.trans h.output, Nat.le_trans h.size k.size, fun q hq h1 h2 => (k.block q (Nat.lt_of_lt_of_le hq h.size) h1 h2).trans (h.block q hq h1 h2)⟩
theorem K2.base {M P : Nat} {w0 W W' : World} (h : K2 M P W W') (hb : Below w0.heap.size w0 W) (hM : w0.heap.size ≤ M) (hP : w0.heap.size ≤ P) : Below w0.heap.size w0 W' :=
  ⟨h.os.trans hb.os, h.tape.trans hb.tape, h.output.trans hb.output, Nat.le_trans hb.size h.size, fun k hk => (h.block k (Nat.lt_of_lt_of_le hk hb.size) (by omega) (by omega)).trans (hb.block k hk)⟩
theorem own_k2 {M P base size n : Nat} {W W' : World} {ty : TypeId} {v : Value} {xs : List Value} (h : W.ownsRow base ty size v n xs) (k : K2 M P W W') (hM : M < base) (hP : P < base) : W'.ownsRow base ty size v n xs := by
  have hlt := h.lt
  refine ⟨h.1, ?_⟩
  rcases h.2 with h2 | ⟨g, cap, cur, rfl, hg, hh, r⟩
  · exact .inl h2
  · have hgo : (Value.slice (some ⟨g, 0, none⟩) n cap).ownBlock = some g := rfl
    exact .inr ⟨g, cap, cur, rfl, hg, (k.block g (hlt g hgo).2 (by omega) (by omega)).trans hh, r⟩
theorem gr_set {M : Nat} {w W : World} {p : Addr} (h : Gr M w W) (hp : w.heap.size ≤ p.block) (u : Value) : Gr M w (W.setCell p u) :=
  ⟨h.os, h.tape, h.output, by rw [size_set]; exact h.size, fun k hk h1 => (Below.heap_setCell _ _ _ _ (by omega)).trans (h.block k hk h1)⟩
theorem gr_set9 {M : Nat} {w W : World} {g : Nat} {a0 a1 a2 a3 a4 a5 a6 a7 a8 : Value} (h : Gr M w W) (hg : w.heap.size ≤ g) :
    Gr M w (((((((((W.setCell ⟨g, 0, none⟩ a0).setCell ⟨g, 1, none⟩ a1).setCell ⟨g, 2, none⟩ a2).setCell ⟨g, 3, none⟩ a3).setCell ⟨g, 4, none⟩ a4).setCell ⟨g, 5, none⟩ a5).setCell ⟨g, 6, none⟩ a6).setCell ⟨g, 7, none⟩ a7).setCell ⟨g, 8, none⟩ a8) :=
  gr_set (gr_set (gr_set (gr_set (gr_set (gr_set (gr_set (gr_set (gr_set h hg _) hg _) hg _) hg _) hg _) hg _) hg _) hg _) hg _
theorem heap_set9 {W : World} {g q : Nat} {a0 a1 a2 a3 a4 a5 a6 a7 a8 : Value} (hq : q ≠ g) :
    (((((((((W.setCell ⟨g, 0, none⟩ a0).setCell ⟨g, 1, none⟩ a1).setCell ⟨g, 2, none⟩ a2).setCell ⟨g, 3, none⟩ a3).setCell ⟨g, 4, none⟩ a4).setCell ⟨g, 5, none⟩ a5).setCell ⟨g, 6, none⟩ a6).setCell ⟨g, 7, none⟩ a7).setCell ⟨g, 8, none⟩ a8).heap[q]? = W.heap[q]? := by
  rw [Below.heap_setCell _ _ _ _ hq, Below.heap_setCell _ _ _ _ hq, Below.heap_setCell _ _ _ _ hq, Below.heap_setCell _ _ _ _ hq, Below.heap_setCell _ _ _ _ hq, Below.heap_setCell _ _ _ _ hq, Below.heap_setCell _ _ _ _ hq, Below.heap_setCell _ _ _ _ hq, Below.heap_setCell _ _ _ _ hq]
end Go.Proofs.YtkmgflnmffdhjaaGreatDoor

/- Layer 20: contracts of package structure: Kind. -/
namespace Go.Proofs.YtkmgflnmffdhjaaGreatDoor
open Go Go.RowKit

theorem cs_is : csW = prsW [(chsN, usaN)] := rfl
theorem few_cs : fewP [(chsN, usaN)] := by
  refine ⟨by decide, fun q hq => ?_, ?_⟩
  · rw [List.mem_singleton.1 hq]
    exact ⟨by decide, by decide⟩
  · have := prmP_len [(chsN, usaN)] 100 100 (by decide) (by decide) (fun q hq => by rw [List.mem_singleton.1 hq]; exact ⟨by decide, by decide⟩)
    have e : ([(chsN, usaN)] : List Prm).length = 1 := rfl
    omega
theorem prm_one (W : World) : prmAt (W.alloc (.cells #[.string ⟨#[99, 104, 97, 114, 115, 101, 116]⟩, .string ⟨#[117, 115, 45, 97, 115, 99, 105, 105]⟩] 71)) (.slice (some ⟨W.heap.size, 0, none⟩) 1 1) [(chsN, usaN)] := by
  refine ⟨_, 1, rfl, by simp, by unfold maxLen; omega, .inr ⟨W.heap.size, rfl, by simp, fun i hi => ?_⟩⟩
  obtain rfl : i = 0 := by simp at hi; omega
  exact box_two
theorem prm_two (W : World) (o : Obj) : prmAt ((W.alloc o).alloc (.cells #[.string ⟨#[99, 104, 97, 114, 115, 101, 116]⟩, .string ⟨#[117, 115, 45, 97, 115, 99, 105, 105]⟩] 71)) (.slice (some ⟨W.heap.size + 1, 0, none⟩) 1 1) [(chsN, usaN)] := by
  have h := prm_one (W.alloc o)
  rw [show (W.alloc o).heap.size = W.heap.size + 1 by simp] at h
  exact h
/-- The three texts of a kind. -/
def kindV (K : List UInt8 × List UInt8 × List UInt8) : Value := .tuple #[.string ⟨K.1.toArray⟩, .string ⟨K.2.1.toArray⟩, .string ⟨K.2.2.toArray⟩]
set_option maxRecDepth 100000 in
set_option maxHeartbeats 1600000 in
theorem kind_any (ao : Option Addr) (cap : Nat) (l : List UInt8) (k f t : Nat) (q0 q1 q2 q3 : Int) (ka ca : Option Addr) (kn kc cn cc : Nat) (w : World) (hv : bytesArg w (.slice ao l.length cap) l) (hbig : l.length ≤ 1500) (hft : f ≤ t) (htl : t ≤ l.length) (he : env w) :
    Calls Tryz.prog 11 #[.slice ao l.length cap, .agg #[.int .i64 (k : Int), .int .i64 (f : Int), .int .i64 (t : Int), .int .i64 q0, .int .i64 q1, .slice ka kn kc, .slice ca cn cc, .int .i64 q2, .int .i64 q3]] w
      fun e w' => e = .returned (kindV (kindS l (fsOf l f t) k)) ∧ Below w.heap.size w w' := by
  obtain ⟨X, hX⟩ : ∃ X, X = w.alloc (.cells #[.int .i64 (k : Int), .int .i64 (f : Int), .int .i64 (t : Int), .int .i64 q0, .int .i64 q1, .slice ka kn kc, .slice ca cn cc, .int .i64 q2, .int .i64 q3] 29) := ⟨_, rfl⟩
  have hc : X.heap[w.heap.size]? = some (.cells #[.int .i64 (k : Int), .int .i64 (f : Int), .int .i64 (t : Int), .int .i64 q0, .int .i64 q1, .slice ka kn kc, .slice ca cn cc, .int .i64 q2, .int .i64 q3] 29 (0, 0)) := by rw [hX]; exact heap_alloc_new w _
  have HB : Hid (Below w.heap.size w X) := by rw [hX]; exact (Below.refl _ _).alloc (Nat.le_refl _) _
  obtain ⟨x0, x1, x2, x3, x4, x5, x6, x7, x8⟩ : X.cell? ⟨w.heap.size, 0, none⟩ = some (.int .i64 (k : Int)) ∧ X.cell? ⟨w.heap.size, 1, none⟩ = some (.int .i64 (f : Int)) ∧ X.cell? ⟨w.heap.size, 2, none⟩ = some (.int .i64 (t : Int)) ∧ X.cell? ⟨w.heap.size, 3, none⟩ = some (.int .i64 q0) ∧ X.cell? ⟨w.heap.size, 4, none⟩ = some (.int .i64 q1) ∧ X.cell? ⟨w.heap.size, 5, none⟩ = some (.slice ka kn kc) ∧ X.cell? ⟨w.heap.size, 6, none⟩ = some (.slice ca cn cc) ∧ X.cell? ⟨w.heap.size, 7, none⟩ = some (.int .i64 q2) ∧ X.cell? ⟨w.heap.size, 8, none⟩ = some (.int .i64 q3) := by
    simp only [World.cell?, hc]
    exact ⟨rfl, rfl, rfl, rfl, rfl, rfl, rfl, rfl, rfl⟩
  have hHx : w.heap.size < X.heap.size := (Array.getElem?_eq_some_iff.1 hc).1
  have HHd := Lib.hid (headOf_any ao cap l f t (k : Int) q0 q1 q2 q3 ka ca kn kc cn cc X (hv.below HB.out) (by omega) hft htl)
  unfold hdoPost at HHd
  have hsh := fsOf_short l hft htl (by omega)
  have HKS : Hid (kindS l (fsOf l f t) k = kindK k (parseL (valueS l (fsOf l f t) ctyN) true)) := rfl
  rw [HKS.out]
  have hvl := valueS_short l (fsOf l f t) ctyN
  obtain ⟨fs, hfs⟩ : ∃ fs, fs = fsOf l f t := ⟨_, rfl⟩
  rw [← hfs] at HHd hsh hvl ⊢
  have HV := Lib.hid (fun fo fc W (h : HdAt W l fs ao cap fo fc) => hvalue_any ao fo cap fc l fs ⟨#[99, 111, 110, 116, 101, 110, 116, 45, 116, 121, 112, 101]⟩ W h (by omega) hsh)
  have hcn : (⟨#[99, 111, 110, 116, 101, 110, 116, 45, 116, 121, 112, 101]⟩ : ByteArray).data.toList = ctyN := rfl
  rw [hcn] at HV
  obtain ⟨s, hsd⟩ : ∃ s, s = valueS l fs ctyN := ⟨_, rfl⟩
  rw [← hsd] at HV hvl ⊢
  have hsl : s.length ≤ 1500 := by omega
  have hsz : (⟨s.toArray⟩ : ByteArray).size ≤ 100000 := by rw [← len_toList]; show s.length ≤ _; omega
  have HE := Lib.hid he
  have HX := Lib.hid hX
  unfold headV at HHd HV
  clear hv hX he hcn HKS hsd hvl hc hsh hfs
  obtain ⟨H, hH⟩ : ∃ H, H = w.heap.size := ⟨_, rfl⟩
  rw [← hH] at x0 x1 x2 x3 x4 x5 x6 x7 x8 hHx
  have HHw := Lib.hid hH
  clear hH
  have HPc := Lib.hid (fun u W (h1 : prmAt W u [(chsN, usaN)]) (h2 : tab W) => pairs_any u [(chsN, usaN)] W h1 few_cs h2)
  rw [← cs_is] at HPc
  cases hq : parseL s true with
  | none =>
    have HPs := Lib.hid (fun W (h2 : env W) => parse_none ⟨s.toArray⟩ true hq W hsz h2)
    clear hq
    go_enter Tryz.func11, Tryz.ntmps11
    go_wp2_with fail
    rw [← HX.out, ← HHw.out]
    go_wp2_with fail
    with_reducible refine HHd.out.mono ?_
    rintro e w1 ⟨fo, fc, rfl, hh1, hb1⟩
    have HB1 := Lib.hid (HB.out.trans (hb1.mono HB.out.size))
    have z0 := (hb1.cell (p := ⟨H, 0, none⟩) hHx).trans x0
    have hH1 := Nat.lt_of_lt_of_le hHx hb1.size
    clear hb1 x0 x1 x2 x3 x4 x5 x6 x7 x8
    go_wp2_with fail
    with_reducible refine (HV.out _ _ _ hh1).mono ?_
    rintro e w2 ⟨rfl, hb2⟩
    have HB2 := Lib.hid (HB1.out.trans (hb2.mono HB1.out.size))
    replace z0 := (hb2.cell (p := ⟨H, 0, none⟩) hH1).trans z0
    replace hH1 := Nat.lt_of_lt_of_le hH1 hb2.size
    clear hb2 hh1
    go_wp2_with fail
    with_reducible refine (HPs.out _ (HE.out.below HB2.out)).mono ?_
    rintro e w3 ⟨a, n, c, rfl, _, hb3⟩
    have HB3 := Lib.hid (HB2.out.trans (hb3.mono HB2.out.size))
    replace z0 := (hb3.cell (p := ⟨H, 0, none⟩) hH1).trans z0
    replace hH1 := Nat.lt_of_lt_of_le hH1 hb3.size
    clear hb3
    have HB4 : Hid (Below w.heap.size w (w3.alloc (.cells #[.string ⟨#[]⟩, .string ⟨#[]⟩, .slice a n c] 60))) := HB3.out.alloc HB3.out.size _
    have z4 := ((((Below.refl w3.heap.size w3).alloc (Nat.le_refl _) (.cells #[.string ⟨#[]⟩, .string ⟨#[]⟩, .slice a n c] 60))).cell (p := ⟨H, 0, none⟩) hH1).trans z0
    by_cases k1 : k = 1
    · subst k1
      go_wp2_with fail
      go_ret3
      exact ⟨rfl, HB4.out⟩
    · have e1 : ((k : Int) == 1) = false := int_beq k1
      by_cases k2 : k = 2
      · subst k2
        go_wp2_with fail
        go_ret3
        exact ⟨rfl, HB4.out⟩
      · have e2 : ((k : Int) == 2) = false := int_beq k2
        have HKk : Hid (kindK k none = (txtN, plnN, csW)) := by unfold Hid kindK; simp only [if_neg k1, if_neg k2]
        clear k1 k2
        have HT5 : Hid (tab ((w3.alloc (.cells #[.string ⟨#[]⟩, .string ⟨#[]⟩, .slice a n c] 60)).alloc (.cells #[.string ⟨#[99, 104, 97, 114, 115, 101, 116]⟩, .string ⟨#[117, 115, 45, 97, 115, 99, 105, 105]⟩] 71))) := (HE.out.below (HB4.out.alloc HB4.out.size _)).1
        go_wp2_with fail
        with_reducible refine (HPc.out _ _ (prm_two _ _) HT5.out).mono ?_
        rintro e w5 ⟨rfl, hb5⟩
        go_wp2_with fail
        go_ret3
        exact ⟨by rw [HKk.out]; rfl, (HB4.out.alloc HB4.out.size _).trans (hb5.mono (HB4.out.alloc HB4.out.size _).size)⟩
  | some V =>
    have HPs := Lib.hid (fun W (h2 : env W) => parse_some ⟨s.toArray⟩ true V hq W hsz h2)
    have hV := val_small hsl hq
    have HPr := Lib.hid (fun u W h1 h2 => pairs_any u V.params W h1 hV.few h2)
    have HFi := Lib.hid (fun a n c W => fits_any V k a n c W)
    obtain ⟨P0, hP0⟩ : ∃ A : ByteArray, A = ⟨(prsW V.params).toArray⟩ := ⟨_, rfl⟩
    rw [← hP0] at HPr
    have HKv : Hid (kindV (kindK k (some V)) = if fitK k V = true then .tuple #[.string ⟨V.type.toArray⟩, .string ⟨V.sub.toArray⟩, .string P0] else if k = 1 then kindV (mulN, mixN, nilW) else if k = 2 then kindV (msgN, rfcN, nilW) else kindV (appN, octN, nilW)) := by
      unfold Hid kindK
      rw [hP0]
      by_cases h0 : fitK k V = true
      · simp only [if_pos h0]
        rfl
      · simp only [if_neg h0]
        split
        · rfl
        · split
          · rfl
          · rfl
    obtain ⟨KV, hKV⟩ : ∃ K, K = kindV (kindK k (some V)) := ⟨_, rfl⟩
    rw [← hKV] at HKv ⊢
    obtain ⟨T0, hT0⟩ : ∃ T : ByteArray, T = ⟨V.type.toArray⟩ := ⟨_, rfl⟩
    obtain ⟨T1, hT1⟩ : ∃ T : ByteArray, T = ⟨V.sub.toArray⟩ := ⟨_, rfl⟩
    rw [← hT0, ← hT1] at HPs HFi HKv
    obtain ⟨bf, hbf⟩ : ∃ b, b = fitK k V := ⟨_, rfl⟩
    rw [← hbf] at HFi HKv
    clear hq hV hP0 hT0 hT1 hbf hKV
    go_enter Tryz.func11, Tryz.ntmps11
    go_wp2_with fail
    rw [← HX.out, ← HHw.out]
    go_wp2_with fail
    with_reducible refine HHd.out.mono ?_
    rintro e w1 ⟨fo, fc, rfl, hh1, hb1⟩
    have HB1 := Lib.hid (HB.out.trans (hb1.mono HB.out.size))
    have z0 := (hb1.cell (p := ⟨H, 0, none⟩) hHx).trans x0
    have hH1 := Nat.lt_of_lt_of_le hHx hb1.size
    clear hb1 x0 x1 x2 x3 x4 x5 x6 x7 x8
    go_wp2_with fail
    with_reducible refine (HV.out _ _ _ hh1).mono ?_
    rintro e w2 ⟨rfl, hb2⟩
    have HB2 := Lib.hid (HB1.out.trans (hb2.mono HB1.out.size))
    replace z0 := (hb2.cell (p := ⟨H, 0, none⟩) hH1).trans z0
    replace hH1 := Nat.lt_of_lt_of_le hH1 hb2.size
    clear hb2 hh1
    go_wp2_with fail
    with_reducible refine (HPs.out _ (HE.out.below HB2.out)).mono ?_
    rintro e w3 ⟨a, n, c, rfl, hpr, hb3⟩
    have HB3 := Lib.hid (HB2.out.trans (hb3.mono HB2.out.size))
    replace z0 := (hb3.cell (p := ⟨H, 0, none⟩) hH1).trans z0
    replace hH1 := Nat.lt_of_lt_of_le hH1 hb3.size
    clear hb3
    obtain ⟨Y, hY⟩ : ∃ Y, Y = w3.alloc (.cells #[.string T0, .string T1, .slice a n c] 60) := ⟨_, rfl⟩
    have HBY : Hid (Below w3.heap.size w3 Y) := by rw [hY]; exact (Below.refl _ _).alloc (Nat.le_refl _) _
    obtain ⟨v0, v1, v2⟩ : Y.cell? ⟨w3.heap.size, 0, none⟩ = some (.string T0) ∧ Y.cell? ⟨w3.heap.size, 1, none⟩ = some (.string T1) ∧ Y.cell? ⟨w3.heap.size, 2, none⟩ = some (.slice a n c) := by
      have hh := heap_alloc_new w3 (.cells #[.string T0, .string T1, .slice a n c] 60)
      rw [hY]
      simp only [World.cell?, hh]
      exact ⟨rfl, rfl, rfl⟩
    have HB4 := Lib.hid (HB3.out.trans (HBY.out.mono HB3.out.size))
    have HP4 := Lib.hid (hpr.below HBY.out)
    have z4 := (HBY.out.cell (p := ⟨H, 0, none⟩) hH1).trans z0
    have hH4 := Nat.lt_of_lt_of_le hH1 HBY.out.size
    have hJ : w3.heap.size < Y.heap.size := by rw [hY]; simp
    have HYe := Lib.hid hY
    clear hY hpr z0 hH1
    go_upto_region 2 with fail
    rw [← HYe.out]
    obtain ⟨J, hJe⟩ : ∃ J, J = w3.heap.size := ⟨_, rfl⟩
    rw [← hJe] at v0 v1 v2 hJ ⊢
    clear hJe HYe HBY
    go_wp2_with fail
    with_reducible refine (HFi.out _ _ _ _).mono ?_
    rintro e w5 ⟨rfl, hb5⟩
    have HB5 := Lib.hid (HB4.out.trans (hb5.mono HB4.out.size))
    have y0 := (hb5.cell (p := ⟨J, 0, none⟩) hJ).trans v0
    have y1 := (hb5.cell (p := ⟨J, 1, none⟩) hJ).trans v1
    have y2 := (hb5.cell (p := ⟨J, 2, none⟩) hJ).trans v2
    have z5 := (hb5.cell (p := ⟨H, 0, none⟩) hH4).trans z4
    have HPz := Lib.hid (fun z : BW w5 => (HP4.out.below hb5).below z.h)
    have HTz := Lib.hid (fun z : BW w5 => (HE.out.below HB5.out).1.below z.h)
    clear hb5 v0 v1 v2 z4
    cases bf with
    | true =>
      have HQ : Hid (KV = .tuple #[.string T0, .string T1, .string P0]) := HKv.out.trans (if_pos rfl)
      go_wp2_with fail
      have Y0 := BW.cell y0
      have Y1 := BW.cell y1
      have Y2 := BW.cell y2
      refine wp_region_below (by kernel_rfl) (by kernel_rfl) ?_
      repeat (go_big_quiet_step (first | (go_at_call 20; with_reducible exact BW.calls (HPr.out _ _ (HPz.out _) (HTz.out _)))))
      refine wpQuiet_nil ?_
      rintro W6 ⟨⟨_, hb6⟩, rfl⟩
      have HB6 := Lib.hid (HB5.out.trans (hb6.mono HB5.out.size))
      clear hb6 y0 y1 y2 Y0 Y1 Y2
      go_wp2_with fail
      go_ret3
      exact ⟨by rw [HQ.out]; rfl, HB6.out⟩
    | false =>
      clear y0 y1 y2
      by_cases k1 : k = 1
      · subst k1
        have HQ : Hid (KV = kindV (mulN, mixN, nilW)) := HKv.out.trans (if_neg (by decide))
        go_wp2_with fail
        go_ret3
        exact ⟨by rw [HQ.out]; rfl, HB5.out⟩
      · have e1 : ((k : Int) == 1) = false := int_beq k1
        by_cases k2 : k = 2
        · subst k2
          have HQ : Hid (KV = kindV (msgN, rfcN, nilW)) := HKv.out.trans (if_neg (by decide))
          go_wp2_with fail
          go_ret3
          exact ⟨by rw [HQ.out]; rfl, HB5.out⟩
        · have e2 : ((k : Int) == 2) = false := int_beq k2
          have HKn : Hid (KV = kindV (appN, octN, nilW)) := HKv.out.trans ((if_neg (by decide)).trans ((if_neg k1).trans (if_neg k2)))
          clear k1 k2
          go_wp2_with fail
          go_ret3
          exact ⟨by rw [HKn.out]; rfl, HB5.out⟩
end Go.Proofs.YtkmgflnmffdhjaaGreatDoor

/- Layer 20: contracts of package structure: texts go into a teller; a part's encoding. -/
namespace Go.Proofs.YtkmgflnmffdhjaaGreatDoor
open Go Go.RowKit

theorem strsC_bytes (xs : List ByteArray) : strsC xs = Lib.byteCells (xs.flatMap (·.data.toList)) := by
  induction xs with
  | nil => rfl
  | cons x r ih =>
    have e1 : strsC (x :: r) = Lib.strCells x ++ strsC r := rfl
    rw [e1, ih, List.flatMap_cons, byteCells_app]
    rfl
theorem Kq.trans {B T : Nat} {a b c : World} (h : Kq B T a b) (k : Kq B T b c) : Kq B T a c := ⟨h.1.trans k.1, h.2.trans k.2⟩
theorem Kq.of_below {B T : Nat} {a b : World} (h : Below a.heap.size a b) (hB : B ≤ a.heap.size) : Kq B T a b := ⟨h.mono hB, others_below h⟩
theorem Kq.below {B T : Nat} {a b c : World} (h : Kq B T a b) (k : Below b.heap.size b c) (hB : B ≤ a.heap.size) : Kq B T a c := h.trans (Kq.of_below k (Nat.le_trans hB h.1.size))
/-- What telling leaves. -/
def tellP (B T : Nat) (vb : Value) (all : Bool) (acc : List UInt8) (w : World) (e : Ending) (w' : World) : Prop :=
  e = .returned (.tuple #[]) ∧ TlAt B T vb all (Lib.byteCells acc) w' ∧ Kq B T w w'
theorem add_row (B T : Nat) (vb : Value) (all : Bool) (acc : List UInt8) (xs : List ByteArray) (w : World) (h : TlAt B T vb all (Lib.byteCells acc) w) (hn : xs.length ≤ 1000) (hlen : acc.length + (xs.flatMap (·.data.toList)).length ≤ 140737488355328) (hBw : B ≤ w.heap.size) :
    Calls Tryz.prog 30 #[.pointer (some ⟨T, 0, none⟩), .slice (some ⟨w.heap.size, 0, none⟩) xs.length xs.length] (w.alloc (.cells (xs.map Value.string).toArray 9)) (tellP B T vb all (acc ++ xs.flatMap (·.data.toList)) w) := by
  have hb := (Below.refl w.heap.size w).alloc (Nat.le_refl _) (.cells (xs.map Value.string).toArray 9)
  have hlt := h.lt
  refine (add_any B T w.heap.size xs.length vb all (Lib.byteCells acc) xs _ (h.below hb) (heap_alloc_new w _) (by omega) hn ?_ (Nat.le_trans hBw hb.size)).mono fun e w' ⟨h1, h2, h3⟩ => ⟨h1, ?_, (Kq.of_below hb hBw).trans h3⟩
  · rw [strsC_bytes, Lib.byteCells_length, Lib.byteCells_length]
    exact hlen
  · rw [strsC_bytes, ← byteCells_app] at h2
    exact h2
theorem add_one (B T : Nat) (vb : Value) (all : Bool) (acc : List UInt8) (a : ByteArray) (w : World) (h : TlAt B T vb all (Lib.byteCells acc) w) (hlen : acc.length + a.size ≤ 140737488355328) (hBw : B ≤ w.heap.size) :
    Calls Tryz.prog 30 #[.pointer (some ⟨T, 0, none⟩), .slice (some ⟨w.heap.size, 0, none⟩) 1 1] (w.alloc (.cells #[.string a] 9)) (tellP B T vb all (acc ++ a.data.toList) w) := by
  have := add_row B T vb all acc [a] w h (by simp) (by simp only [List.flatMap_cons, List.flatMap_nil, List.append_nil, len_toList]; exact hlen) hBw
  simp only [List.flatMap_cons, List.flatMap_nil, List.append_nil] at this
  exact this
theorem add_two (B T : Nat) (vb : Value) (all : Bool) (acc : List UInt8) (a b : ByteArray) (w : World) (h : TlAt B T vb all (Lib.byteCells acc) w) (hlen : acc.length + a.size + b.size ≤ 140737488355328) (hBw : B ≤ w.heap.size) :
    Calls Tryz.prog 30 #[.pointer (some ⟨T, 0, none⟩), .slice (some ⟨w.heap.size, 0, none⟩) 2 2] (w.alloc (.cells #[.string a, .string b] 9)) (tellP B T vb all (acc ++ (a.data.toList ++ b.data.toList)) w) := by
  have := add_row B T vb all acc [a, b] w h (by simp) (by simp only [List.flatMap_cons, List.flatMap_nil, List.append_nil, List.length_append, len_toList]; omega) hBw
  simp only [List.flatMap_cons, List.flatMap_nil, List.append_nil] at this
  exact this
theorem add_three (B T : Nat) (vb : Value) (all : Bool) (acc : List UInt8) (a b c : ByteArray) (w : World) (h : TlAt B T vb all (Lib.byteCells acc) w) (hlen : acc.length + a.size + b.size + c.size ≤ 140737488355328) (hBw : B ≤ w.heap.size) :
    Calls Tryz.prog 30 #[.pointer (some ⟨T, 0, none⟩), .slice (some ⟨w.heap.size, 0, none⟩) 3 3] (w.alloc (.cells #[.string a, .string b, .string c] 9)) (tellP B T vb all (acc ++ (a.data.toList ++ (b.data.toList ++ c.data.toList))) w) := by
  have := add_row B T vb all acc [a, b, c] w h (by simp) (by simp only [List.flatMap_cons, List.flatMap_nil, List.append_nil, List.length_append, len_toList]; omega) hBw
  simp only [List.flatMap_cons, List.flatMap_nil, List.append_nil] at this
  exact this
set_option maxRecDepth 100000 in
set_option maxHeartbeats 1000000 in
theorem enc_any (ao : Option Addr) (cap : Nat) (l : List UInt8) (k f t : Nat) (q0 q1 q2 q3 : Int) (ka ca : Option Addr) (kn kc cn cc : Nat) (w : World) (hv : bytesArg w (.slice ao l.length cap) l) (hbig : l.length ≤ 100000) (hft : f ≤ t) (htl : t ≤ l.length) :
    Calls Tryz.prog 58 #[.slice ao l.length cap, .agg #[.int .i64 (k : Int), .int .i64 (f : Int), .int .i64 (t : Int), .int .i64 q0, .int .i64 q1, .slice ka kn kc, .slice ca cn cc, .int .i64 q2, .int .i64 q3]] w fun e w' => e = .returned (.string ⟨(encS20 l (fsOf l f t)).toArray⟩) ∧ Below w.heap.size w w' := by
  have HV := Lib.hid hv
  have HOf := Lib.hid (fun W h1 => of_walk (.slice ao l.length cap) l f t W h1 hft htl (by omega))
  unfold OfPost at HOf
  obtain ⟨fs, hfd⟩ : ∃ fs, fs = fsOf l f t := ⟨_, rfl⟩
  have hsh := fsOf_short l hft htl (by omega)
  rw [show fieldsL l ((linesS l f t).take (eI (linesS l f t))) = fs from hfd.symm] at HOf
  rw [← hfd] at hsh ⊢
  have HVa := Lib.hid (fun W vf h1 h2 => value_any (.slice ao l.length cap) vf l fs ⟨#[99, 111, 110, 116, 101, 110, 116, 45, 116, 114, 97, 110, 115, 102, 101, 114, 45, 101, 110, 99, 111, 100, 105, 110, 103]⟩ W h1 (by omega) h2 hsh)
  have hcn : (⟨#[99, 111, 110, 116, 101, 110, 116, 45, 116, 114, 97, 110, 115, 102, 101, 114, 45, 101, 110, 99, 111, 100, 105, 110, 103]⟩ : ByteArray).data.toList = cteN := rfl
  rw [hcn] at HVa
  have hvl := valueS_short l fs cteN
  have HEn : Hid (encS20 l fs = if foldS (valueS l fs cteN) = [] then sevN else foldS (valueS l fs cteN)) := rfl
  rw [HEn.out]
  obtain ⟨s, hsd⟩ : ∃ s, s = valueS l fs cteN := ⟨_, rfl⟩
  rw [← hsd] at HVa hvl ⊢
  have HF : Hid (∀ W, Calls Tryz.prog 64 #[.string ⟨s.toArray⟩] W fun e w' => e = .returned (.string ⟨(foldS s).toArray⟩) ∧ Below W.heap.size W w') := fun W => fold_any ⟨s.toArray⟩ W (by rw [← len_toList]; show s.length ≤ _; omega)
  obtain ⟨q, hq⟩ : ∃ q, q = foldS s := ⟨_, rfl⟩
  rw [← hq] at HF ⊢
  obtain ⟨A, hA⟩ : ∃ A : ByteArray, A = ⟨q.toArray⟩ := ⟨_, rfl⟩
  rw [← hA] at HF
  have hAl : A.toList = q := by rw [ByteArray.toList_eq, hA]
  obtain ⟨b0, hb0⟩ : ∃ b0, b0 = q.isEmpty := ⟨_, rfl⟩
  have hAl0 : (A.toList == []) = b0 := by rw [hAl, hb0]; cases q <;> rfl
  have hAe : A.toList.isEmpty = b0 := by rw [hAl, hb0]
  obtain ⟨r, hr⟩ : ∃ r, r = if q = [] then sevN else q := ⟨_, rfl⟩
  have HR1 : Hid (b0 = true → (⟨r.toArray⟩ : ByteArray) = ⟨#[55, 98, 105, 116]⟩) := fun h => by rw [hr, if_pos (List.isEmpty_iff.1 (hb0.symm.trans h))]; rfl
  have HR0 : Hid (b0 = false → (⟨r.toArray⟩ : ByteArray) = A) := fun h => by rw [hr, if_neg (fun e => by rw [hb0, e] at h; exact absurd h (by decide)), hA]
  rw [← hr]
  obtain ⟨X, hX⟩ : ∃ X, X = w.alloc (partO k f t q0 q1 (.slice ka kn kc) (.slice ca cn cc) q2 q3) := ⟨_, rfl⟩
  have hc : X.heap[w.heap.size]? = some (partO k f t q0 q1 (.slice ka kn kc) (.slice ca cn cc) q2 q3) := by rw [hX]; exact heap_alloc_new w _
  obtain ⟨t0, t1, t2, t3, t4, t5, t6, t7, t8⟩ := part_cells hc
  have HB : Hid (Below w.heap.size w X) := by rw [hX]; exact (Below.refl _ _).alloc (Nat.le_refl _) _
  unfold partO at hX
  have HX := Lib.hid hX
  clear hcn HEn hsd hq hfd hsh hvl hA hb0 hAl hr hv hc hX
  obtain ⟨H, hH⟩ : ∃ H, H = w.heap.size := ⟨_, rfl⟩
  rw [← hH] at t0 t1 t2 t3 t4 t5 t6 t7 t8
  have HHw := Lib.hid hH
  clear hH
  go_enter Tryz.func58, Tryz.ntmps58
  go_wp2_with fail
  rw [← HX.out, ← HHw.out]
  go_wp2_with fail
  with_reducible refine (HOf.out X (bytesArg.below HV.out HB.out)).mono ?_
  rintro e w3 ⟨u, rfl, ho, hb3⟩
  have HR3 : Hid (rowF w3 u fs) := rowF_owned ho
  obtain ⟨fo, fc, rfl, hfc, hfm, _⟩ := HR3.out.at
  have HB3 := Lib.hid (HB.out.trans (hb3.mono HB.out.size))
  clear ho hb3 t0 t1 t2 t3 t4 t5 t6 t7 t8
  go_wp2_with fail
  with_reducible refine (HVa.out w3 _ (bytesArg.below HV.out HB3.out) HR3.out).mono ?_
  rintro e w4 ⟨rfl, hb4⟩
  have HB4 := Lib.hid (HB3.out.trans (hb4.mono HB3.out.size))
  clear hb4
  go_wp2_with fail
  with_reducible refine (HF.out _).mono ?_
  rintro e w5 ⟨rfl, hb5⟩
  have HB5 := Lib.hid (HB4.out.trans (hb5.mono HB4.out.size))
  clear hb5
  cases b0 with
  | true =>
    go_wp2_with fail
    go_ret
    exact ⟨by rw [HR1.out (by simp)]; rfl, HB5.out⟩
  | false =>
    go_wp2_with fail
    go_ret
    exact ⟨by rw [HR0.out (by simp)]; rfl, HB5.out⟩
end Go.Proofs.YtkmgflnmffdhjaaGreatDoor
