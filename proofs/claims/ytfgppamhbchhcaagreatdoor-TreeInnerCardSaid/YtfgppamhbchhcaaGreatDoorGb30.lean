/- Spans of kids, and how many parts there are, in plain words. No program. -/
import Derived.Test.YtfgppamhbchhcaaGreatDoorGb26
import Derived.Test.YtfgppamhbchhcaaGreatDoorGb25
import Derived.Test.YtfgppamhbchhcaaGreatDoorGb29
import Derived.Test.YtfgppamhbchhcaaGreatDoorKit2
import Derived.Deep.RegionHeldLaw
namespace Go.Proofs.YtfgppamhbchhcaaGreatDoor
open Go Go.RowKit

/-- Delimiters that stand one behind the other, from a on, up to b. -/
def chainC : Nat → Nat → List Sp → Sp → Prop
  | a, b, [], e => a ≤ e.1 ∧ e.1 ≤ e.2 ∧ e.2 ≤ b
  | a, b, c :: r, e => a ≤ c.1 ∧ c.1 ≤ c.2 ∧ chainC c.2 b r e
theorem chainC_mono : ∀ {cs : List Sp} {a a' b : Nat} {e : Sp}, a' ≤ a → chainC a b cs e → chainC a' b cs e
  | [], _, _, _, _, h, hc => ⟨Nat.le_trans h hc.1, hc.2⟩
  | _ :: _, _, _, _, _, h, hc => ⟨Nat.le_trans h hc.1, hc.2⟩
theorem cutsS_chain (l m0 : List UInt8) (bt : Nat) : ∀ (ls : List Ln) (fr a : Nat), fr ≤ a → chainL a bt ls → chainC fr bt (cutsS l m0 bt fr ls).1 (cutsS l m0 bt fr ls).2
  | [], fr, a, h, hc => by
    have : a ≤ bt := hc
    exact ⟨Nat.le_trans h this, Nat.le_refl _, Nat.le_refl _⟩
  | x :: r, fr, a, h, hc => by
    obtain ⟨h1, h2, h3, h4⟩ := hc
    have hle := chainL_le h4
    rcases lkS_le m0 (textOf l x) with hk | hk | hk
    · rw [cutsS_other (by rw [hk]; decide) (by rw [hk]; decide)]
      exact chainC_mono (by omega) (cutsS_chain l m0 bt r x.t x.n h3 h4)
    · rw [cutsS_open hk]
      exact ⟨Nat.le_refl _, show fr ≤ x.n by omega, cutsS_chain l m0 bt r x.n x.n (Nat.le_refl _) h4⟩
    · rw [cutsS_close hk]
      exact ⟨Nat.le_refl _, show fr ≤ x.n by omega, show x.n ≤ bt from hle⟩
theorem chainC_le : ∀ {cs : List Sp} {a b : Nat} {e : Sp}, chainC a b cs e → a ≤ e.1 ∧ e.1 ≤ b
  | [], a, b, e, h => ⟨h.1, Nat.le_trans h.2.1 h.2.2⟩
  | c :: r, a, b, e, h => by
    obtain ⟨h1, h2, h3⟩ := h
    have := chainC_le h3
    omega
theorem kidsS_in : ∀ {cs : List Sp} {a b : Nat} {e : Sp}, chainC a b cs e → ∀ s ∈ kidsS cs e, a ≤ s.1 ∧ s.1 ≤ s.2 ∧ s.2 ≤ b
  | [], _, _, _, _ => fun s hs => by cases hs
  | [c], a, b, e, h => fun s hs => by
    obtain ⟨h1, h2, h3, h4, h5⟩ := h
    rcases List.mem_cons.1 hs with rfl | hs
    · exact ⟨by show a ≤ c.2; omega, h3, by show e.1 ≤ b; omega⟩
    · cases hs
  | c :: d :: r, a, b, e, h => fun s hs => by
    obtain ⟨h1, h2, h3⟩ := h
    have hd := h3
    obtain ⟨h4, h5, h6⟩ := hd
    have := chainC_le h6
    rcases List.mem_cons.1 hs with rfl | hs
    · exact ⟨by show a ≤ c.2; omega, h4, by show d.1 ≤ b; omega⟩
    · have := kidsS_in h3 s hs
      omega
theorem pdS_in (l : List UInt8) (fs : List Fld) {h t : Nat} (hht : h ≤ t) (htl : t ≤ l.length) (k : Val) : ∀ s ∈ (pdS l fs h t k).kids, s.1 ≤ s.2 ∧ s.2 ≤ t := by
  unfold pdS
  split
  · split
    · next b hb =>
      intro s hs
      have := kidsS_in (cutsS_chain l (45 :: 45 :: b) t (linesS l h t) h h (Nat.le_refl _) (chainL_lines l _ h t (Nat.le_refl _) hht htl)) s hs
      omega
    · exact fun s hs => by cases hs
  · split
    · intro s hs
      rcases List.mem_cons.1 hs with rfl | hs
      · exact ⟨hht, Nat.le_refl _⟩
      · cases hs
    · exact fun s hs => by cases hs
theorem cutsS_len (l m0 : List UInt8) (bt : Nat) : ∀ (ls : List Ln) (fr : Nat), (cutsS l m0 bt fr ls).1.length ≤ ls.length
  | [], _ => Nat.le_refl _
  | x :: r, fr => by
    rcases lkS_le m0 (textOf l x) with hk | hk | hk
    · rw [cutsS_other (by rw [hk]; decide) (by rw [hk]; decide)]
      exact Nat.le_succ_of_le (cutsS_len l m0 bt r x.t)
    · rw [cutsS_open hk]
      simp only [List.length_cons]
      exact Nat.succ_le_succ (cutsS_len l m0 bt r x.n)
    · rw [cutsS_close hk]
      exact Nat.zero_le _
/-- What a part's kind tells of its kids. -/
theorem pdS_kids (l : List UInt8) (fs : List Fld) (h t : Nat) (k : Val) : (pdS l fs h t k).kids = (if (pdS l fs h t k).kind = 2 then [(h, t)] else kidsS (pdS l fs h t k).cuts (pdS l fs h t k).e) := by
  unfold pdS
  split
  · split
    · rfl
    · rfl
  · split
    · rfl
    · rfl
theorem pdS_cuts (l : List UInt8) (fs : List Fld) {h t : Nat} (htl : t ≤ l.length) (k : Val) : (pdS l fs h t k).cuts.length ≤ l.length := by
  have h1 := linesS_len l h t
  unfold pdS
  split
  · split
    · have := cutsS_len l (45 :: 45 :: (by assumption)) t (linesS l h t) h
      exact Nat.le_trans this (by omega)
    · exact Nat.zero_le _
  · split
    · exact Nat.zero_le _
    · exact Nat.zero_le _
theorem kidsRun_le {F : Sp → Nat → Tr × Nat} (hF : ∀ s c, c ≤ 1000 → (F s c).2 ≤ 1000) : ∀ (ss : List Sp) (c : Nat), c ≤ 1000 → (kidsRun F ss c).2 ≤ 1000
  | [], _, h => h
  | s :: r, c, h => kidsRun_le hF r _ (hF s c h)
theorem entS_le (l : List UInt8) : ∀ (d : Nat) (s : Sp) (g : Bool) (c : Nat), c ≤ 1000 → (entS l d s g c).2 ≤ 1000
  | 0, _, _, _, h => h
  | d + 1, s, g, c, h => by
    unfold entS
    simp only
    split
    · exact h
    · next hn =>
      simp only [not_or] at hn
      exact kidsRun_le (fun s' c' h' => entS_le l d s' _ c' h') _ _ (by omega)
theorem entS_leaf {l : List UInt8} {d : Nat} {s : Sp} {g : Bool} {c : Nat} (h : (pdS l (fsOf l s.1 s.2) (hdOf l s.1 s.2) s.2 (typeS l (fsOf l s.1 s.2) g)).kids = [] ∨ 1000 < c + (pdS l (fsOf l s.1 s.2) (hdOf l s.1 s.2) s.2 (typeS l (fsOf l s.1 s.2) g)).kids.length) :
    entS l (d + 1) s g c = (leafT s.1 (hdOf l s.1 s.2) s.2, c) := by
  unfold entS
  simp only
  rw [if_pos h]
theorem entS_kids {l : List UInt8} {d : Nat} {s : Sp} {g : Bool} {c : Nat} {k : Val} {p : Pd} (hk : k = typeS l (fsOf l s.1 s.2) g) (hp : p = pdS l (fsOf l s.1 s.2) (hdOf l s.1 s.2) s.2 k) (h : ¬ (p.kids = [] ∨ 1000 < c + p.kids.length)) :
    entS l (d + 1) s g c = (.mk p.kind (s.1, hdOf l s.1 s.2) (hdOf l s.1 s.2, s.2) (kidsRun (fun s' c' => entS l d s' (digS k) c') p.kids (c + p.kids.length)).1 p.cuts p.e,
      (kidsRun (fun s' c' => entS l d s' (digS k) c') p.kids (c + p.kids.length)).2) := by
  subst hk hp
  rw [entS, if_neg h]
end Go.Proofs.YtfgppamhbchhcaaGreatDoor

/- A tree of parts in memory. -/
namespace Go.Proofs.YtfgppamhbchhcaaGreatDoor
open Go Go.RowKit

def partCells : Value → List Value | .agg cs => cs.toList | _ => []
/-- A row of the call's own, in a block of which S holds. -/
def ownS (S : Nat → Prop) (W : World) (ty : TypeId) (size : Nat) (v : Value) (n : Nat) (xs : List Value) : Prop := W.ownsRow 0 ty size v n xs ∧ ∀ a, v.ownBlock = some a → S a
theorem ownS.keep {S S' : Nat → Prop} {W W' : World} {ty : TypeId} {size : Nat} {v : Value} {n : Nat} {xs : List Value} (h : ownS S W ty size v n xs) (hk : ∀ k, S k → k < W.heap.size → W'.heap[k]? = W.heap[k]? ∧ S' k) : ownS S' W' ty size v n xs := by
  obtain ⟨ho, hS⟩ := h
  have hlt := ho.lt
  refine ⟨⟨ho.1, ?_⟩, fun a ha => (hk a (hS a ha) (hlt a ha).2).2⟩
  rcases ho.2 with h2 | ⟨g, cap, cur, rfl, hg, hh, r⟩
  · exact .inl h2
  · have hgo : (Value.slice (some ⟨g, 0, none⟩) n cap).ownBlock = some g := rfl
    exact .inr ⟨g, cap, cur, rfl, hg, (hk g (hS g hgo) (hlt g hgo).2).1.trans hh, r⟩
mutual
def treeAt (S : Nat → Prop) (W : World) : Tr → Value → Prop
  | .mk k hd bd ks cs e, u => ∃ ka kn kc ca cn cc us, u = partV k hd bd (.slice ka kn kc) (.slice ca cn cc) e ∧ ownS S W 26 2 (.slice ca cn cc) cs.length (spCells cs) ∧
      ownS S W 30 9 (.slice ka kn kc) us.length (us.flatMap partCells) ∧ kidsAt S W ks us
def kidsAt (S : Nat → Prop) (W : World) : List Tr → List Value → Prop
  | [], us => us = []
  | t :: r, us => ∃ u us', us = u :: us' ∧ treeAt S W t u ∧ kidsAt S W r us'
end
mutual
theorem treeAt.keep {S S' : Nat → Prop} {W W' : World} (hk : ∀ k, S k → k < W.heap.size → W'.heap[k]? = W.heap[k]? ∧ S' k) : ∀ (t : Tr) (u : Value), treeAt S W t u → treeAt S' W' t u
  | .mk k hd bd ks cs e, u, h => by
    unfold treeAt at h ⊢
    obtain ⟨ka, kn, kc, ca, cn, cc, us, h1, h2, h3, h4⟩ := h
    exact ⟨ka, kn, kc, ca, cn, cc, us, h1, h2.keep hk, h3.keep hk, kidsAt.keep hk ks us h4⟩
theorem kidsAt.keep {S S' : Nat → Prop} {W W' : World} (hk : ∀ k, S k → k < W.heap.size → W'.heap[k]? = W.heap[k]? ∧ S' k) : ∀ (ts : List Tr) (us : List Value), kidsAt S W ts us → kidsAt S' W' ts us
  | [], us, h => by
    unfold kidsAt at h ⊢
    exact h
  | t :: r, us, h => by
    unfold kidsAt at h ⊢
    obtain ⟨u, us', h1, h2, h3⟩ := h
    exact ⟨u, us', h1, treeAt.keep hk t u h2, kidsAt.keep hk r us' h3⟩
end
theorem kidsAt_nil (S : Nat → Prop) (W : World) : kidsAt S W [] [] := by unfold kidsAt; rfl
theorem kidsAt_snoc {S : Nat → Prop} {W : World} : ∀ {ts : List Tr} {us : List Value} {t : Tr} {u : Value}, kidsAt S W ts us → treeAt S W t u → kidsAt S W (ts ++ [t]) (us ++ [u])
  | [], us, t, u, h, ht => by
    unfold kidsAt at h
    subst h
    show kidsAt S W [t] [u]
    unfold kidsAt
    exact ⟨u, [], rfl, ht, kidsAt_nil _ _⟩
  | x :: r, us, t, u, h, ht => by
    unfold kidsAt at h
    obtain ⟨v, us', rfl, h2, h3⟩ := h
    show kidsAt S W (x :: (r ++ [t])) (v :: (us' ++ [u]))
    unfold kidsAt
    exact ⟨v, us' ++ [u], rfl, h2, kidsAt_snoc h3 ht⟩
theorem kidsAt_len {S : Nat → Prop} {W : World} : ∀ {ts : List Tr} {us : List Value}, kidsAt S W ts us → us.length = ts.length
  | [], us, h => by
    unfold kidsAt at h
    subst h
    rfl
  | t :: r, us, h => by
    unfold kidsAt at h
    obtain ⟨u, us', rfl, _, h3⟩ := h
    simp [kidsAt_len h3]
theorem treeAt_part {S : Nat → Prop} {W : World} {t : Tr} {u : Value} (h : treeAt S W t u) : ∃ ka kn kc ca cn cc, u = partV t.kind t.hd t.bd (.slice ka kn kc) (.slice ca cn cc) t.e := by
  cases t
  unfold treeAt at h
  obtain ⟨ka, kn, kc, ca, cn, cc, us, h1, _⟩ := h
  exact ⟨ka, kn, kc, ca, cn, cc, h1⟩
theorem ownS_nil (S : Nat → Prop) (W : World) (ty : TypeId) (size : Nat) : ownS S W ty size (.slice none 0 0) 0 [] := ⟨World.ownsRow_nil _ _ _ _, fun a h => by cases h⟩
theorem leaf_at (S : Nat → Prop) (W : World) (f h t : Nat) : treeAt S W (leafT f h t) (partV 0 (f, h) (h, t) (.slice none 0 0) (.slice none 0 0) (0, 0)) := by
  unfold leafT treeAt
  exact ⟨none, 0, 0, none, 0, 0, [], rfl, ownS_nil _ _ _ _, ownS_nil _ _ _ _, kidsAt_nil _ _⟩
theorem own_base0 {S : Nat → Prop} {W : World} {base : Nat} {ty : TypeId} {size : Nat} {v : Value} {n : Nat} {xs : List Value} (h : W.ownsRow base ty size v n xs) (hS : ∀ a, base ≤ a → a < W.heap.size → S a) : ownS S W ty size v n xs :=
  ⟨own_base2 h (Nat.zero_le _), fun a ha => hS a (h.lt a ha).1 (h.lt a ha).2⟩
/-- The maker's block. -/
structure Mk (W : World) (M : Nat) (v : Value) (c : Nat) : Prop where
  c0 : W.cell? ⟨M, 0, none⟩ = some v
  c1 : W.cell? ⟨M, 1, none⟩ = some (.int .i64 (c : Int))
  f1 : W.frozen? ⟨M, 1, none⟩ = false
theorem Mk.lt {W : World} {M : Nat} {v : Value} {c : Nat} (h : Mk W M v c) : M < W.heap.size := World.block_lt_of_cell? _ _ h.c0
theorem Mk.block {W W' : World} {M : Nat} {v : Value} {c : Nat} (h : Mk W M v c) (hb : W'.heap[M]? = W.heap[M]?) : Mk W' M v c :=
  ⟨(World.cell?_of_block (a := ⟨M, 0, none⟩) hb).trans h.c0, (World.cell?_of_block (a := ⟨M, 1, none⟩) hb).trans h.c1, (World.frozen?_of_block (a := ⟨M, 1, none⟩) hb).trans h.f1⟩
theorem Mk.below {W W' : World} {M : Nat} {v : Value} {c : Nat} (h : Mk W M v c) (hb : Below W.heap.size W W') : Mk W' M v c := h.block (hb.block M h.lt)
theorem Mk.set {W : World} {M : Nat} {v : Value} {c : Nat} (h : Mk W M v c) (j : Nat) : Mk (W.setCell ⟨M, 1, none⟩ (.int .i64 (j : Int))) M v j :=
  ⟨(World.cell?_setCell_other _ ⟨M, 1, none⟩ ⟨M, 0, none⟩ _ (by simp)).trans h.c0, World.cell?_setCell_same _ _ _ h.c1, (World.frozen?_setCell _ _ _ _).trans h.f1⟩
theorem Mk.far {W : World} {M : Nat} {v : Value} {c : Nat} (h : Mk W M v c) {p : Addr} (hp : M ≠ p.block) (u : Value) : Mk (W.setCell p u) M v c := h.block (Below.heap_setCell _ _ _ _ hp)
/-- What an entity's call leaves. -/
def entPost (M : Nat) (v : Value) (r : Tr × Nat) (w : World) (e : Ending) (w' : World) : Prop :=
  ∃ u, e = .returned u ∧ treeAt (fun k => w.heap.size ≤ k) w' r.1 u ∧ Gr M w w' ∧ Mk w' M v r.2
theorem gr_below {M : Nat} {w0 w w' : World} (h : Below w0.heap.size w0 w) (hM : w0.heap.size ≤ M) (hg : Gr M w w') : Below w0.heap.size w0 w' := h.grown hg h.size (fun k hk => by cases hk; exact hM)
theorem below_gr {M : Nat} {w w' : World} (h : Below w.heap.size w w') : Gr M w w' := (Gr.refl M w).below h
theorem mk_set9 {M : Nat} {v : Value} {c : Nat} {W : World} {g : Nat} {a0 a1 a2 a3 a4 a5 a6 a7 a8 : Value} (h : Mk W M v c) (hg : M ≠ g) :
    Mk (((((((((W.setCell ⟨g, 0, none⟩ a0).setCell ⟨g, 1, none⟩ a1).setCell ⟨g, 2, none⟩ a2).setCell ⟨g, 3, none⟩ a3).setCell ⟨g, 4, none⟩ a4).setCell ⟨g, 5, none⟩ a5).setCell ⟨g, 6, none⟩ a6).setCell ⟨g, 7, none⟩ a7).setCell ⟨g, 8, none⟩ a8) M v c :=
  ((((((((h.far (p := ⟨g, 0, none⟩) hg _).far (p := ⟨g, 1, none⟩) hg _).far (p := ⟨g, 2, none⟩) hg _).far (p := ⟨g, 3, none⟩) hg _).far (p := ⟨g, 4, none⟩) hg _).far (p := ⟨g, 5, none⟩) hg _).far (p := ⟨g, 6, none⟩) hg _).far (p := ⟨g, 7, none⟩) hg _).far (p := ⟨g, 8, none⟩) hg _
theorem leaf_end {M : Nat} {v : Value} {c : Nat} {w X : World} {B : Nat} (f h t : Nat) (hB : w.heap.size ≤ B) (hMB : M ≠ B) (hb : Below w.heap.size w X) (hm : Mk X M v c) :
    entPost M v (leafT f h t, c) w (.returned (partV 0 (f, h) (h, t) (.slice none 0 0) (.slice none 0 0) (0, 0))) (((((((((X.setCell ⟨B, 0, none⟩ (.int .i64 0)).setCell ⟨B, 1, none⟩ (.int .i64 (f : Int))).setCell ⟨B, 2, none⟩ (.int .i64 (h : Int))).setCell ⟨B, 3, none⟩ (.int .i64 (h : Int))).setCell ⟨B, 4, none⟩ (.int .i64 (t : Int))).setCell ⟨B, 5, none⟩ (.slice none 0 0)).setCell ⟨B, 6, none⟩ (.slice none 0 0)).setCell ⟨B, 7, none⟩ (.int .i64 0)).setCell ⟨B, 8, none⟩ (.int .i64 0)) :=
  ⟨_, rfl, leaf_at _ _ f h t, below_gr (below_set9 hb hB), mk_set9 hm hMB⟩
theorem treeAt_agg {S : Nat → Prop} {W : World} {t : Tr} {u : Value} (h : treeAt S W t u) : ∃ ka kn kc ca cn cc, u = .agg #[.int .i64 (t.kind : Int), .int .i64 (t.hd.1 : Int), .int .i64 (t.hd.2 : Int), .int .i64 (t.bd.1 : Int), .int .i64 (t.bd.2 : Int), .slice ka kn kc, .slice ca cn cc, .int .i64 (t.e.1 : Int), .int .i64 (t.e.2 : Int)] := by
  obtain ⟨ka, kn, kc, ca, cn, cc, h⟩ := treeAt_part h
  exact ⟨ka, kn, kc, ca, cn, cc, h⟩
theorem Tryz.infoPt : (Tryz.prog.info? 30).map (fun i => (i.zero, i.size, i.bytes)) = some (some (.agg #[.int .i64 0, .int .i64 0, .int .i64 0, .int .i64 0, .int .i64 0, .slice none 0 0, .slice none 0 0, .int .i64 0, .int .i64 0]), 9, 104) := by kernel_rfl
/-- All that lay lies, but for two blocks. -/
structure K2 (M P : Nat) (W W' : World) : Prop where
  os : W'.os = W.os
  tape : W'.tape = W.tape
  output : W'.output = W.output
  size : W.heap.size ≤ W'.heap.size
  block : ∀ k, k < W.heap.size → k ≠ M → k ≠ P → W'.heap[k]? = W.heap[k]?
theorem K2.refl (M P : Nat) (W : World) : K2 M P W W := ⟨rfl, rfl, rfl, Nat.le_refl _, fun _ _ _ _ => rfl⟩
theorem K2.below {M P : Nat} {W W' W'' : World} (h : K2 M P W W') (hb : Below W'.heap.size W' W'') : K2 M P W W'' :=
  ⟨hb.os.trans h.os, hb.tape.trans h.tape, hb.output.trans h.output, Nat.le_trans h.size hb.size, fun k hk h1 h2 => (hb.block k (Nat.lt_of_lt_of_le hk h.size)).trans (h.block k hk h1 h2)⟩
theorem K2.gr {M P : Nat} {W W' W'' : World} (h : K2 M P W W') (hg : Gr M W' W'') : K2 M P W W'' :=
  ⟨hg.os.trans h.os, hg.tape.trans h.tape, hg.output.trans h.output, Nat.le_trans h.size hg.size, fun k hk h1 h2 => (hg.block k (Nat.lt_of_lt_of_le hk h.size) (fun e => h1 (Option.some.inj e))).trans (h.block k hk h1 h2)⟩
theorem K2.grM {M P : Nat} {W W' W'' : World} (h : K2 M P W W') (hg : W'.grownBy W'' (some M)) : K2 M P W W'' := h.gr hg
theorem K2.grown {M P : Nat} {W W' W'' : World} {row : Option Nat} (h : K2 M P W W') (hg : W'.grownBy W'' row) (hr : ∀ k, row = some k → W.heap.size ≤ k) : K2 M P W W'' :=
  ⟨hg.os.trans h.os, hg.tape.trans h.tape, hg.output.trans h.output, Nat.le_trans h.size hg.size, fun k hk h1 h2 => (hg.block k (Nat.lt_of_lt_of_le hk h.size) (fun e => by have := hr k e.symm; omega)).trans (h.block k hk h1 h2)⟩
theorem K2.set {M P : Nat} {W W' : World} (h : K2 M P W W') (j : Nat) (u : Value) : K2 M P W (W'.setCell ⟨P, j, none⟩ u) :=
  ⟨h.os, h.tape, h.output, by rw [size_set]; exact h.size, fun k hk h1 h2 => (Below.heap_setCell _ _ _ _ h2).trans (h.block k hk h1 h2)⟩
theorem K2.to {M P : Nat} {w W W' : World} (h : K2 M P W W') (hb : Gr M w W) (hP : w.heap.size ≤ P) : Gr M w W' :=
  ⟨h.os.trans hb.os, h.tape.trans hb.tape, h.output.trans hb.output, Nat.le_trans hb.size h.size, fun k hk h1 => (h.block k (Nat.lt_of_lt_of_le hk hb.size) (fun e => h1 (by rw [e])) (by omega)).trans (hb.block k hk h1)⟩
theorem K2.trans {M P : Nat} {a b c : World} (h : K2 M P a b) (k : K2 M P b c) : K2 M P a c :=
  ⟨k.os.trans h.os, k.tape.trans h.tape, k.output.trans h.output, Nat.le_trans h.size k.size, fun q hq h1 h2 => (k.block q (Nat.lt_of_lt_of_le hq h.size) h1 h2).trans (h.block q hq h1 h2)⟩
theorem K2.base {M P : Nat} {w0 W W' : World} (h : K2 M P W W') (hb : Below w0.heap.size w0 W) (hM : w0.heap.size ≤ M) (hP : w0.heap.size ≤ P) : Below w0.heap.size w0 W' :=
  ⟨h.os.trans hb.os, h.tape.trans hb.tape, h.output.trans hb.output, Nat.le_trans hb.size h.size, fun k hk => (h.block k (Nat.lt_of_lt_of_le hk hb.size) (by omega) (by omega)).trans (hb.block k hk)⟩
theorem own_k2 {M P base size n : Nat} {W W' : World} {ty : TypeId} {v : Value} {xs : List Value} (h : W.ownsRow base ty size v n xs) (k : K2 M P W W') (hM : M < base) (hP : P < base) : W'.ownsRow base ty size v n xs := by
  have hlt := h.lt
  refine ⟨h.1, ?_⟩
  rcases h.2 with h2 | ⟨g, cap, cur, rfl, hg, hh, r⟩
  · exact .inl h2
  · have hgo : (Value.slice (some ⟨g, 0, none⟩) n cap).ownBlock = some g := rfl
    exact .inr ⟨g, cap, cur, rfl, hg, (k.block g (hlt g hgo).2 (by omega) (by omega)).trans hh, r⟩
theorem gr_set {M : Nat} {w W : World} {p : Addr} (h : Gr M w W) (hp : w.heap.size ≤ p.block) (u : Value) : Gr M w (W.setCell p u) :=
  ⟨h.os, h.tape, h.output, by rw [size_set]; exact h.size, fun k hk h1 => (Below.heap_setCell _ _ _ _ (by omega)).trans (h.block k hk h1)⟩
theorem gr_set9 {M : Nat} {w W : World} {g : Nat} {a0 a1 a2 a3 a4 a5 a6 a7 a8 : Value} (h : Gr M w W) (hg : w.heap.size ≤ g) :
    Gr M w (((((((((W.setCell ⟨g, 0, none⟩ a0).setCell ⟨g, 1, none⟩ a1).setCell ⟨g, 2, none⟩ a2).setCell ⟨g, 3, none⟩ a3).setCell ⟨g, 4, none⟩ a4).setCell ⟨g, 5, none⟩ a5).setCell ⟨g, 6, none⟩ a6).setCell ⟨g, 7, none⟩ a7).setCell ⟨g, 8, none⟩ a8) :=
  gr_set (gr_set (gr_set (gr_set (gr_set (gr_set (gr_set (gr_set (gr_set h hg _) hg _) hg _) hg _) hg _) hg _) hg _) hg _) hg _
theorem heap_set9 {W : World} {g q : Nat} {a0 a1 a2 a3 a4 a5 a6 a7 a8 : Value} (hq : q ≠ g) :
    (((((((((W.setCell ⟨g, 0, none⟩ a0).setCell ⟨g, 1, none⟩ a1).setCell ⟨g, 2, none⟩ a2).setCell ⟨g, 3, none⟩ a3).setCell ⟨g, 4, none⟩ a4).setCell ⟨g, 5, none⟩ a5).setCell ⟨g, 6, none⟩ a6).setCell ⟨g, 7, none⟩ a7).setCell ⟨g, 8, none⟩ a8).heap[q]? = W.heap[q]? := by
  rw [Below.heap_setCell _ _ _ _ hq, Below.heap_setCell _ _ _ _ hq, Below.heap_setCell _ _ _ _ hq, Below.heap_setCell _ _ _ _ hq, Below.heap_setCell _ _ _ _ hq, Below.heap_setCell _ _ _ _ hq, Below.heap_setCell _ _ _ _ hq, Below.heap_setCell _ _ _ _ hq, Below.heap_setCell _ _ _ _ hq]
end Go.Proofs.YtfgppamhbchhcaaGreatDoor

/- A law of my own, of no function: a region that draws its order and ends in one operation that waits for all that it must: what the loads read need hold only ahead of that one. (After the library's walk with a held condition; here the last operation may break it.) -/
namespace Go.Proofs.YtfgppamhbchhcaaGreatDoor
open Go Go.RowKit
section
variable {P : Program} {ops : Array Oper} {Q : Exit → Act → World → Prop} {md : Region.Mode} {S : World → Prop} {n : Nat}
/-- Whatever order is picked from here on, and S holds behind every operation but the last. -/
def wpAnyN (P : Program) (md : Region.Mode) (ops : Array Oper) (Q : Exit → Act → World → Prop) (S : World → Prop) (n : Nat) : Nat → Array Bool → Act → World → Prop
  | 0, listed, a, w => Region.ready md ops listed = [] ∧ Q .normal a w
  | fuel + 1, listed, a, w =>
    (Region.ready md ops listed = [] → Q .normal a w) ∧
    ∀ i ∈ Region.ready md ops listed, wpOp P ops Q i (fun a' w' => (i ≠ n → S w') ∧ wpAnyN P md ops Q S n fuel (listed.setIfInBounds i true) a' w') a w
theorem wpAny_of_last : ∀ (fuel : Nat) (listed : Array Bool) (a : Act) (w : World), wpAnyN P md ops Q S n fuel listed a w → wpAny P md ops Q fuel listed a w
  | 0, _, _, _, h => h
  | fuel + 1, _, _, _, h => ⟨h.1, fun i hi => wpOp_mono (fun a' w' h' => wpAny_of_last fuel _ a' w' h'.2) (h.2 i hi)⟩
/-- The last operation waits for this one. -/
def lastWaits (md : Region.Mode) (ops : Array Oper) (n i : Nat) : Bool :=
  match ops[n]? with
  | some o => o.after.toList.any fun e => Region.binds md e && e.on == i
  | none => true
theorem last_not {i : Nat} {listed : Array Bool} (hl : lastWaits md ops n i = true) (hun : listed.getD i true = false) : n ∉ Region.ready md ops listed := by
  intro hr
  obtain ⟨_, o, ho, hall⟩ := mem_ready.1 hr
  unfold lastWaits at hl
  rw [ho] at hl
  obtain ⟨e, he, hb⟩ := List.any_eq_true.1 hl
  simp only [Bool.and_eq_true, beq_iff_eq] at hb
  have h1 := hall e (by simpa using he) hb.1
  rw [hb.2] at h1
  rcases Nat.lt_or_ge i listed.size with h' | h'
  · simp [h'] at hun h1; rw [hun] at h1; cases h1
  · simp [Array.getElem?_eq_none h'] at h1
theorem wpAnyN_first {i : Nat} {oi : Oper} {v : Value} (hi : ops[i]? = some oi) (hsel : ∀ (j : Nat) (o : Oper) cs b, ops[j]? = some o → o.op ≠ .select cs b)
    (hQ : ∀ c a w, Q (.panic c) (a.put oi.dst v) w → Q (.panic c) a w) (hl : lastWaits md ops n i = true) :
    ∀ (fuel : Nat) (listed : Array Bool) (a : Act) (w : World),
      (∀ j oj, ops[j]? = some oj → j ≠ i → listed.getD j true = false → (∀ e ∈ oj.after, Region.binds md e = true → e.on ≠ i) → oi.apart ops oj = true) →
      i ∈ Region.ready md ops listed → YieldsIf P ops S oi v a → S w →
      wpAnyN P md ops Q S n fuel (listed.setIfInBounds i true) (a.put oi.dst v) w → wpAnyN P md ops Q S n (fuel + 1) listed a w := by
  intro fuel
  induction fuel with
  | zero =>
    intro listed a w _ hr hy hS H
    refine ⟨fun h => (by rw [h] at hr; cases hr), fun j hj => ?_⟩
    by_cases hji : j = i
    · subst hji; exact hy.wpOp hi hS ⟨fun _ => hS, H⟩
    · have := ready_mono hj hji
      rw [H.1] at this
      cases this
  | succ fuel ih =>
    intro listed a w hfree hr hy hS H
    refine ⟨fun h => (by rw [h] at hr; cases hr), fun j hj => ?_⟩
    by_cases hji : j = i
    · subst hji; exact hy.wpOp hi hS ⟨fun _ => hS, H⟩
    · have h1 := H.2 j (ready_mono hj hji)
      obtain ⟨hjun, oj, hoj, hall⟩ := mem_ready.1 hj
      have hjn : j ≠ n := fun e => last_not hl (mem_ready.1 hr).1 (e ▸ hj)
      have hnot : ∀ e ∈ oj.after, Region.binds md e = true → e.on ≠ i := fun e he hb heq => by
        have h1 := hall e he hb
        have h0 := (mem_ready.1 hr).1
        rw [heq] at h1
        rcases Nat.lt_or_ge i listed.size with h' | h'
        · simp [h'] at h0 h1; rw [h0] at h1; cases h1
        · simp [Array.getElem?_eq_none h'] at h1
      have h2 := wpOp_putIf hoj (hfree j oj hoj hji hjun hnot) (fun cs b => hsel i oi cs b hi) (fun cs b => hsel j oj cs b hoj) hQ hy h1
      have hfree' : ∀ k ok, ops[k]? = some ok → k ≠ i → (listed.setIfInBounds j true).getD k true = false →
          (∀ e ∈ ok.after, Region.binds md e = true → e.on ≠ i) → oi.apart ops ok = true := fun k ok hk hki hun hno => by
        refine hfree k ok hk hki ?_ hno
        by_cases hjk : j = k
        · subst hjk; exact hjun
        · rw [getD_set_ne true hjk] at hun; exact hun
      refine wpOp_mono (fun a' w' h3 => ⟨h3.2.1, ih (listed.setIfInBounds j true) a' w' hfree' (ready_mono hr (Ne.symm hji)) h3.1 (h3.2.1 hjn) ?_⟩) h2
      rw [Array.setIfInBounds_comm _ _ hji]
      exact h3.2.2
theorem wpAnyN_take {i : Nat} {oi : Oper} {v : Value} {fuel : Nat} {listed : Array Bool} {a : Act} {w : World} (hi : ops[i]? = some oi)
    (hs : Region.noSelect ops = true) (hf : Region.free md ops listed i = true) (hr : (Region.ready md ops listed).contains i = true) (hl : lastWaits md ops n i = true)
    (hQ : ∀ c a w, Q (.panic c) (a.put oi.dst v) w → Q (.panic c) a w) (hy : YieldsIf P ops S oi v a) (hS : S w)
    (h : wpAnyN P md ops Q S n fuel (listed.setIfInBounds i true) (a.put oi.dst v) w) : wpAnyN P md ops Q S n (fuel + 1) listed a w :=
  wpAnyN_first hi (Region.noSelect_spec hs) hQ hl fuel listed a w (Region.free_spec hi hf) (by simpa using hr) hy hS h
theorem wpAnyN_takeE {i : Nat} {oi : Oper} {fuel : Nat} {listed : Array Bool} {a : Act} {w : World} (hi : ops[i]? = some oi)
    (hs : Region.noSelect ops = true) (hf : Region.free md ops listed i = true) (hr : (Region.ready md ops listed).contains i = true) (hl : lastWaits md ops n i = true)
    (hQ : ∀ v c a w, Q (.panic c) (a.put oi.dst v) w → Q (.panic c) a w) (hw : Region.wanted oi (yielded ops a.tmps) = true) (hS : S w)
    (h : ∃ v, (∀ w, S w → (execOp a.eval oi).run P w = .ok (.value v) w) ∧ wpAnyN P md ops Q S n fuel (listed.setIfInBounds i true) (a.put oi.dst v) w) : wpAnyN P md ops Q S n (fuel + 1) listed a w :=
  let ⟨v, h1, h2⟩ := h
  wpAnyN_take hi hs hf hr hl (hQ v) (.inl ⟨hw, h1⟩) hS h2
theorem wpAnyN_one {fuel : Nat} {listed : Array Bool} {a : Act} {w : World} {i : Nat} {o : Oper} (hr : Region.ready md ops listed = [i]) (ho : ops[i]? = some o)
    (h : ∀ K' : Act → World → Prop, Shut (∀ a w, (i ≠ n → S w) → wpAnyN P md ops Q S n fuel (listed.setIfInBounds i true) a w → K' a w) → if Region.wanted o (yielded ops a.tmps) = true then Oper.wp P o a w K' Q else K' (a.put o.dst undef) w) :
    wpAnyN P md ops Q S n (fuel + 1) listed a w := by
  refine ⟨fun h0 => (by rw [hr] at h0; cases h0), fun j hj => ?_⟩
  rw [hr] at hj
  obtain rfl : j = i := by simpa using hj
  exact wpOp_step ho (fun K' hK => h K' (fun a w hS hW => hK a w ⟨hS, hW⟩))
theorem wpAnyN_done {listed : Array Bool} {a : Act} {w : World} (hr : Region.ready md ops listed = []) (h : Q .normal a w) : ∀ fuel, wpAnyN P md ops Q S n fuel listed a w
  | 0 => ⟨hr, h⟩
  | _ + 1 => ⟨fun _ => h, by rw [hr]; simp⟩
theorem wp_region_last {id : Nat} {a : Act} {w : World} (S : World → Prop) (n : Nat) (hm : P.follows .mixedOrders = true)
    (h : wpAnyN P .any ops Q S n ops.size (Array.replicate ops.size false) a w.drew) : (Code.region id ops true).wp P Q a w := wp_region_any hm (wpAny_of_last _ _ _ _ h)
end
end Go.Proofs.YtfgppamhbchhcaaGreatDoor
