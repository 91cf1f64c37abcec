/- Contracts of package tree: entity whole, Parse. -/
import Derived.Test.YtkmgflnmffdhjaaGreatDoorGbTrG
import Derived.Test.YtkmgflnmffdhjaaGreatDoorGbStI
import Derived.Test.YtkmgflnmffdhjaaGreatDoorGbEnC
import Derived.Test.YtkmgflnmffdhjaaGreatDoorGbAdT
namespace Go.Proofs.YtkmgflnmffdhjaaGreatDoor
open Go Go.RowKit

theorem entity_any (M : Nat) (v : Value) (l : List UInt8) (w0 : World) (he : env w0) (hv : bytesArg w0 v l) (hbig : l.length ≤ 100000) (hM0 : w0.heap.size ≤ M) : ∀ (d : Nat), d ≤ 32 →
    ∀ (s : Sp) (g : Bool) (c : Nat) (w : World), s.1 ≤ s.2 → s.2 ≤ l.length → c ≤ 1000 → Below w0.heap.size w0 w → Mk w M v c →
      Calls Tryz.prog 12 #[.pointer (some ⟨M, 0, none⟩), .agg #[.int .i64 (s.1 : Int), .int .i64 (s.2 : Int)], .int .i64 ((32 - d : Nat) : Int), .bool g] w (entPost M v (entS l d s g c) w)
  | 0, hd => fun s g c w h1 h2 h3 h4 h5 => entity_step M v l w0 he hv hbig hM0 0 hd (fun d' e => by omega) s g c w h1 h2 h3 h4 h5
  | d + 1, hd => fun s g c w h1 h2 h3 h4 h5 => entity_step M v l w0 he hv hbig hM0 (d + 1) hd (fun d' e => by
      obtain rfl : d = d' := by omega
      exact entity_any M v l w0 he hv hbig hM0 d (by omega)) s g c w h1 h2 h3 h4 h5
def treePost (l : List UInt8) (w : World) (e : Ending) (w' : World) : Prop :=
  ∃ ka kn kc ca cn cc, e = .returned (.tuple #[.agg #[.int .i64 ((treeS l).kind : Int), .int .i64 ((treeS l).hd.1 : Int), .int .i64 ((treeS l).hd.2 : Int), .int .i64 ((treeS l).bd.1 : Int), .int .i64 ((treeS l).bd.2 : Int), .slice ka kn kc, .slice ca cn cc, .int .i64 ((treeS l).e.1 : Int), .int .i64 ((treeS l).e.2 : Int)], .int .i64 0]) ∧
    treeAt (fun k => w.heap.size ≤ k) w' (treeS l) (.agg #[.int .i64 ((treeS l).kind : Int), .int .i64 ((treeS l).hd.1 : Int), .int .i64 ((treeS l).hd.2 : Int), .int .i64 ((treeS l).bd.1 : Int), .int .i64 ((treeS l).bd.2 : Int), .slice ka kn kc, .slice ca cn cc, .int .i64 ((treeS l).e.1 : Int), .int .i64 ((treeS l).e.2 : Int)]) ∧ Below w.heap.size w w'
set_option maxRecDepth 100000 in
set_option maxHeartbeats 2000000 in
theorem treeParse_any (v : Value) (l : List UInt8) (w : World) (hv : bytesArg w v l) (hbig : l.length ≤ 100000) (he : env w) :
    Calls Tryz.prog 7 #[v] w (treePost l w) := by
  have HV := Lib.hid hv
  have HE := Lib.hid he
  obtain ⟨ao, cap, rfl, hc, hm, hs⟩ := hv
  have HT : Hid ((entS l 32 (0, l.length) false 1).1 = treeS l) := rfl
  obtain ⟨X, hX⟩ : ∃ X, X = (w.alloc (partO 0 0 0 0 0 (.slice none 0 0) (.slice none 0 0) 0 0)).alloc (.cells #[.slice ao l.length cap, .int .i64 1] 45) := ⟨_, rfl⟩
  have hz : X.heap.size = w.heap.size + 2 := by rw [hX]; simp
  have hB : Below w.heap.size w X := by rw [hX]; exact ((Below.refl _ _).alloc (Nat.le_refl _) _).alloc (by simp) _
  have o2 : X.heap[w.heap.size]? = some (partO 0 0 0 0 0 (.slice none 0 0) (.slice none 0 0) 0 0) := by rw [hX]; exact heap_alloc2_old _ _ _
  have o4 : X.heap[w.heap.size + 1]? = some (.cells #[.slice ao l.length cap, .int .i64 1] 45 (0, 0)) := by rw [hX]; exact heap_alloc2_new _ _ _
  have hMk : Mk X (w.heap.size + 1) (.slice ao l.length cap) 1 := ⟨by simp [World.cell?, o4], by simp [World.cell?, o4], by simp [World.frozen?, o4]⟩
  have HEn : Hid (Calls Tryz.prog 12 #[.pointer (some ⟨w.heap.size + 1, 0, none⟩), .agg #[.int .i64 0, .int .i64 (l.length : Int)], .int .i64 0, .bool false] X (entPost (w.heap.size + 1) (.slice ao l.length cap) (entS l 32 (0, l.length) false 1) X)) := (entity_any (w.heap.size + 1) (.slice ao l.length cap) l w he HV.out hbig (Nat.le_succ _) 32 (Nat.le_refl _) (0, l.length) false 1 X (Nat.zero_le _) (Nat.le_refl _) (by decide) hB hMk)
  have hbb : decide ((67108864 : Int) < (l.length : Int)) = false := decide_eq_false (by omega)
  have hbi : ¬ (67108864 : Int) < (l.length : Int) := by omega
  have HO2 := Lib.hid o2
  have HBX := Lib.hid hB
  have Hz := Lib.hid hz
  unfold entPost Gr at HEn
  unfold partO at hX
  clear hMk o2 o4 hB hz hs he
  go_enter Tryz.func7, Tryz.ntmps7
  go_wp2_with fail
  rw [← hX]
  clear hX
  with_reducible refine HEn.out.mono ?_
  rintro e w5 ⟨u, rfl, ht, hg, hm⟩
  rw [HT.out] at ht
  obtain ⟨tr, htr⟩ : ∃ tr, tr = treeS l := ⟨_, rfl⟩
  rw [← htr] at ht
  have HTE := Lib.hid htr
  obtain ⟨ka, kn, kc, ca, cn, cc, rfl⟩ := treeAt_agg ht
  have HTr := Lib.hid ht
  have HB5 : Hid (Below w.heap.size w w5) := gr_below HBX.out (Nat.le_succ _) hg
  have P2 := Lib.hid ((hg.block w.heap.size (by have := Hz.out; omega) (by intro e; have := Option.some.inj e; omega)).trans HO2.out)
  obtain ⟨b0, b1, b2, b3, b4, b5, b6, b7, b8⟩ := part_cells P2.out
  obtain ⟨f0, f1, f2, f3, f4, f5, f6, f7, f8⟩ := part_frozen P2.out
  clear ht hm HEn htr
  go_wp2_with fail
  (try simp only [Exit.inBlock, Exit.then])
  have h9 := row_set9 (a0 := .int .i64 (tr.kind : Int)) (a1 := .int .i64 (tr.hd.1 : Int)) (a2 := .int .i64 (tr.hd.2 : Int)) (a3 := .int .i64 (tr.bd.1 : Int)) (a4 := .int .i64 (tr.bd.2 : Int)) (a5 := .slice ka kn kc) (a6 := .slice ca cn cc) (a7 := .int .i64 (tr.e.1 : Int)) (a8 := .int .i64 (tr.e.2 : Int)) P2.out
  obtain ⟨g0, g1, g2, g3, g4, g5, g6, g7, g8⟩ := part_cells (k := (tr.kind : Int)) (a := (tr.hd.1 : Int)) (b := (tr.hd.2 : Int)) (c := (tr.bd.1 : Int)) (d := (tr.bd.2 : Int)) (ks := .slice ka kn kc) (cs := .slice ca cn cc) (e := (tr.e.1 : Int)) (f := (tr.e.2 : Int)) h9
  refine bodyPost_ret (v := .tuple #[.agg #[.int .i64 (tr.kind : Int), .int .i64 (tr.hd.1 : Int), .int .i64 (tr.hd.2 : Int), .int .i64 (tr.bd.1 : Int), .int .i64 (tr.bd.2 : Int), .slice ka kn kc, .slice ca cn cc, .int .i64 (tr.e.1 : Int), .int .i64 (tr.e.2 : Int)], .int .i64 0]) (by simp [results, Tryz.results7, go_sem, g0, g1, g2, g3, g4, g5, g6, g7, g8]) rfl ?_
  unfold treePost
  rw [← HTE.out]
  refine ⟨ka, kn, kc, ca, cn, cc, rfl, ?_, below_set9 HB5.out (Nat.le_refl _)⟩
  refine treeAt.keep ?_ _ _ HTr.out
  intro q hq _
  have hq' : X.heap.size ≤ q := hq
  have := Hz.out
  exact ⟨heap_set9 (by omega), by omega⟩
end Go.Proofs.YtkmgflnmffdhjaaGreatDoor

/- Contracts of package tree: Count, Deep. -/
namespace Go.Proofs.YtkmgflnmffdhjaaGreatDoor
open Go Go.RowKit

theorem kidsAt_get {S : Nat → Prop} {W : World} : ∀ {ts : List Tr} {us : List Value} (_ : kidsAt S W ts us) (i : Nat) (h : i < ts.length), ∃ u, us[i]? = some u ∧ treeAt S W ts[i] u
  | [], _, _, i, h => by simp at h
  | t :: r, us, hk, i, h => by
    unfold kidsAt at hk
    obtain ⟨u, us', rfl, h2, h3⟩ := hk
    cases i with
    | zero => exact ⟨u, rfl, h2⟩
    | succ i => exact kidsAt_get h3 i (by simpa using h)
theorem kidsAt_nine {S : Nat → Prop} {W : World} : ∀ {ts : List Tr} {us : List Value} (_ : kidsAt S W ts us), ∀ u ∈ us, (partCells u).length = 9
  | [], us, hk => by
    unfold kidsAt at hk
    subst hk
    intro u hu
    cases hu
  | t :: r, us, hk => by
    unfold kidsAt at hk
    obtain ⟨u, us', rfl, h2, h3⟩ := hk
    intro x hx
    rcases List.mem_cons.1 hx with rfl | hx
    · obtain ⟨_, _, _, _, _, _, rfl⟩ := treeAt_agg h2
      rfl
    · exact kidsAt_nine h3 x hx
theorem flat9 : ∀ (us : List Value) (_ : ∀ u ∈ us, (partCells u).length = 9) (i j : Nat) (u : Value), us[i]? = some u → j < 9 → (us.flatMap partCells)[i * 9 + j]? = (partCells u)[j]?
  | [], _, i, j, u, h, _ => by simp at h
  | x :: r, h9, i, j, u, h, hj => by
    have hx := h9 x (List.mem_cons_self ..)
    rw [List.flatMap_cons]
    cases i with
    | zero =>
      obtain rfl : x = u := by simpa using h
      rw [Nat.zero_mul, Nat.zero_add, List.getElem?_append_left (by omega)]
    | succ i =>
      rw [List.getElem?_append_right (by omega), hx, show (i + 1) * 9 + j - 9 = i * 9 + j by omega]
      exact flat9 r (fun u hu => h9 u (List.mem_cons_of_mem _ hu)) i j u (by simpa using h) hj
def nineAt (W : World) (g i : Nat) (t : Tr) (ks cs : Value) : Prop :=
  W.cell? ⟨g, i * 9, none⟩ = some (.int .i64 (t.kind : Int)) ∧ W.cell? ⟨g, i * 9 + 1, none⟩ = some (.int .i64 (t.hd.1 : Int)) ∧ W.cell? ⟨g, i * 9 + 2, none⟩ = some (.int .i64 (t.hd.2 : Int)) ∧
  W.cell? ⟨g, i * 9 + 3, none⟩ = some (.int .i64 (t.bd.1 : Int)) ∧ W.cell? ⟨g, i * 9 + 4, none⟩ = some (.int .i64 (t.bd.2 : Int)) ∧ W.cell? ⟨g, i * 9 + 5, none⟩ = some ks ∧ W.cell? ⟨g, i * 9 + 6, none⟩ = some cs ∧
  W.cell? ⟨g, i * 9 + 7, none⟩ = some (.int .i64 (t.e.1 : Int)) ∧ W.cell? ⟨g, i * 9 + 8, none⟩ = some (.int .i64 (t.e.2 : Int))
theorem nineAt.block {W W' : World} {g i : Nat} {t : Tr} {ks cs : Value} (h : nineAt W g i t ks cs) (hb : W'.heap[g]? = W.heap[g]?) : nineAt W' g i t ks cs := by
  obtain ⟨h0, h1, h2, h3, h4, h5, h6, h7, h8⟩ := h
  exact ⟨(World.cell?_of_block (a := ⟨g, i * 9, none⟩) hb).trans h0, (World.cell?_of_block (a := ⟨g, i * 9 + 1, none⟩) hb).trans h1, (World.cell?_of_block (a := ⟨g, i * 9 + 2, none⟩) hb).trans h2,
    (World.cell?_of_block (a := ⟨g, i * 9 + 3, none⟩) hb).trans h3, (World.cell?_of_block (a := ⟨g, i * 9 + 4, none⟩) hb).trans h4, (World.cell?_of_block (a := ⟨g, i * 9 + 5, none⟩) hb).trans h5,
    (World.cell?_of_block (a := ⟨g, i * 9 + 6, none⟩) hb).trans h6, (World.cell?_of_block (a := ⟨g, i * 9 + 7, none⟩) hb).trans h7, (World.cell?_of_block (a := ⟨g, i * 9 + 8, none⟩) hb).trans h8⟩
/-- A row of kids, as it is read. -/
theorem kids_at {S : Nat → Prop} {W : World} {ts : List Tr} {us : List Value} {ka : Option Addr} {kn kc : Nat} (ho : ownS S W 29 9 (.slice ka kn kc) us.length (us.flatMap partCells)) (hk : kidsAt S W ts us) :
    kn = ts.length ∧ kn ≤ kc ∧ kc ≤ maxLen ∧ ∀ i, (h : i < ts.length) → ∃ g a n c a2 n2 c2, ka = some ⟨g, 0, none⟩ ∧ g < W.heap.size ∧ S g ∧ nineAt W g i ts[i] (.slice a n c) (.slice a2 n2 c2) ∧
      treeAt S W ts[i] (.agg #[.int .i64 (ts[i].kind : Int), .int .i64 (ts[i].hd.1 : Int), .int .i64 (ts[i].hd.2 : Int), .int .i64 (ts[i].bd.1 : Int), .int .i64 (ts[i].bd.2 : Int), .slice a n c, .slice a2 n2 c2, .int .i64 (ts[i].e.1 : Int), .int .i64 (ts[i].e.2 : Int)]) := by
  have hlen := kidsAt_len hk
  obtain ⟨ho, hS⟩ := ho
  rcases ho.2 with ⟨e, h0⟩ | ⟨g, cap, cur, e, _, hh, hc, hm, hs, ht⟩
  · obtain ⟨rfl, rfl, rfl⟩ := Value.slice.inj e
    refine ⟨by omega, Nat.le_refl _, Nat.zero_le _, fun i hi => by omega⟩
  · obtain ⟨rfl, rfl, rfl⟩ := Value.slice.inj e
    refine ⟨hlen, hc, hm, fun i hi => ?_⟩
    obtain ⟨u, hu, htr⟩ := kidsAt_get hk i hi
    obtain ⟨a, n, c, a2, n2, c2, rfl⟩ := treeAt_agg htr
    refine ⟨g, a, n, c, a2, n2, c2, rfl, (Array.getElem?_eq_some_iff.1 hh).1, hS g rfl, ?_, htr⟩
    have hcell : ∀ j, j < 9 → W.cell? ⟨g, i * 9 + j, none⟩ = (us.flatMap partCells)[i * 9 + j]? := fun j hj => by
      rw [← ht, List.getElem?_take, if_pos (by omega)]
      simp only [World.cell?, hh]
      simp
    have hf := fun j hj => (hcell j hj).trans (flat9 us (kidsAt_nine hk) i j _ hu hj)
    exact ⟨hf 0 (by decide), hf 1 (by decide), hf 2 (by decide), hf 3 (by decide), hf 4 (by decide), hf 5 (by decide), hf 6 (by decide), hf 7 (by decide), hf 8 (by decide)⟩
theorem treeAt_open {S : Nat → Prop} {W : World} {t : Tr} {u : Value} (h : treeAt S W t u) : ∃ ka kn kc ca cn cc us, u = .agg #[.int .i64 (t.kind : Int), .int .i64 (t.hd.1 : Int), .int .i64 (t.hd.2 : Int), .int .i64 (t.bd.1 : Int), .int .i64 (t.bd.2 : Int), .slice ka kn kc, .slice ca cn cc, .int .i64 (t.e.1 : Int), .int .i64 (t.e.2 : Int)] ∧
    ownS S W 25 2 (.slice ca cn cc) t.cuts.length (spCells t.cuts) ∧ ownS S W 29 9 (.slice ka kn kc) us.length (us.flatMap partCells) ∧ kidsAt S W t.kids us := by
  cases t
  unfold treeAt at h
  obtain ⟨ka, kn, kc, ca, cn, cc, us, h1, h2, h3, h4⟩ := h
  exact ⟨ka, kn, kc, ca, cn, cc, us, h1, h2, h3, h4⟩
theorem countT_eq (t : Tr) : countT t = 1 + countK t.kids := by cases t; rfl
theorem countK_drop (ts : List Tr) (i : Nat) (h : i < ts.length) : countK (ts.drop i) = countT ts[i] + countK (ts.drop (i + 1)) := by
  rw [List.drop_eq_getElem_cons h]
  rfl
theorem countK_le (ts : List Tr) (i : Nat) : countK (ts.drop i) ≤ countK ts := by
  induction ts generalizing i with
  | nil => simp
  | cons t r ih =>
    cases i with
    | zero => simp
    | succ i =>
      have := ih i
      have e : countK (t :: r) = countT t + countK r := rfl
      rw [List.drop_succ_cons]
      omega
theorem size_kid {t : Tr} (i : Nat) (h : i < t.kids.length) : SizeOf.sizeOf t.kids[i] < SizeOf.sizeOf t := by
  cases t with
  | mk k hd bd ks cs e =>
    have h1 : SizeOf.sizeOf ks[i] < SizeOf.sizeOf ks := List.sizeOf_lt_of_mem (List.getElem_mem h)
    show SizeOf.sizeOf ks[i] < SizeOf.sizeOf (Tr.mk k hd bd ks cs e)
    rw [Tr.mk.sizeOf_spec]
    omega
theorem lenK_le : ∀ l : List Tr, l.length ≤ countK l
  | [] => Nat.le_refl _
  | x :: r => by
    have e : countK (x :: r) = countT x + countK r := rfl
    have := countT_eq x
    have := lenK_le r
    simp only [List.length_cons]
    omega
end Go.Proofs.YtkmgflnmffdhjaaGreatDoor

/- Layer 20: contracts of package structure: a multipart is told. -/
namespace Go.Proofs.YtkmgflnmffdhjaaGreatDoor
open Go Go.RowKit

theorem TlAt.c0 {B T : Nat} {vb : Value} {all : Bool} {bs : List Value} {W : World} (h : TlAt B T vb all bs W) : W.cell? ⟨T, 0, none⟩ = some vb := by
  obtain ⟨_, p, v, _, hb, _⟩ := h
  simp [World.cell?, hb]
theorem TlAt.c1 {B T : Nat} {vb : Value} {all : Bool} {bs : List Value} {W : World} (h : TlAt B T vb all bs W) : W.cell? ⟨T, 1, none⟩ = some (.bool all) := by
  obtain ⟨_, p, v, _, hb, _⟩ := h
  simp [World.cell?, hb]
theorem env_tab {w : World} (h : env w) : tab w := h.1
/-- What a region reads: the teller's bytes and the part. -/
def sJ (T H : Nat) (vb : Value) (k a b c d e f : Int) (ks cs : Value) (W : World) : Prop :=
  W.cell? ⟨T, 0, none⟩ = some vb ∧ W.cell? ⟨H, 0, none⟩ = some (.int .i64 k) ∧ W.cell? ⟨H, 1, none⟩ = some (.int .i64 a) ∧ W.cell? ⟨H, 2, none⟩ = some (.int .i64 b) ∧ W.cell? ⟨H, 3, none⟩ = some (.int .i64 c) ∧ W.cell? ⟨H, 4, none⟩ = some (.int .i64 d) ∧
    W.cell? ⟨H, 5, none⟩ = some ks ∧ W.cell? ⟨H, 6, none⟩ = some cs ∧ W.cell? ⟨H, 7, none⟩ = some (.int .i64 e) ∧ W.cell? ⟨H, 8, none⟩ = some (.int .i64 f)
theorem sJ.below {T H : Nat} {vb : Value} {k a b c d e f : Int} {ks cs : Value} {W W' : World} (h : sJ T H vb k a b c d e f ks cs W) (hb : Below W.heap.size W W') : sJ T H vb k a b c d e f ks cs W' := by
  obtain ⟨x, x0, x1, x2, x3, x4, x5, x6, x7, x8⟩ := h
  exact ⟨BW.cell x ⟨W', hb⟩, BW.cell x0 ⟨W', hb⟩, BW.cell x1 ⟨W', hb⟩, BW.cell x2 ⟨W', hb⟩, BW.cell x3 ⟨W', hb⟩, BW.cell x4 ⟨W', hb⟩, BW.cell x5 ⟨W', hb⟩, BW.cell x6 ⟨W', hb⟩, BW.cell x7 ⟨W', hb⟩, BW.cell x8 ⟨W', hb⟩⟩
theorem part_not_u8 {k a b c d e f : Int} {ks cs : Value} : ∀ x fz, partO k a b c d ks cs e f ≠ .cells x 5 fz := by
  intro x fz he
  unfold partO at he
  exact absurd (Obj.cells.inj he).2.1 (by decide)
theorem part_kept {B T H : Nat} {W W' : World} {k a b c d e f : Int} {ks cs : Value} (hk : Kq B T W W') (h : W.heap[H]? = some (partO k a b c d ks cs e f)) (hne : H ≠ T) : W'.heap[H]? = some (partO k a b c d ks cs e f) :=
  hk.2 H _ h (fun e => hne (Option.some.inj e)) part_not_u8
/-- Each kid of a row can be told. -/
def kidP (B T : Nat) (vb : Value) (all : Bool) (l : List UInt8) (w0 : World) (ka : Option Addr) (ts : List Tr) : Prop := ∀ i, (h : i < ts.length) → ∃ g a n c a2 n2 c2, ka = some ⟨g, 0, none⟩ ∧ g < B ∧ g < w0.heap.size ∧ nineAt w0 g i ts[i] (.slice a n c) (.slice a2 n2 c2) ∧
  ∀ W' acc, Below B w0 W' → TlAt B T vb all (Lib.byteCells acc) W' → acc.length + (stT l all ts[i]).length ≤ 130000000000000 → Calls Tryz.prog 14 #[.pointer (some ⟨T, 0, none⟩), .agg #[.int .i64 (ts[i].kind : Int), .int .i64 (ts[i].hd.1 : Int), .int .i64 (ts[i].hd.2 : Int), .int .i64 (ts[i].bd.1 : Int), .int .i64 (ts[i].bd.2 : Int), .slice a n c, .slice a2 n2 c2, .int .i64 (ts[i].e.1 : Int), .int .i64 (ts[i].e.2 : Int)]] W'
    (tellP B T vb all (acc ++ stT l all ts[i]) W')
theorem stK_take (l : List UInt8) (all : Bool) (ts : List Tr) (i : Nat) (h : i < ts.length) : stK l all (ts.take (i + 1)) = stK l all (ts.take i) ++ stT l all ts[i] := by
  rw [List.take_succ_eq_append_getElem h, stK_snoc]
theorem stK_take_le (l : List UInt8) (all : Bool) : ∀ (ts : List Tr) (i : Nat), (stK l all (ts.take i)).length ≤ (stK l all ts).length
  | [], i => by simp [stK]
  | t :: r, 0 => by simp [stK]
  | t :: r, i + 1 => by
    have := stK_take_le l all r i
    rw [List.take_succ_cons]
    show (stT l all t ++ stK l all (r.take i)).length ≤ (stT l all t ++ stK l all r).length
    simp only [List.length_append]
    omega
theorem kind_sub (l : List UInt8) (fs : List Fld) (k : Nat) (hl : l.length ≤ 1500) : (kindS l fs k).2.1.length ≤ 1500 := by
  have hv := Nat.le_trans (valueS_short l fs ctyN) hl
  unfold kindS
  cases h : parseL (valueS l fs ctyN) true with
  | none =>
    unfold kindK
    simp only
    split
    · decide
    · split
      · decide
      · decide
  | some V =>
    have hV := val_small hv h
    unfold kindK
    simp only
    split
    · exact hV.sb
    · split
      · decide
      · split
        · decide
        · decide
theorem kind_typ (l : List UInt8) (fs : List Fld) (k : Nat) (hl : l.length ≤ 1500) : (kindS l fs k).1.length ≤ 1500 := by
  have hv := Nat.le_trans (valueS_short l fs ctyN) hl
  unfold kindS
  cases h : parseL (valueS l fs ctyN) true with
  | none =>
    unfold kindK
    simp only
    split
    · decide
    · split
      · decide
      · decide
  | some V =>
    have hV := val_small hv h
    unfold kindK
    simp only
    split
    · exact hV.ty
    · split
      · decide
      · split
        · decide
        · decide
/-- What a multipart tells behind its parts. -/
def mulS (l : List UInt8) (fs : List Fld) (all : Bool) (k : Nat) : List UInt8 :=
  32 :: Lib.join (strW (kindS l fs k).2.1 :: (if all = true then (kindS l fs k).2.2 :: restW l fs else [])) [32]
theorem mulS_no (l : List UInt8) (fs : List Fld) (k : Nat) : mulS l fs false k = [32] ++ strW (kindS l fs k).2.1 := by
  unfold mulS
  rw [if_neg (by decide), Lib.join_one]
  rfl
theorem mulS_yes (l : List UInt8) (fs : List Fld) (k : Nat) : mulS l fs true k = [32] ++ strW (kindS l fs k).2.1 ++ ([32] ++ spW [(kindS l fs k).2.2, spW (restW l fs)]) := by
  unfold mulS spW restW
  rw [if_pos rfl]
  simp [Lib.join_cons, Lib.joinTail]
set_option maxRecDepth 100000 in
set_option maxHeartbeats 1600000 in
theorem multi_any (B T : Nat) (ao : Option Addr) (cap : Nat) (all : Bool) (l acc : List UInt8) (w0 w : World) (ts : List Tr) (kd h1 h2 : Nat) (b1 b2 e1 e2 : Int) (ka ca : Option Addr) (kc cn cc : Nat)
    (hv : bytesArg w0 (.slice ao l.length cap) l) (hbig : l.length ≤ 1500) (he : env w0) (hB0 : B = w0.heap.size) (hb : Below B w0 w) (ht : TlAt B T (.slice ao l.length cap) all (Lib.byteCells acc) w) (hft : h1 ≤ h2) (htl : h2 ≤ l.length)
    (hk : kidP B T (.slice ao l.length cap) all l w0 ka ts) (hn : ts.length ≤ 1000000000) (hlen : acc.length + (stK l all ts).length ≤ 130000000000000) :
    Calls Tryz.prog 31 #[.pointer (some ⟨T, 0, none⟩), .agg #[.int .i64 (kd : Int), .int .i64 (h1 : Int), .int .i64 (h2 : Int), .int .i64 b1, .int .i64 b2, .slice ka ts.length kc, .slice ca cn cc, .int .i64 e1, .int .i64 e2]] w
      (tellP B T (.slice ao l.length cap) all (acc ++ (stK l all ts ++ mulS l (fsOf l h1 h2) all kd)) w) := by
  unfold tellP
  have HA := Lib.hid hk
  have HTl := Lib.hid ht
  have hBw : B ≤ w.heap.size := by rw [hB0]; rw [hB0] at hb; exact hb.size
  have HV := Lib.hid (fun W (h : Below B w0 W) => hv.below (W' := W) (by rw [← hB0]; exact h))
  have HE := Lib.hid (fun W (h : Below B w0 W) => he.below (w' := W) (by rw [← hB0]; exact h))
  have HLn := Lib.hid hlen
  obtain ⟨X, hX⟩ : ∃ X, X = w.alloc (partO kd h1 h2 b1 b2 (.slice ka ts.length kc) (.slice ca cn cc) e1 e2) := ⟨_, rfl⟩
  have HP : Hid (X.heap[w.heap.size]? = some (partO kd h1 h2 b1 b2 (.slice ka ts.length kc) (.slice ca cn cc) e1 e2)) := by rw [hX]; exact heap_alloc_new w _
  have hwX : Below w.heap.size w X := by rw [hX]; exact (Below.refl _ _).alloc (Nat.le_refl _) _
  have HKX : Hid (Kq B T w X) := Kq.of_below hwX hBw
  have HTX := Lib.hid (ht.below hwX)
  have hTw := ht.lt
  have HBX : Hid (Below B w0 X) := hb.trans (hwX.mono hBw)
  have hHX : w.heap.size < X.heap.size := (Array.getElem?_eq_some_iff.1 HP.out).1
  have hBX : B ≤ X.heap.size := Nat.le_trans hBw hwX.size
  unfold partO at hX
  have HX := Lib.hid hX
  clear hX hk ht hv he hB0 hb hlen hwX
  obtain ⟨H, hH⟩ : ∃ H, H = w.heap.size := ⟨_, rfl⟩
  rw [← hH] at HP hTw hHX
  have HHw := Lib.hid hH
  clear hH
  obtain ⟨p0, p1, p2, p3, p4, p5, p6, p7, p8⟩ := part_cells HP.out
  go_enter Tryz.func31, Tryz.ntmps31
  go_wp2_with fail
  rw [← HX.out, ← HHw.out]
  clear HX
  go_wp2_with fail
  clear p0 p1 p2 p3 p4 p5 p6 p7 p8
  go_loopg [12] ts.length (fun q xi wr => ∃ (i : Nat), i ≤ ts.length ∧ q = ts.length - i ∧ xi = .int .i64 (i : Int) ∧ Hid (TlAt B T (.slice ao l.length cap) all (Lib.byteCells (acc ++ stK l all (ts.take i))) wr) ∧ Hid (Kq B T X wr))
  case atStart => exact ⟨0, Nat.zero_le _, by omega, rfl, by unfold Hid; rw [List.take_zero]; show TlAt _ _ _ _ (Lib.byteCells (acc ++ [])) _; rw [List.append_nil]; exact HTX.out, Kq.refl _ _ _⟩
  case round =>
    obtain ⟨i, hi, rfl, rfl, HTi, HK⟩ := hrel
    have HBr : Hid (Below B w0 wr) := HBX.out.trans HK.out.1
    by_cases hlt : i < ts.length
    · obtain ⟨g, a, n, c, a2, n2, c2, rfl, hg, hg0, h9, hcall⟩ := HA.out i hlt
      have HN := Lib.hid (stK_take l all ts i hlt)
      have hle := stK_take_le l all ts (i + 1)
      rw [HN.out, List.length_append] at hle
      have HCl := Lib.hid (fun W h3 h4 => hcall W (acc ++ stK l all (ts.take i)) h3 h4 (by have := HLn.out; rw [List.length_append]; omega))
      obtain ⟨q0, q1, q2, q3, q4, q5, q6, q7, q8⟩ := h9.block (HBr.out.block g hg)
      have hgr : g < wr.heap.size := Nat.lt_of_lt_of_le hg (Nat.le_trans hBX HK.out.1.size)
      obtain ⟨tk, htk⟩ : ∃ tk, tk = ts[i] := ⟨_, rfl⟩
      rw [← htk] at q0 q1 q2 q3 q4 q7 q8 HCl HN
      clear htk hcall h9 hle
      go_wp2_with fail
      have HBk : Hid (Below wr.heap.size wr (wr.alloc (partO tk.kind tk.hd.1 tk.hd.2 tk.bd.1 tk.bd.2 (.slice a n c) (.slice a2 n2 c2) tk.e.1 tk.e.2))) := (Below.refl _ _).alloc (Nat.le_refl _) _
      have hBr : B ≤ wr.heap.size := Nat.le_trans hBX HK.out.1.size
      unfold partO at HBk
      with_reducible refine (HCl.out _ ?g1 ?g2).mono ?_
      case g1 => exact HBr.out.trans (HBk.out.mono hBr)
      case g2 => exact HTi.out.below HBk.out
      rintro e w5 ⟨rfl, ht5, hk5⟩
      have HT5 := Lib.hid ht5
      have HK5 := Lib.hid ((HK.out.trans (Kq.of_below HBk.out hBr)).trans hk5)
      clear ht5 hk5 HCl q0 q1 q2 q3 q4 q5 q6 q7 q8
      go_wp2_with fail
      go_roundg (ts.length - (i + 1))
      case measure => omega
      case rel => exact ⟨i + 1, by omega, rfl, by go_num, by unfold Hid; rw [HN.out, ← List.append_assoc]; exact HT5.out, HK5⟩
    · obtain rfl : i = ts.length := by omega
      rw [List.take_length] at HTi
      have HPr := Lib.hid (part_kept HK.out HP.out (by omega))
      obtain ⟨p0, p1, p2, p3, p4, p5, p6, p7, p8⟩ := part_cells HPr.out
      have t0 := HTi.out.c0
      have hBr : B ≤ wr.heap.size := Nat.le_trans hBX HK.out.1.size
      have HKd := Lib.hid (fun z : BW wr => kind_any ao cap l kd h1 h2 b1 b2 e1 e2 ka ca ts.length kc cn cc z.v (HV.out _ (HBr.out.trans (z.h.mono hBr))) hbig hft htl (HE.out _ (HBr.out.trans (z.h.mono hBr))))
      obtain ⟨l0, l1, l2⟩ := kind_len l (fsOf l h1 h2) kd hbig
      unfold kindV at HKd
      have HMn := Lib.hid (mulS_no l (fsOf l h1 h2) kd)
      have HMy := Lib.hid (mulS_yes l (fsOf l h1 h2) kd)
      obtain ⟨kk, hkk⟩ : ∃ kk, kk = kindS l (fsOf l h1 h2) kd := ⟨_, rfl⟩
      rw [← hkk] at HKd l1 l2 HMn HMy
      obtain ⟨K0, hK0⟩ : ∃ A : ByteArray, A = ⟨kk.1.toArray⟩ := ⟨_, rfl⟩
      obtain ⟨K1, hK1⟩ : ∃ A : ByteArray, A = ⟨kk.2.1.toArray⟩ := ⟨_, rfl⟩
      obtain ⟨K2, hK2⟩ : ∃ A : ByteArray, A = ⟨kk.2.2.toArray⟩ := ⟨_, rfl⟩
      obtain ⟨S1, hS1⟩ : ∃ A : ByteArray, A = ⟨(strW kk.2.1).toArray⟩ := ⟨_, rfl⟩
      have lS := str_size hS1
      have lK := str_size hK2
      have hsub : kk.2.1.length ≤ 1500 := by rw [hkk]; exact kind_sub l _ kd hbig
      have HSt : Hid (∀ W, tab W → Calls Tryz.prog 38 #[.string K1] W fun e w' => e = .returned (.string S1) ∧ Below W.heap.size W w') := by
        rw [hK1, hS1]
        exact fun W h => wstring_any ⟨kk.2.1.toArray⟩ W (by rw [← len_toList]; show kk.2.1.length ≤ _; omega) h
      rw [← hK0, ← hK1, ← hK2] at HKd
      have eS : S1.data.toList = strW kk.2.1 := by rw [hS1]
      have eK : K2.data.toList = kk.2.2 := by rw [hK2]
      rw [← eS] at HMn HMy
      rw [← eK] at HMy
      clear hkk hK0 hK1 hK2 hS1 eS eK hsub l0
      have HL9 : Hid (acc.length + (stK l all ts).length ≤ 130000000000000) := HLn.out
      have hsz1 : S1.size ≤ 3030 := by rw [lS]; exact l1
      have hsz2 : K2.size ≤ 424400000 := by rw [lK]; exact l2
      clear l1 l2 lS lK HLn
      go_upto_region 6 with fail
      have Y0 := BW.cell t0
      have P0 := BW.cell p0
      have P1 := BW.cell p1
      have P2 := BW.cell p2
      have P3 := BW.cell p3
      have P4 := BW.cell p4
      have P5 := BW.cell p5
      have P6 := BW.cell p6
      have P7 := BW.cell p7
      have P8 := BW.cell p8
      refine wp_region_below (by kernel_rfl) (by kernel_rfl) ?_
      repeat (go_big_quiet_step (first | (go_at_call 11; with_reducible exact BW.calls (HKd.out _))))
      refine wpQuiet_nil ?_
      rintro W6 ⟨⟨_, hb6⟩, rfl⟩
      have HT6 := Lib.hid (HTi.out.below hb6)
      have HK6 := Lib.hid (HK.out.below hb6 hBX)
      have HP6 := Lib.hid (part_kept (Kq.of_below (T := T) hb6 hBr) HPr.out (by omega))
      have HB6 := Lib.hid (HBX.out.trans HK6.out.1)
      have hBs6 : B ≤ W6.heap.size := Nat.le_trans hBX HK6.out.1.size
      clear hb6 t0 p0 p1 p2 p3 p4 p5 p6 p7 p8 Y0 P0 P1 P2 P3 P4 P5 P6 P7 P8 HKd HTi HK HPr HBr hBr
      go_wp2_with fail
      with_reducible refine (HSt.out _ (env_tab (HE.out _ HB6.out))).mono ?_
      rintro e w7 ⟨rfl, hb7⟩
      have HT7 := Lib.hid (HT6.out.below hb7)
      have HK7 := Lib.hid (HK6.out.below hb7 hBX)
      have HP7 := Lib.hid (part_kept (Kq.of_below (T := T) hb7 hBs6) HP6.out (by omega))
      have hBs7 : B ≤ w7.heap.size := Nat.le_trans hBX HK7.out.1.size
      clear hb7 HT6 HK6 HP6 HB6 hBs6 HSt
      have HAd := Lib.hid (add_two B T (.slice ao l.length cap) all (acc ++ stK l all ts) ⟨#[32]⟩ S1 w7 HT7.out (by have := HL9.out; have e : (⟨#[32]⟩ : ByteArray).size = 1 := rfl; rw [List.length_append, e]; omega) hBs7)
      unfold tellP at HAd
      go_wp2_with fail
      with_reducible refine HAd.out.mono ?_
      rintro e w8 ⟨rfl, ht8, hk8⟩
      have HT8 := Lib.hid ht8
      have HK8 := Lib.hid (HK7.out.trans hk8)
      have HP8 := Lib.hid (part_kept hk8 HP7.out (by omega))
      have t1 := ht8.c1
      have t0 := ht8.c0
      have HB8 := Lib.hid (HBX.out.trans HK8.out.1)
      have hBs8 : B ≤ w8.heap.size := Nat.le_trans hBX HK8.out.1.size
      clear ht8 hk8 HT7 HK7 HP7 hBs7 HAd
      cases all with
      | false =>
        clear t0
        go_wp2_with fail
        go_end0
        refine ⟨rfl, ?_, HKX.out.trans HK8.out⟩
        have := HT8.out
        rw [HMn.out, ← List.append_assoc]
        exact this
      | true =>
        obtain ⟨p0, p1, p2, p3, p4, p5, p6, p7, p8⟩ := part_cells HP8.out
        go_upto_region 9 with fail
        have hS0 : (sJ T H (.slice ao l.length cap) kd h1 h2 b1 b2 e1 e2 (.slice ka ts.length kc) (.slice ca cn cc)) w8.drew := ⟨t0, p0, p1, p2, p3, p4, p5, p6, p7, p8⟩
        have hbd : Below w8.heap.size w8 w8.drew := (Below.refl _ _).drew
        have HBd := Lib.hid (HB8.out.trans (hbd.mono hBs8))
        have HTd := Lib.hid (HT8.out.below hbd)
        have HKd := Lib.hid (HK8.out.below hbd hBX)
        have hBd : B ≤ w8.drew.heap.size := hBs8
        have HHd := Lib.hid (headOf_any ao cap l h1 h2 (kd : Int) b1 b2 e1 e2 ka ca ts.length kc cn cc w8.drew (HV.out _ HBd.out) (by omega) hft htl)
        unfold hdoPost at HHd
        have hsh := fsOf_short l hft htl (by omega)
        obtain ⟨fs, hfs⟩ : ∃ fs, fs = fsOf l h1 h2 := ⟨_, rfl⟩
        rw [← hfs] at HHd hsh HMy
        have HRs := Lib.hid (fun fo fc W (h : HdAt W l fs ao cap fo fc) (h2 : env W) => rest_any ao fo cap fc l fs W h hbig hsh h2)
        have lR := rest_len l fs hbig
        have lR2 := spW_len (restW l fs)
        obtain ⟨R, hR⟩ : ∃ A : ByteArray, A = ⟨(spW (restW l fs)).toArray⟩ := ⟨_, rfl⟩
        rw [← hR] at HRs
        have eR : R.data.toList = spW (restW l fs) := by rw [hR]
        rw [← eR] at HMy
        have hszR : R.size ≤ 424420000 := by rw [str_size hR]; omega
        have HSp := Lib.hid (fun W => spaced_two K2 R W (by omega))
        have lP := spW_len [K2.data.toList, R.data.toList]
        rw [wsW_cons, wsW_cons, wsW_nil2, len_toList, len_toList] at lP
        obtain ⟨Q, hQ⟩ : ∃ A : ByteArray, A = ⟨(spW [K2.data.toList, R.data.toList]).toArray⟩ := ⟨_, rfl⟩
        rw [← hQ] at HSp
        have eQ : Q.data.toList = spW [K2.data.toList, R.data.toList] := by rw [hQ]
        rw [← eQ] at HMy
        have hszQ : Q.size ≤ 900000000 := by rw [str_size hQ]; omega
        unfold headV at HHd HRs
        have HFs := Lib.hid hfs
        clear hR eR hQ eQ lP lR lR2 hsh hfs hbd hszR
        refine wp_region_any (by kernel_rfl) ?_
        refine wpAny_takeE (i := 0) rfl (by kernel_rfl) (by kernel_rfl) (by kernel_rfl) (fun _ _ _ _ h => h) rfl ?_
        apply Exists.intro
        refine ⟨fun w => ?_, ?_⟩
        · go_simp
          try rfl
        try simp only [Act.put]
        try simp only [List.setIfInBounds_toArray]
        try simp only [List.set_cons_succ]
        try simp only [List.set_cons_zero]
        refine wpAny_takeE (i := 1) rfl (by kernel_rfl) (by kernel_rfl) (by kernel_rfl) (fun _ _ _ _ h => h) rfl ?_
        apply Exists.intro
        refine ⟨fun w => ?_, ?_⟩
        · go_simp
          try rfl
        try simp only [Act.put]
        try simp only [List.setIfInBounds_toArray]
        try simp only [List.set_cons_succ]
        try simp only [List.set_cons_zero]
        refine wpAny_of_T (S := (sJ T H (.slice ao l.length cap) kd h1 h2 b1 b2 e1 e2 (.slice ka ts.length kc) (.slice ca cn cc))) (T := fun _ => true) _ _ _ _ ?_
        refine wpAnyT_takeE (i := 2) rfl (by kernel_rfl) (by kernel_rfl) (by kernel_rfl) (by kernel_rfl) (fun _ _ _ _ h => h) rfl hS0 ?_
        apply Exists.intro
        refine ⟨fun w hSw => ?_, ?_⟩
        · obtain ⟨_, _, _, _, _, _, _, _, _, _⟩ := hSw
          go_simp
          try rfl
        try simp only [Act.put]
        try simp only [List.setIfInBounds_toArray]
        try simp only [List.set_cons_succ]
        try simp only [List.set_cons_zero]
        refine wpAnyT_takeE (i := 3) rfl (by kernel_rfl) (by kernel_rfl) (by kernel_rfl) (by kernel_rfl) (fun _ _ _ _ h => h) rfl hS0 ?_
        apply Exists.intro
        refine ⟨fun w hSw => ?_, ?_⟩
        · obtain ⟨_, _, _, _, _, _, _, _, _, _⟩ := hSw
          go_simp
          try rfl
        try simp only [Act.put]
        try simp only [List.setIfInBounds_toArray]
        try simp only [List.set_cons_succ]
        try simp only [List.set_cons_zero]
        refine wpAnyT_takeE (i := 4) rfl (by kernel_rfl) (by kernel_rfl) (by kernel_rfl) (by kernel_rfl) (fun _ _ _ _ h => h) rfl hS0 ?_
        apply Exists.intro
        refine ⟨fun w hSw => ?_, ?_⟩
        · obtain ⟨_, _, _, _, _, _, _, _, _, _⟩ := hSw
          go_simp
          try rfl
        try simp only [Act.put]
        try simp only [List.setIfInBounds_toArray]
        try simp only [List.set_cons_succ]
        try simp only [List.set_cons_zero]
        refine wpAnyT_takeE (i := 5) rfl (by kernel_rfl) (by kernel_rfl) (by kernel_rfl) (by kernel_rfl) (fun _ _ _ _ h => h) rfl hS0 ?_
        apply Exists.intro
        refine ⟨fun w hSw => ?_, ?_⟩
        · obtain ⟨_, _, _, _, _, _, _, _, _, _⟩ := hSw
          go_simp
          try rfl
        try simp only [Act.put]
        try simp only [List.setIfInBounds_toArray]
        try simp only [List.set_cons_succ]
        try simp only [List.set_cons_zero]
        refine wpAnyT_takeE (i := 6) rfl (by kernel_rfl) (by kernel_rfl) (by kernel_rfl) (by kernel_rfl) (fun _ _ _ _ h => h) rfl hS0 ?_
        apply Exists.intro
        refine ⟨fun w hSw => ?_, ?_⟩
        · obtain ⟨_, _, _, _, _, _, _, _, _, _⟩ := hSw
          go_simp
          try rfl
        try simp only [Act.put]
        try simp only [List.setIfInBounds_toArray]
        try simp only [List.set_cons_succ]
        try simp only [List.set_cons_zero]
        have HS0 := Lib.hid hS0
        clear hS0 t0 t1 p0 p1 p2 p3 p4 p5 p6 p7 p8
        refine wpAnyT_one (i := 7) (by kernel_rfl) rfl (fun K hK => ?_)
        go_simp
        with_reducible refine HHd.out.mono ?_
        rintro e w9 ⟨fo, fc, rfl, hh9, hb9⟩
        have HB9 := Lib.hid (HBd.out.trans (hb9.mono hBd))
        have HT9 := Lib.hid (HTd.out.below hb9)
        have HK9 := Lib.hid (HKd.out.below hb9 hBX)
        have HH9 := Lib.hid hh9
        have HS9 := Lib.hid (HS0.out.below hb9)
        clear hh9 hb9
        refine hK.out _ _ (fun _ => HS9.out) ?_
        clear hK K
        refine wpAnyT_one (i := 8) (by kernel_rfl) rfl (fun K hK => ?_)
        go_simp
        with_reducible refine (HRs.out _ _ _ HH9.out (HE.out _ HB9.out)).mono ?_
        rintro e w10 ⟨rfl, hb10⟩
        have HT10 := Lib.hid (HT9.out.below hb10)
        have HK10 := Lib.hid (HK9.out.below hb10 hBX)
        have HS10 := Lib.hid (HS9.out.below hb10)
        clear hb10
        refine hK.out _ _ (fun _ => HS10.out) ?_
        clear hK K
        refine wpAnyT_one (i := 9) (by kernel_rfl) rfl (fun K hK => ?_)
        go_simp
        refine hK.out _ _ (fun _ => HS10.out.below ((Below.refl _ _).alloc (Nat.le_refl _) _)) ?_
        clear hK K
        refine wpAnyT_one (i := 10) (by kernel_rfl) rfl (fun K hK => ?_)
        go_simp
        with_reducible refine (HSp.out _).mono ?_
        rintro e w11 ⟨rfl, hb11⟩
        have HT11 := Lib.hid (HT10.out.below hb11)
        have HK11 := Lib.hid (HK10.out.below hb11 hBX)
        have HS11 := Lib.hid (HS10.out.below hb11)
        have hBs11 : B ≤ w11.heap.size := Nat.le_trans hBX HK11.out.1.size
        clear hb11
        refine hK.out _ _ (fun _ => HS11.out) ?_
        clear hK K
        refine wpAnyT_one (i := 11) (by kernel_rfl) rfl (fun K hK => ?_)
        go_simp
        refine hK.out _ _ (fun _ => HS11.out.below ((Below.refl _ _).alloc (Nat.le_refl _) _)) ?_
        clear hK K
        have HAd := Lib.hid (add_two B T (.slice ao l.length cap) true (acc ++ stK l true ts ++ ((⟨#[32]⟩ : ByteArray).data.toList ++ S1.data.toList)) ⟨#[32]⟩ Q w11 HT11.out (by have := HL9.out; have e : (⟨#[32]⟩ : ByteArray).size = 1 := rfl; have e2 : (⟨#[32]⟩ : ByteArray).data.toList.length = 1 := rfl; rw [List.length_append, List.length_append, List.length_append, e, e2, len_toList]; omega) hBs11)
        unfold tellP at HAd
        refine wpAnyT_one (i := 12) (by kernel_rfl) rfl (fun K hK => ?_)
        go_simp
        with_reducible refine HAd.out.mono ?_
        rintro e w12 ⟨rfl, ht12, hk12⟩
        have HP11 := Lib.hid (part_kept (HK11.out) HP.out (by omega))
        refine hK.out _ _ (fun _ => ⟨ht12.c0, part_cells (part_kept hk12 HP11.out (by omega))⟩) ?_
        clear hK K
        refine wpAnyT_rest _ _ _ _ (by kernel_rfl) ?_
        refine wpAny_done (by kernel_rfl) ?_ _
        go_wp2_with fail
        go_end0
        refine ⟨rfl, ?_, HKX.out.trans (HK11.out.trans hk12)⟩
        rw [← HFs.out, HMy.out]
        have e : (acc ++ (stK l true ts ++ ([32] ++ S1.data.toList ++ ([32] ++ Q.data.toList)))) = acc ++ stK l true ts ++ ((⟨#[32]⟩ : ByteArray).data.toList ++ S1.data.toList) ++ ((⟨#[32]⟩ : ByteArray).data.toList ++ Q.data.toList) := by
          simp
        rw [e]
        exact ht12
end Go.Proofs.YtkmgflnmffdhjaaGreatDoor

/- Layer 20: contracts of package structure: a part that is no multipart is told. -/
namespace Go.Proofs.YtkmgflnmffdhjaaGreatDoor
open Go Go.RowKit

section
variable {P : Program} {ops : Array Oper} {md : Region.Mode} {Q : Exit → Act → World → Prop} {S : World → Prop} {T : Nat → Bool}
/-- Two may come, and S stays. -/
theorem wpAnyT_two {fuel : Nat} {listed : Array Bool} {a : Act} {w : World} {i j : Nat} {o p : Oper} (hr : Region.ready md ops listed = [i, j]) (ho : ops[i]? = some o) (hp : ops[j]? = some p)
    (h : ∀ K' : Act → World → Prop, Shut (∀ a w, (T i = true → S w) → wpAnyT P md ops Q S T fuel (listed.setIfInBounds i true) a w → K' a w) → if Region.wanted o (yielded ops a.tmps) = true then Oper.wp P o a w K' Q else K' (a.put o.dst undef) w)
    (h2 : ∀ K' : Act → World → Prop, Shut (∀ a w, (T j = true → S w) → wpAnyT P md ops Q S T fuel (listed.setIfInBounds j true) a w → K' a w) → if Region.wanted p (yielded ops a.tmps) = true then Oper.wp P p a w K' Q else K' (a.put p.dst undef) w) :
    wpAnyT P md ops Q S T (fuel + 1) listed a w := by
  refine ⟨fun h0 => (by rw [hr] at h0; cases h0), fun k hk => ?_⟩
  rw [hr] at hk
  have hk' : k = i ∨ k = j := by simpa using hk
  rcases hk' with rfl | rfl
  · exact wpOp_step ho (fun K' hK => h K' (fun a w hS hW => hK a w ⟨hS, hW⟩))
  · exact wpOp_step hp (fun K' hK => h2 K' (fun a w hS hW => hK a w ⟨hS, hW⟩))
end
/-- What lies while a part is told. -/
structure On (B T H J : Nat) (P : Obj) (ao : Option Addr) (cap : Nat) (fo : Option Addr) (fc : Nat) (all : Bool) (l : List UInt8) (fs : List Fld) (w0 w : World) (acc : List UInt8) (W : World) : Prop where
  tl : TlAt B T (.slice ao l.length cap) all (Lib.byteCells acc) W
  kq : Kq B T w W
  pt : W.heap[H]? = some P
  hd : W.heap[J]? = some (.cells #[.slice ao l.length cap, .slice fo fs.length fc] 65 (0, 0))
  ow : ∃ q, T < q ∧ W.ownsRow q 100 4 (.slice fo fs.length fc) fs.length (fldCells fs)
  b0 : Below B w0 W
theorem head_not_u8 {x y : Value} : ∀ c fz, Obj.cells #[x, y] 65 (0, 0) ≠ .cells c 5 fz := by
  intro c fz he
  exact absurd (Obj.cells.inj he).2.1 (by decide)
section
variable {B T H J : Nat} {P : Obj} {ao : Option Addr} {cap : Nat} {fo : Option Addr} {fc : Nat} {all : Bool} {l : List UInt8} {fs : List Fld} {w0 w : World} {acc : List UInt8} {W : World}
theorem On.le (h : On B T H J P ao cap fo fc all l fs w0 w acc W) : B ≤ W.heap.size := Nat.le_of_lt (Nat.lt_of_le_of_lt h.tl.1 h.tl.lt)
theorem On.below (h : On B T H J P ao cap fo fc all l fs w0 w acc W) {W' : World} (hb : Below W.heap.size W W') : On B T H J P ao cap fo fc all l fs w0 w acc W' := by
  have hk : Kq B T W W' := Kq.of_below hb h.le
  obtain ⟨q, hq, ho⟩ := h.ow
  exact ⟨h.tl.below hb, h.kq.trans hk, (hb.block H (Array.getElem?_eq_some_iff.1 h.pt).1).trans h.pt, (hb.block J (Array.getElem?_eq_some_iff.1 h.hd).1).trans h.hd, ⟨q, hq, ownsRow_below ho hb⟩, h.b0.trans (hb.mono h.le)⟩
theorem On.tell (h : On B T H J P ao cap fo fc all l fs w0 w acc W) (hH : H ≠ T) (hJ : J ≠ T) (hP : ∀ x fz, P ≠ .cells x 5 fz) {acc' : List UInt8} {W' : World} (ht : TlAt B T (.slice ao l.length cap) all (Lib.byteCells acc') W') (hk : Kq B T W W') : On B T H J P ao cap fo fc all l fs w0 w acc' W' := by
  obtain ⟨q, hq, ho⟩ := h.ow
  refine ⟨ht, h.kq.trans hk, hk.2 H _ h.pt (fun e => hH (Option.some.inj e)) hP, hk.2 J _ h.hd (fun e => hJ (Option.some.inj e)) head_not_u8, ⟨q, hq, ho.1, ?_⟩, h.b0.trans hk.1⟩
  rcases ho.2 with h2 | ⟨g, c, cur, hv, hg, hh, r⟩
  · exact .inl h2
  · refine .inr ⟨g, c, cur, hv, hg, hk.2 g _ hh (fun e => ?_) ?_, r⟩
    · have := Option.some.inj e
      omega
    · intro x fz he
      exact absurd (Obj.cells.inj he).2.1 (by decide)
theorem On.at (h : On B T H J P ao cap fo fc all l fs w0 w acc W) (hv : bytesArg W (.slice ao l.length cap) l) : HdAt W l fs ao cap fo fc := by
  obtain ⟨q, _, ho⟩ := h.ow
  exact ⟨hv, rowF_owned ho⟩
theorem On.hc (h : On B T H J P ao cap fo fc all l fs w0 w acc W) : W.cell? ⟨J, 0, none⟩ = some (.slice ao l.length cap) ∧ W.cell? ⟨J, 1, none⟩ = some (.slice fo fs.length fc) := by
  simp [World.cell?, h.hd]
end
/-- What stands within the brackets of a part that is no multipart. -/
def oneS (l : List UInt8) (fs : List Fld) (all : Bool) (k b1 b2 : Nat) (ks : List Tr) : List UInt8 :=
  spW [strW (kindS l fs k).1, strW (kindS l fs k).2.1, (kindS l fs k).2.2] ++ ([32] ++ spW [fldW l fs nmCid, fldW l fs nmCde]) ++ ([32] ++ spW [strW (encS20 l fs), Lib.itoa ((b2 - b1 : Nat) : Int)])
    ++ (if k = 2 then (match ks with | [] => [] | t :: _ => [32] ++ (putE (ofE l (fsOf l t.hd.1 t.hd.2)) ++ [32]) ++ stT l all t) else [])
    ++ (if (k = 2 ∧ ks ≠ []) ∨ (kindS l fs k).1 = txtN then [32] ++ Lib.itoa ((linesZ l (b1 : Int) (b2 : Int)).length : Int) else [])
    ++ (if all = true then [32] ++ spW [fldW l fs nmMd5, spW (restW l fs)] else [])
theorem oneS_eq (l : List UInt8) (all : Bool) (k : Nat) (hd bd : Sp) (ks : List Tr) (cu : List Sp) (e : Sp) (hk : k ≠ 1) : stT l all (.mk k hd bd ks cu e) = 40 :: (oneS l (fsOf l hd.1 hd.2) all k bd.1 bd.2 ks ++ [41]) := by
  unfold stT
  rw [if_neg hk]
  unfold rowW
  refine congrArg (fun x => 40 :: (x ++ [41])) ?_
  unfold oneS
  generalize strW (kindS l (fsOf l hd.1 hd.2) k).1 = s1
  generalize strW (kindS l (fsOf l hd.1 hd.2) k).2.1 = s2
  generalize (kindS l (fsOf l hd.1 hd.2) k).2.2 = s3
  generalize fldW l (fsOf l hd.1 hd.2) nmCid = s4
  generalize fldW l (fsOf l hd.1 hd.2) nmCde = s5
  generalize strW (encS20 l (fsOf l hd.1 hd.2)) = s6
  generalize Lib.itoa ((bd.2 - bd.1 : Nat) : Int) = s7
  generalize Lib.itoa ((linesZ l (bd.1 : Int) (bd.2 : Int)).length : Int) = s8
  generalize fldW l (fsOf l hd.1 hd.2) nmMd5 = s9
  generalize (kindS l (fsOf l hd.1 hd.2) k).1 = s0
  obtain ⟨d0, d1, d2, hr⟩ : ∃ a b c, restW l (fsOf l hd.1 hd.2) = [a, b, c] := ⟨_, _, _, rfl⟩
  rw [hr]
  by_cases h2 : k = 2
  · cases ks with
    | nil =>
      by_cases ht : s0 = txtN <;> cases all <;> simp [h2, ht, stH, spW, Lib.join_cons, Lib.joinTail]
    | cons t r =>
      cases all <;> simp [h2, stH, spW, Lib.join_cons, Lib.joinTail]
  · by_cases ht : s0 = txtN <;> cases all <;> simp [h2, ht, spW, Lib.join_cons, Lib.joinTail]
end Go.Proofs.YtkmgflnmffdhjaaGreatDoor
