/- Contracts of package tree: entity whole, Parse. -/
import Derived.Test.YteallnjbpikhhaaGreatDoorGbTrG
namespace Go.Proofs.YteallnjbpikhhaaGreatDoor
open Go Go.RowKit

theorem entity_any (M : Nat) (v : Value) (l : List UInt8) (w0 : World) (he : env w0) (hv : bytesArg w0 v l) (hbig : l.length ≤ 100000) (hM0 : w0.heap.size ≤ M) : ∀ (d : Nat), d ≤ 32 →
    ∀ (s : Sp) (g : Bool) (c : Nat) (w : World), s.1 ≤ s.2 → s.2 ≤ l.length → c ≤ 1000 → Below w0.heap.size w0 w → Mk w M v c →
      Calls Tryz.prog 16 #[.pointer (some ⟨M, 0, none⟩), .agg #[.int .i64 (s.1 : Int), .int .i64 (s.2 : Int)], .int .i64 ((32 - d : Nat) : Int), .bool g] w (entPost M v (entS l d s g c) w)
  | 0, hd => fun s g c w h1 h2 h3 h4 h5 => entity_step M v l w0 he hv hbig hM0 0 hd (fun d' e => by omega) s g c w h1 h2 h3 h4 h5
  | d + 1, hd => fun s g c w h1 h2 h3 h4 h5 => entity_step M v l w0 he hv hbig hM0 (d + 1) hd (fun d' e => by
      obtain rfl : d = d' := by omega
      exact entity_any M v l w0 he hv hbig hM0 d (by omega)) s g c w h1 h2 h3 h4 h5
def treePost (l : List UInt8) (w : World) (e : Ending) (w' : World) : Prop :=
  ∃ ka kn kc ca cn cc, e = .returned (.tuple #[.agg #[.int .i64 ((treeS l).kind : Int), .int .i64 ((treeS l).hd.1 : Int), .int .i64 ((treeS l).hd.2 : Int), .int .i64 ((treeS l).bd.1 : Int), .int .i64 ((treeS l).bd.2 : Int), .slice ka kn kc, .slice ca cn cc, .int .i64 ((treeS l).e.1 : Int), .int .i64 ((treeS l).e.2 : Int)], .int .i64 0]) ∧
    treeAt (fun k => w.heap.size ≤ k) w' (treeS l) (.agg #[.int .i64 ((treeS l).kind : Int), .int .i64 ((treeS l).hd.1 : Int), .int .i64 ((treeS l).hd.2 : Int), .int .i64 ((treeS l).bd.1 : Int), .int .i64 ((treeS l).bd.2 : Int), .slice ka kn kc, .slice ca cn cc, .int .i64 ((treeS l).e.1 : Int), .int .i64 ((treeS l).e.2 : Int)]) ∧ Below w.heap.size w w'
set_option maxRecDepth 100000 in
set_option maxHeartbeats 2000000 in
theorem treeParse_any (v : Value) (l : List UInt8) (w : World) (hv : bytesArg w v l) (hbig : l.length ≤ 100000) (he : env w) :
    Calls Tryz.prog 8 #[v] w (treePost l w) := by
  have HV := Lib.hid hv
  have HE := Lib.hid he
  obtain ⟨ao, cap, rfl, hc, hm, hs⟩ := hv
  have HT : Hid ((entS l 32 (0, l.length) false 1).1 = treeS l) := rfl
  obtain ⟨X, hX⟩ : ∃ X, X = (w.alloc (partO 0 0 0 0 0 (.slice none 0 0) (.slice none 0 0) 0 0)).alloc (.cells #[.slice ao l.length cap, .int .i64 1] 52) := ⟨_, rfl⟩
  have hz : X.heap.size = w.heap.size + 2 := by rw [hX]; simp
  have hB : Below w.heap.size w X := by rw [hX]; exact ((Below.refl _ _).alloc (Nat.le_refl _) _).alloc (by simp) _
  have o2 : X.heap[w.heap.size]? = some (partO 0 0 0 0 0 (.slice none 0 0) (.slice none 0 0) 0 0) := by rw [hX]; exact heap_alloc2_old _ _ _
  have o4 : X.heap[w.heap.size + 1]? = some (.cells #[.slice ao l.length cap, .int .i64 1] 52 (0, 0)) := by rw [hX]; exact heap_alloc2_new _ _ _
  have hMk : Mk X (w.heap.size + 1) (.slice ao l.length cap) 1 := ⟨by simp [World.cell?, o4], by simp [World.cell?, o4], by simp [World.frozen?, o4]⟩
  have HEn : Hid (Calls Tryz.prog 16 #[.pointer (some ⟨w.heap.size + 1, 0, none⟩), .agg #[.int .i64 0, .int .i64 (l.length : Int)], .int .i64 0, .bool false] X (entPost (w.heap.size + 1) (.slice ao l.length cap) (entS l 32 (0, l.length) false 1) X)) := (entity_any (w.heap.size + 1) (.slice ao l.length cap) l w he HV.out hbig (Nat.le_succ _) 32 (Nat.le_refl _) (0, l.length) false 1 X (Nat.zero_le _) (Nat.le_refl _) (by decide) hB hMk)
  have hbb : decide ((67108864 : Int) < (l.length : Int)) = false := decide_eq_false (by omega)
  have hbi : ¬ (67108864 : Int) < (l.length : Int) := by omega
  have HO2 := Lib.hid o2
  have HBX := Lib.hid hB
  have Hz := Lib.hid hz
  unfold entPost Gr at HEn
  unfold partO at hX
  clear hMk o2 o4 hB hz hs he
  go_enter Tryz.func8, Tryz.ntmps8
  go_wp2_with fail
  rw [← hX]
  clear hX
  with_reducible refine HEn.out.mono ?_
  rintro e w5 ⟨u, rfl, ht, hg, hm⟩
  rw [HT.out] at ht
  obtain ⟨tr, htr⟩ : ∃ tr, tr = treeS l := ⟨_, rfl⟩
  rw [← htr] at ht
  have HTE := Lib.hid htr
  obtain ⟨ka, kn, kc, ca, cn, cc, rfl⟩ := treeAt_agg ht
  have HTr := Lib.hid ht
  have HB5 : Hid (Below w.heap.size w w5) := gr_below HBX.out (Nat.le_succ _) hg
  have P2 := Lib.hid ((hg.block w.heap.size (by have := Hz.out; omega) (by intro e; have := Option.some.inj e; omega)).trans HO2.out)
  obtain ⟨b0, b1, b2, b3, b4, b5, b6, b7, b8⟩ := part_cells P2.out
  obtain ⟨f0, f1, f2, f3, f4, f5, f6, f7, f8⟩ := part_frozen P2.out
  clear ht hm HEn htr
  go_wp2_with fail
  (try simp only [Exit.inBlock, Exit.then])
  have h9 := row_set9 (a0 := .int .i64 (tr.kind : Int)) (a1 := .int .i64 (tr.hd.1 : Int)) (a2 := .int .i64 (tr.hd.2 : Int)) (a3 := .int .i64 (tr.bd.1 : Int)) (a4 := .int .i64 (tr.bd.2 : Int)) (a5 := .slice ka kn kc) (a6 := .slice ca cn cc) (a7 := .int .i64 (tr.e.1 : Int)) (a8 := .int .i64 (tr.e.2 : Int)) P2.out
  obtain ⟨g0, g1, g2, g3, g4, g5, g6, g7, g8⟩ := part_cells (k := (tr.kind : Int)) (a := (tr.hd.1 : Int)) (b := (tr.hd.2 : Int)) (c := (tr.bd.1 : Int)) (d := (tr.bd.2 : Int)) (ks := .slice ka kn kc) (cs := .slice ca cn cc) (e := (tr.e.1 : Int)) (f := (tr.e.2 : Int)) h9
  refine bodyPost_ret (v := .tuple #[.agg #[.int .i64 (tr.kind : Int), .int .i64 (tr.hd.1 : Int), .int .i64 (tr.hd.2 : Int), .int .i64 (tr.bd.1 : Int), .int .i64 (tr.bd.2 : Int), .slice ka kn kc, .slice ca cn cc, .int .i64 (tr.e.1 : Int), .int .i64 (tr.e.2 : Int)], .int .i64 0]) (by simp [results, Tryz.results8, go_sem, g0, g1, g2, g3, g4, g5, g6, g7, g8]) rfl ?_
  unfold treePost
  rw [← HTE.out]
  refine ⟨ka, kn, kc, ca, cn, cc, rfl, ?_, below_set9 HB5.out (Nat.le_refl _)⟩
  refine treeAt.keep ?_ _ _ HTr.out
  intro q hq _
  have hq' : X.heap.size ≤ q := hq
  have := Hz.out
  exact ⟨heap_set9 (by omega), by omega⟩
end Go.Proofs.YteallnjbpikhhaaGreatDoor

/- Contracts of package tree: Count, Deep. -/
namespace Go.Proofs.YteallnjbpikhhaaGreatDoor
open Go Go.RowKit

theorem kidsAt_get {S : Nat → Prop} {W : World} : ∀ {ts : List Tr} {us : List Value} (_ : kidsAt S W ts us) (i : Nat) (h : i < ts.length), ∃ u, us[i]? = some u ∧ treeAt S W ts[i] u
  | [], _, _, i, h => by simp at h
  | t :: r, us, hk, i, h => by
    unfold kidsAt at hk
    obtain ⟨u, us', rfl, h2, h3⟩ := hk
    cases i with
    | zero => exact ⟨u, rfl, h2⟩
    | succ i => exact kidsAt_get h3 i (by simpa using h)
theorem kidsAt_nine {S : Nat → Prop} {W : World} : ∀ {ts : List Tr} {us : List Value} (_ : kidsAt S W ts us), ∀ u ∈ us, (partCells u).length = 9
  | [], us, hk => by
    unfold kidsAt at hk
    subst hk
    intro u hu
    cases hu
  | t :: r, us, hk => by
    unfold kidsAt at hk
    obtain ⟨u, us', rfl, h2, h3⟩ := hk
    intro x hx
    rcases List.mem_cons.1 hx with rfl | hx
    · obtain ⟨_, _, _, _, _, _, rfl⟩ := treeAt_agg h2
      rfl
    · exact kidsAt_nine h3 x hx
theorem flat9 : ∀ (us : List Value) (_ : ∀ u ∈ us, (partCells u).length = 9) (i j : Nat) (u : Value), us[i]? = some u → j < 9 → (us.flatMap partCells)[i * 9 + j]? = (partCells u)[j]?
  | [], _, i, j, u, h, _ => by simp at h
  | x :: r, h9, i, j, u, h, hj => by
    have hx := h9 x (List.mem_cons_self ..)
    rw [List.flatMap_cons]
    cases i with
    | zero =>
      obtain rfl : x = u := by simpa using h
      rw [Nat.zero_mul, Nat.zero_add, List.getElem?_append_left (by omega)]
    | succ i =>
      rw [List.getElem?_append_right (by omega), hx, show (i + 1) * 9 + j - 9 = i * 9 + j by omega]
      exact flat9 r (fun u hu => h9 u (List.mem_cons_of_mem _ hu)) i j u (by simpa using h) hj
def nineAt (W : World) (g i : Nat) (t : Tr) (ks cs : Value) : Prop :=
  W.cell? ⟨g, i * 9, none⟩ = some (.int .i64 (t.kind : Int)) ∧ W.cell? ⟨g, i * 9 + 1, none⟩ = some (.int .i64 (t.hd.1 : Int)) ∧ W.cell? ⟨g, i * 9 + 2, none⟩ = some (.int .i64 (t.hd.2 : Int)) ∧
  W.cell? ⟨g, i * 9 + 3, none⟩ = some (.int .i64 (t.bd.1 : Int)) ∧ W.cell? ⟨g, i * 9 + 4, none⟩ = some (.int .i64 (t.bd.2 : Int)) ∧ W.cell? ⟨g, i * 9 + 5, none⟩ = some ks ∧ W.cell? ⟨g, i * 9 + 6, none⟩ = some cs ∧
  W.cell? ⟨g, i * 9 + 7, none⟩ = some (.int .i64 (t.e.1 : Int)) ∧ W.cell? ⟨g, i * 9 + 8, none⟩ = some (.int .i64 (t.e.2 : Int))
theorem nineAt.block {W W' : World} {g i : Nat} {t : Tr} {ks cs : Value} (h : nineAt W g i t ks cs) (hb : W'.heap[g]? = W.heap[g]?) : nineAt W' g i t ks cs := by
  obtain ⟨h0, h1, h2, h3, h4, h5, h6, h7, h8⟩ := h
  exact ⟨(World.cell?_of_block (a := ⟨g, i * 9, none⟩) hb).trans h0, (World.cell?_of_block (a := ⟨g, i * 9 + 1, none⟩) hb).trans h1, (World.cell?_of_block (a := ⟨g, i * 9 + 2, none⟩) hb).trans h2,
    (World.cell?_of_block (a := ⟨g, i * 9 + 3, none⟩) hb).trans h3, (World.cell?_of_block (a := ⟨g, i * 9 + 4, none⟩) hb).trans h4, (World.cell?_of_block (a := ⟨g, i * 9 + 5, none⟩) hb).trans h5,
    (World.cell?_of_block (a := ⟨g, i * 9 + 6, none⟩) hb).trans h6, (World.cell?_of_block (a := ⟨g, i * 9 + 7, none⟩) hb).trans h7, (World.cell?_of_block (a := ⟨g, i * 9 + 8, none⟩) hb).trans h8⟩
/-- A row of kids, as it is read. -/
theorem kids_at {S : Nat → Prop} {W : World} {ts : List Tr} {us : List Value} {ka : Option Addr} {kn kc : Nat} (ho : ownS S W 32 9 (.slice ka kn kc) us.length (us.flatMap partCells)) (hk : kidsAt S W ts us) :
    kn = ts.length ∧ kn ≤ kc ∧ kc ≤ maxLen ∧ ∀ i, (h : i < ts.length) → ∃ g a n c a2 n2 c2, ka = some ⟨g, 0, none⟩ ∧ g < W.heap.size ∧ S g ∧ nineAt W g i ts[i] (.slice a n c) (.slice a2 n2 c2) ∧
      treeAt S W ts[i] (.agg #[.int .i64 (ts[i].kind : Int), .int .i64 (ts[i].hd.1 : Int), .int .i64 (ts[i].hd.2 : Int), .int .i64 (ts[i].bd.1 : Int), .int .i64 (ts[i].bd.2 : Int), .slice a n c, .slice a2 n2 c2, .int .i64 (ts[i].e.1 : Int), .int .i64 (ts[i].e.2 : Int)]) := by
  have hlen := kidsAt_len hk
  obtain ⟨ho, hS⟩ := ho
  rcases ho.2 with ⟨e, h0⟩ | ⟨g, cap, cur, e, _, hh, hc, hm, hs, ht⟩
  · obtain ⟨rfl, rfl, rfl⟩ := Value.slice.inj e
    refine ⟨by omega, Nat.le_refl _, Nat.zero_le _, fun i hi => by omega⟩
  · obtain ⟨rfl, rfl, rfl⟩ := Value.slice.inj e
    refine ⟨hlen, hc, hm, fun i hi => ?_⟩
    obtain ⟨u, hu, htr⟩ := kidsAt_get hk i hi
    obtain ⟨a, n, c, a2, n2, c2, rfl⟩ := treeAt_agg htr
    refine ⟨g, a, n, c, a2, n2, c2, rfl, (Array.getElem?_eq_some_iff.1 hh).1, hS g rfl, ?_, htr⟩
    have hcell : ∀ j, j < 9 → W.cell? ⟨g, i * 9 + j, none⟩ = (us.flatMap partCells)[i * 9 + j]? := fun j hj => by
      rw [← ht, List.getElem?_take, if_pos (by omega)]
      simp only [World.cell?, hh]
      simp
    have hf := fun j hj => (hcell j hj).trans (flat9 us (kidsAt_nine hk) i j _ hu hj)
    exact ⟨hf 0 (by decide), hf 1 (by decide), hf 2 (by decide), hf 3 (by decide), hf 4 (by decide), hf 5 (by decide), hf 6 (by decide), hf 7 (by decide), hf 8 (by decide)⟩
theorem treeAt_open {S : Nat → Prop} {W : World} {t : Tr} {u : Value} (h : treeAt S W t u) : ∃ ka kn kc ca cn cc us, u = .agg #[.int .i64 (t.kind : Int), .int .i64 (t.hd.1 : Int), .int .i64 (t.hd.2 : Int), .int .i64 (t.bd.1 : Int), .int .i64 (t.bd.2 : Int), .slice ka kn kc, .slice ca cn cc, .int .i64 (t.e.1 : Int), .int .i64 (t.e.2 : Int)] ∧
    ownS S W 28 2 (.slice ca cn cc) t.cuts.length (spCells t.cuts) ∧ ownS S W 32 9 (.slice ka kn kc) us.length (us.flatMap partCells) ∧ kidsAt S W t.kids us := by
  cases t
  unfold treeAt at h
  obtain ⟨ka, kn, kc, ca, cn, cc, us, h1, h2, h3, h4⟩ := h
  exact ⟨ka, kn, kc, ca, cn, cc, us, h1, h2, h3, h4⟩
theorem countT_eq (t : Tr) : countT t = 1 + countK t.kids := by cases t; rfl
theorem deepT_eq (t : Tr) : deepT t = deepK t.kids := by cases t; rfl
theorem countK_drop (ts : List Tr) (i : Nat) (h : i < ts.length) : countK (ts.drop i) = countT ts[i] + countK (ts.drop (i + 1)) := by
  rw [List.drop_eq_getElem_cons h]
  rfl
theorem countK_le (ts : List Tr) (i : Nat) : countK (ts.drop i) ≤ countK ts := by
  induction ts generalizing i with
  | nil => simp
  | cons t r ih =>
    cases i with
    | zero => simp
    | succ i =>
      have := ih i
      have e : countK (t :: r) = countT t + countK r := rfl
      rw [List.drop_succ_cons]
      omega
theorem size_kid {t : Tr} (i : Nat) (h : i < t.kids.length) : SizeOf.sizeOf t.kids[i] < SizeOf.sizeOf t := by
  cases t with
  | mk k hd bd ks cs e =>
    have h1 : SizeOf.sizeOf ks[i] < SizeOf.sizeOf ks := List.sizeOf_lt_of_mem (List.getElem_mem h)
    show SizeOf.sizeOf ks[i] < SizeOf.sizeOf (Tr.mk k hd bd ks cs e)
    rw [Tr.mk.sizeOf_spec]
    omega
def kidCall (fid : FuncId) (val : Tr → Nat) (w : World) (ka : Option Addr) (ts : List Tr) : Prop := ∀ i, (h : i < ts.length) → ∃ g a n c a2 n2 c2, ka = some ⟨g, 0, none⟩ ∧ g < w.heap.size ∧ nineAt w g i ts[i] (.slice a n c) (.slice a2 n2 c2) ∧
        ∀ W', Below w.heap.size w W' → Calls Tryz.prog fid #[.agg #[.int .i64 (ts[i].kind : Int), .int .i64 (ts[i].hd.1 : Int), .int .i64 (ts[i].hd.2 : Int), .int .i64 (ts[i].bd.1 : Int), .int .i64 (ts[i].bd.2 : Int), .slice a n c, .slice a2 n2 c2, .int .i64 (ts[i].e.1 : Int), .int .i64 (ts[i].e.2 : Int)]] W'
          fun e w' => e = .returned (.int .i64 (val ts[i] : Int)) ∧ Below W'.heap.size W' w'
theorem kidCall_of {fid : FuncId} {val : Tr → Nat} {S : Nat → Prop} {w : World} {ts : List Tr} {us : List Value} {ka : Option Addr} {kn kc : Nat} (ho : ownS S w 32 9 (.slice ka kn kc) us.length (us.flatMap partCells)) (hk : kidsAt S w ts us)
    (ih : ∀ i, (h : i < ts.length) → ∀ W' u, treeAt S W' ts[i] u → Calls Tryz.prog fid #[u] W' fun e w' => e = .returned (.int .i64 (val ts[i] : Int)) ∧ Below W'.heap.size W' w') : kidCall fid val w ka ts := by
  intro i h
  obtain ⟨g, a, n, c, a2, n2, c2, h1, h2, _, h3, h4⟩ := (kids_at ho hk).2.2.2 i h
  refine ⟨g, a, n, c, a2, n2, c2, h1, h2, h3, fun W' hb => ih i h W' _ ?_⟩
  exact treeAt.keep (fun q hS hq => ⟨hb.block q hq, hS⟩) _ _ h4
theorem lenK_le : ∀ l : List Tr, l.length ≤ countK l
  | [] => Nat.le_refl _
  | x :: r => by
    have e : countK (x :: r) = countT x + countK r := rfl
    have := countT_eq x
    have := lenK_le r
    simp only [List.length_cons]
    omega
theorem deepK_drop (ts : List Tr) (i : Nat) (h : i < ts.length) : deepK (ts.drop i) = max (1 + deepT ts[i]) (deepK (ts.drop (i + 1))) := by
  rw [List.drop_eq_getElem_cons h]
  rfl
theorem deepK_get (ts : List Tr) (i : Nat) (h : i < ts.length) : 1 + deepT ts[i] ≤ deepK ts := by
  induction ts generalizing i with
  | nil => simp at h
  | cons t r ih =>
    have e : deepK (t :: r) = max (1 + deepT t) (deepK r) := rfl
    cases i with
    | zero => simp only [List.getElem_cons_zero]; omega
    | succ i =>
      have := ih i (by simpa using h)
      simp only [List.getElem_cons_succ]
      omega
end Go.Proofs.YteallnjbpikhhaaGreatDoor
