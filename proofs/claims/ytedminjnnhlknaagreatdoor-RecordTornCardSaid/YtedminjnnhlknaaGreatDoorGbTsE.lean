/- A tree of the law's own parts in memory. -/
import Derived.Test.YtedminjnnhlknaaGreatDoorGbTrI
import Derived.Test.YtedminjnnhlknaaGreatDoorGbRcM
import Derived.Test.YtedminjnnhlknaaGreatDoorGbTiG
import Derived.Test.YtedminjnnhlknaaGreatDoorGbParH
namespace Go.Proofs.YtedminjnnhlknaaGreatDoor
open Go Go.RowKit
mutual
def refAt (S : Nat → Prop) (W : World) : Tr → Value → Prop
 | .mk k hd bd ks cs e, u => ∃ ka kn kc ca cn cc us, u = partV k hd bd (.slice ka kn kc) (.slice ca cn cc) e ∧ ownS S W 27 2 (.slice ca cn cc) cs.length (spCells cs) ∧
   ownS S W 40 9 (.slice ka kn kc) us.length (us.flatMap partCells) ∧ refKs S W ks us
def refKs (S : Nat → Prop) (W : World) : List Tr → List Value → Prop
 | [], us => us = []
 | t :: r, us => ∃ u us', us = u :: us' ∧ refAt S W t u ∧ refKs S W r us'
end
mutual
theorem refAt.keep {S S' : Nat → Prop} {W W' : World} (hk : ∀ k, S k → k < W.heap.size → W'.heap[k]? = W.heap[k]? ∧ S' k) : ∀ (t : Tr) (u : Value), refAt S W t u → refAt S' W' t u
 | .mk k hd bd ks cs e, u, h => by
  unfold refAt at h ⊢
  obtain ⟨ka, kn, kc, ca, cn, cc, us, h1, h2, h3, h4⟩ := h
  exact ⟨ka, kn, kc, ca, cn, cc, us, h1, h2.keep hk, h3.keep hk, refKs.keep hk ks us h4⟩
theorem refKs.keep {S S' : Nat → Prop} {W W' : World} (hk : ∀ k, S k → k < W.heap.size → W'.heap[k]? = W.heap[k]? ∧ S' k) : ∀ (ts : List Tr) (us : List Value), refKs S W ts us → refKs S' W' ts us
 | [], us, h => by
  unfold refKs at h ⊢
  exact h
 | t :: r, us, h => by
  unfold refKs at h ⊢
  obtain ⟨u, us', h1, h2, h3⟩ := h
  exact ⟨u, us', h1, refAt.keep hk t u h2, refKs.keep hk r us' h3⟩
end
theorem refKs_nil (S : Nat → Prop) (W : World) : refKs S W [] [] := by unfold refKs; rfl
theorem refKs_snoc {S : Nat → Prop} {W : World} : ∀ {ts : List Tr} {us : List Value} {t : Tr} {u : Value}, refKs S W ts us → refAt S W t u → refKs S W (ts ++ [t]) (us ++ [u])
 | [], us, t, u, h, ht => by
  unfold refKs at h
  subst h
  show refKs S W [t] [u]
  unfold refKs
  exact ⟨u, [], rfl, ht, refKs_nil _ _⟩
 | x :: r, us, t, u, h, ht => by
  unfold refKs at h
  obtain ⟨v, us', rfl, h2, h3⟩ := h
  show refKs S W (x :: (r ++ [t])) (v :: (us' ++ [u]))
  unfold refKs
  exact ⟨v, us' ++ [u], rfl, h2, refKs_snoc h3 ht⟩
theorem refKs_len {S : Nat → Prop} {W : World} : ∀ {ts : List Tr} {us : List Value}, refKs S W ts us → us.length = ts.length
 | [], us, h => by
  unfold refKs at h
  subst h
  rfl
 | t :: r, us, h => by
  unfold refKs at h
  obtain ⟨u, us', rfl, _, h3⟩ := h
  simp [refKs_len h3]
theorem refAt_part {S : Nat → Prop} {W : World} {t : Tr} {u : Value} (h : refAt S W t u) : ∃ ka kn kc ca cn cc, u = partV t.kind t.hd t.bd (.slice ka kn kc) (.slice ca cn cc) t.e := by
 cases t
 unfold refAt at h
 obtain ⟨ka, kn, kc, ca, cn, cc, us, h1, _⟩ := h
 exact ⟨ka, kn, kc, ca, cn, cc, h1⟩
theorem refAt_agg {S : Nat → Prop} {W : World} {t : Tr} {u : Value} (h : refAt S W t u) : ∃ ka kn kc ca cn cc, u = .agg #[.int .i64 (t.kind : Int), .int .i64 (t.hd.1 : Int), .int .i64 (t.hd.2 : Int), .int .i64 (t.bd.1 : Int), .int .i64 (t.bd.2 : Int), .slice ka kn kc, .slice ca cn cc, .int .i64 (t.e.1 : Int), .int .i64 (t.e.2 : Int)] := by
 obtain ⟨ka, kn, kc, ca, cn, cc, h⟩ := refAt_part h
 exact ⟨ka, kn, kc, ca, cn, cc, h⟩
theorem refKs_get {S : Nat → Prop} {W : World} : ∀ {ts : List Tr} {us : List Value} (_ : refKs S W ts us) (i : Nat) (h : i < ts.length), ∃ u, us[i]? = some u ∧ refAt S W ts[i] u
 | [], _, _, i, h => by simp at h
 | t :: r, us, hk, i, h => by
  unfold refKs at hk
  obtain ⟨u, us', rfl, h2, h3⟩ := hk
  cases i with
  | zero => exact ⟨u, rfl, h2⟩
  | succ i => exact refKs_get h3 i (by simpa using h)
theorem refKs_nine {S : Nat → Prop} {W : World} : ∀ {ts : List Tr} {us : List Value} (_ : refKs S W ts us), ∀ u ∈ us, (partCells u).length = 9
 | [], us, hk => by
  unfold refKs at hk
  subst hk
  intro u hu
  cases hu
 | t :: r, us, hk => by
  unfold refKs at hk
  obtain ⟨u, us', rfl, h2, h3⟩ := hk
  intro x hx
  rcases List.mem_cons.1 hx with rfl | hx
  ·obtain ⟨_, _, _, _, _, _, rfl⟩ := refAt_agg h2
   rfl
  ·exact refKs_nine h3 x hx
theorem refkids_at {S : Nat → Prop} {W : World} {ts : List Tr} {us : List Value} {ka : Option Addr} {kn kc : Nat} (ho : ownS S W 40 9 (.slice ka kn kc) us.length (us.flatMap partCells)) (hk : refKs S W ts us) :
  kn = ts.length ∧ kn ≤ kc ∧ kc ≤ maxLen ∧ ∀ i, (h : i < ts.length) → ∃ g a n c a2 n2 c2, ka = some ⟨g, 0, none⟩ ∧ g < W.heap.size ∧ S g ∧ nineAt W g i ts[i] (.slice a n c) (.slice a2 n2 c2) ∧
   refAt S W ts[i] (.agg #[.int .i64 (ts[i].kind : Int), .int .i64 (ts[i].hd.1 : Int), .int .i64 (ts[i].hd.2 : Int), .int .i64 (ts[i].bd.1 : Int), .int .i64 (ts[i].bd.2 : Int), .slice a n c, .slice a2 n2 c2, .int .i64 (ts[i].e.1 : Int), .int .i64 (ts[i].e.2 : Int)]) := by
 have hlen := refKs_len hk
 obtain ⟨ho, hS⟩ := ho
 rcases ho.2 with ⟨e, h0⟩ | ⟨g, cap, cur, e, _, hh, hc, hm, hs, ht⟩
 ·obtain ⟨rfl, rfl, rfl⟩ := Value.slice.inj e
  refine ⟨by omega, Nat.le_refl _, Nat.zero_le _, fun i hi => by omega⟩
 ·obtain ⟨rfl, rfl, rfl⟩ := Value.slice.inj e
  refine ⟨hlen, hc, hm, fun i hi => ?_⟩
  obtain ⟨u, hu, htr⟩ := refKs_get hk i hi
  obtain ⟨a, n, c, a2, n2, c2, rfl⟩ := refAt_agg htr
  refine ⟨g, a, n, c, a2, n2, c2, rfl, (Array.getElem?_eq_some_iff.1 hh).1, hS g rfl, ?_, htr⟩
  have hcell : ∀ j, j < 9 → W.cell? ⟨g, i * 9 + j, none⟩ = (us.flatMap partCells)[i * 9 + j]? := fun j hj => by
   rw [← ht, List.getElem?_take, if_pos (by omega)]
   simp only [World.cell?, hh]
   simp
  have hf := fun j hj => (hcell j hj).trans (flat9 us (refKs_nine hk) i j _ hu hj)
  exact ⟨hf 0 (by decide), hf 1 (by decide), hf 2 (by decide), hf 3 (by decide), hf 4 (by decide), hf 5 (by decide), hf 6 (by decide), hf 7 (by decide), hf 8 (by decide)⟩
theorem refAt_open {S : Nat → Prop} {W : World} {t : Tr} {u : Value} (h : refAt S W t u) : ∃ ka kn kc ca cn cc us, u = .agg #[.int .i64 (t.kind : Int), .int .i64 (t.hd.1 : Int), .int .i64 (t.hd.2 : Int), .int .i64 (t.bd.1 : Int), .int .i64 (t.bd.2 : Int), .slice ka kn kc, .slice ca cn cc, .int .i64 (t.e.1 : Int), .int .i64 (t.e.2 : Int)] ∧
  ownS S W 27 2 (.slice ca cn cc) t.cuts.length (spCells t.cuts) ∧ ownS S W 40 9 (.slice ka kn kc) us.length (us.flatMap partCells) ∧ refKs S W t.kids us := by
 cases t
 unfold refAt at h
 obtain ⟨ka, kn, kc, ca, cn, cc, us, h1, h2, h3, h4⟩ := h
 exact ⟨ka, kn, kc, ca, cn, cc, us, h1, h2, h3, h4⟩
theorem Tryz.infoRp : (Tryz.prog.info? 40).map (fun i => (i.zero, i.size, i.bytes)) = some (some (.agg #[.int .i64 0, .int .i64 0, .int .i64 0, .int .i64 0, .int .i64 0, .slice none 0 0, .slice none 0 0, .int .i64 0, .int .i64 0]), 9, 104) := by kernel_rfl
theorem refAt_below {S : Nat → Prop} {w w' : World} {t : Tr} {u : Value} (h : refAt S w t u) (hb : Below w.heap.size w w') : refAt S w' t u := refAt.keep (fun q hS hq => ⟨hb.block q hq, hS⟩) _ _ h
def rfO (kind hf ht bf bt : Int) (ks cs : Value) (e1 e2 : Int) : Obj :=
 .cells #[.int .i64 kind, .int .i64 hf, .int .i64 ht, .int .i64 bf, .int .i64 bt, ks, cs, .int .i64 e1, .int .i64 e2] 40
def ofPost (n0 : Nat) (t : Tr) (w : World) (e : Ending) (w' : World) : Prop := ∃ u, e = .returned u ∧ refAt (fun q => q < n0 ∨ w.heap.size ≤ q) w' t u ∧ Below w.heap.size w w'
def kidOf (n0 : Nat) (w : World) (ka : Option Addr) (ts : List Tr) : Prop := ∀ i, (h : i < ts.length) → ∃ g a n c a2 n2 c2, ka = some ⟨g, 0, none⟩ ∧ g < n0 ∧ nineAt w g i ts[i] (.slice a n c) (.slice a2 n2 c2) ∧
 ∀ W', (∀ q, q < n0 → W'.heap[q]? = w.heap[q]?) → n0 ≤ W'.heap.size → Calls Tryz.prog 12 #[.agg #[.int .i64 (ts[i].kind : Int), .int .i64 (ts[i].hd.1 : Int), .int .i64 (ts[i].hd.2 : Int), .int .i64 (ts[i].bd.1 : Int), .int .i64 (ts[i].bd.2 : Int), .slice a n c, .slice a2 n2 c2, .int .i64 (ts[i].e.1 : Int), .int .i64 (ts[i].e.2 : Int)]] W'
  (ofPost n0 ts[i] W')
theorem rf_cells {W : World} {B : Nat} {k a b c d e f : Int} {ks cs : Value} (h : W.heap[B]? = some (rfO k a b c d ks cs e f)) :
  W.cell? ⟨B, 0, none⟩ = some (.int .i64 k) ∧ W.cell? ⟨B, 1, none⟩ = some (.int .i64 a) ∧ W.cell? ⟨B, 2, none⟩ = some (.int .i64 b) ∧ W.cell? ⟨B, 3, none⟩ = some (.int .i64 c) ∧ W.cell? ⟨B, 4, none⟩ = some (.int .i64 d) ∧
  W.cell? ⟨B, 5, none⟩ = some ks ∧ W.cell? ⟨B, 6, none⟩ = some cs ∧ W.cell? ⟨B, 7, none⟩ = some (.int .i64 e) ∧ W.cell? ⟨B, 8, none⟩ = some (.int .i64 f) := by
 unfold rfO at h
 simp [World.cell?, h]
theorem rf_frozen {W : World} {B : Nat} {k a b c d e f : Int} {ks cs : Value} (h : W.heap[B]? = some (rfO k a b c d ks cs e f)) (i : Nat) : W.frozen? ⟨B, i, none⟩ = false := by
 unfold rfO at h
 simp [World.frozen?, h]
theorem nine_open {W : World} {g i : Nat} {t : Tr} {ks cs : Value} (h : nineAt W g i t ks cs) : W.cell? ⟨g, i * 9, none⟩ = some (.int .i64 (t.kind : Int)) ∧ W.cell? ⟨g, i * 9 + 1, none⟩ = some (.int .i64 (t.hd.1 : Int)) ∧ W.cell? ⟨g, i * 9 + 2, none⟩ = some (.int .i64 (t.hd.2 : Int)) ∧
 W.cell? ⟨g, i * 9 + 3, none⟩ = some (.int .i64 (t.bd.1 : Int)) ∧ W.cell? ⟨g, i * 9 + 4, none⟩ = some (.int .i64 (t.bd.2 : Int)) ∧ W.cell? ⟨g, i * 9 + 5, none⟩ = some ks ∧ W.cell? ⟨g, i * 9 + 6, none⟩ = some cs ∧
 W.cell? ⟨g, i * 9 + 7, none⟩ = some (.int .i64 (t.e.1 : Int)) ∧ W.cell? ⟨g, i * 9 + 8, none⟩ = some (.int .i64 (t.e.2 : Int)) := h
set_option maxRecDepth 100000 in
set_option maxHeartbeats 8000000 in
theorem treeOf_step (n0 : Nat) (ts : List Tr) (kd h1 h2 b1 b2 e1 e2 : Nat) (ka ca : Option Addr) (kc cn cc : Nat) (w : World) (hn0 : n0 ≤ w.heap.size) (hln : ts.length ≤ 1000000) (hat : kidOf n0 w ka ts) :
  Calls Tryz.prog 12 #[.agg #[.int .i64 (kd : Int), .int .i64 (h1 : Int), .int .i64 (h2 : Int), .int .i64 (b1 : Int), .int .i64 (b2 : Int), .slice ka ts.length kc, .slice ca cn cc, .int .i64 (e1 : Int), .int .i64 (e2 : Int)]] w
   fun e w' => ∃ pa pn pc us, e = .returned (.agg #[.int .i64 (kd : Int), .int .i64 (h1 : Int), .int .i64 (h2 : Int), .int .i64 (b1 : Int), .int .i64 (b2 : Int), .slice pa pn pc, .slice ca cn cc, .int .i64 (e1 : Int), .int .i64 (e2 : Int)]) ∧
    ownS (fun q => w.heap.size ≤ q) w' 40 9 (.slice pa pn pc) us.length (us.flatMap partCells) ∧ refKs (fun q => q < n0 ∨ w.heap.size ≤ q) w' ts us ∧ Below w.heap.size w w' := by
 have HA := Lib.hid hat
 obtain ⟨i0, hi0, hz0, hz1, hz2⟩ := info_parts Tryz.infoRp
 have HI0 := Lib.hid hi0
 have HZ0 := Lib.hid hz0
 have HZ1 := Lib.hid hz1
 have HZ2 := Lib.hid hz2
 obtain ⟨X, hX⟩ : ∃ X, X = ((w.alloc (partO kd h1 h2 b1 b2 (.slice ka ts.length kc) (.slice ca cn cc) e1 e2)).alloc (rfO 0 0 0 0 0 (.slice none 0 0) (.slice none 0 0) 0 0)).alloc (rfO kd h1 h2 b1 b2 (.slice none 0 0) (.slice ca cn cc) e1 e2) := ⟨_, rfl⟩
 have HzX : Hid (X.heap.size = w.heap.size + 3) := by unfold Hid; rw [hX]; simp
 have HBX : Hid (Below w.heap.size w X) := by unfold Hid; rw [hX]; exact (((Below.refl _ _).alloc (Nat.le_refl _) _).alloc (by simp) _).alloc (by simp; omega) _
 have HX0 : Hid (X.heap[w.heap.size]? = some (partO kd h1 h2 b1 b2 (.slice ka ts.length kc) (.slice ca cn cc) e1 e2)) := by
  unfold Hid
  rw [hX]
  exact (Below.heap_alloc _ _ _ (by simp; omega)).trans (heap_alloc2_old w _ _)
 have HX1 : Hid (X.heap[w.heap.size + 1]? = some (rfO 0 0 0 0 0 (.slice none 0 0) (.slice none 0 0) 0 0)) := by
  unfold Hid
  rw [hX]
  exact (Below.heap_alloc _ _ _ (by simp)).trans (heap_alloc2_new w _ _)
 have HX2 : Hid (X.heap[w.heap.size + 1 + 1]? = some (rfO kd h1 h2 b1 b2 (.slice none 0 0) (.slice ca cn cc) e1 e2)) := by
  unfold Hid
  rw [hX]
  have := heap_alloc_new ((w.alloc (partO kd h1 h2 b1 b2 (.slice ka ts.length kc) (.slice ca cn cc) e1 e2)).alloc (rfO 0 0 0 0 0 (.slice none 0 0) (.slice none 0 0) 0 0)) (rfO kd h1 h2 b1 b2 (.slice none 0 0) (.slice ca cn cc) e1 e2)
  simp only [World.size_alloc] at this
  exact this
 unfold partO rfO at hX
 clear hat hi0 hz0 hz1 hz2
 go_enter Tryz.func12, Tryz.ntmps12
 go_upto_region 2 with fail
 rw [← hX]
 clear hX
 go_wp2_with fail
 go_loopg [4] ts.length (fun q x4 wr => ∃ (k : Nat) (us : List Value) (pa : Option Addr) (pn pc : Nat), k ≤ ts.length ∧ q = ts.length - k ∧ x4 = .int .i64 (k : Int) ∧ Hid (us.length = k) ∧ Hid (wr.heap[w.heap.size + 1 + 1]? = some (rfO kd h1 h2 b1 b2 (.slice pa pn pc) (.slice ca cn cc) e1 e2)) ∧
  Hid (wr.ownsRow X.heap.size 40 9 (.slice pa pn pc) us.length (us.flatMap partCells)) ∧ Hid (refKs (fun q => q < n0 ∨ (X.heap.size ≤ q ∧ ¬ (Value.slice pa pn pc).ownBlock = some q)) wr (ts.take k) us) ∧ Hid (K2 (w.heap.size + 1 + 1) (w.heap.size + 1 + 1) X wr))
 case atStart => exact ⟨0, [], none, 0, 0, Nat.zero_le _, rfl, rfl, rfl, HX2.out, World.ownsRow_nil _ _ _ _, refKs_nil _ _, K2.refl _ _ _⟩
 case round =>
  obtain ⟨k, us, pa, pn, pc, hk, rfl, rfl, HUl, HP2, HOx, HKx, HK2⟩ := hrel
  have hzX := HzX.out
  have hzr := HK2.out.size
  have hP0 : wr.heap[w.heap.size]? = some (partO kd h1 h2 b1 b2 (.slice ka ts.length kc) (.slice ca cn cc) e1 e2) := (HK2.out.block w.heap.size (by omega) (by omega) (by omega)).trans HX0.out
  have HP0 := Lib.hid hP0
  by_cases hlt : k < ts.length
  ·obtain ⟨g, ga, gn, gc, ga2, gn2, gc2, rfl, hg, h9, hcall⟩ := HA.out k hlt
   have c5 := (part_cells hP0).2.2.2.2.2.1
   have HC5 := Lib.hid c5
   have hbg : ∀ q, q < n0 → wr.heap[q]? = w.heap[q]? := fun q hq => (HK2.out.block q (by omega) (by omega) (by omega)).trans (HBX.out.block q (by omega))
   have HBG := Lib.hid hbg
   have HN9 := Lib.hid (nine_open (h9.block (hbg g hg)))
   obtain ⟨q, hq⟩ : ∃ q, q = ts[k] := ⟨_, rfl⟩
   have HTk : Hid (ts.take (k + 1) = ts.take k ++ [q]) := by unfold Hid; rw [hq]; exact List.take_succ_eq_append_getElem hlt
   rw [← hq] at HN9 hcall
   have HCl := Lib.hid hcall
   clear hP0 hbg hcall h9 hq
   have HEn : Hid (∀ W, K2 (w.heap.size + 1 + 1) (w.heap.size + 1 + 1) wr W → Calls Tryz.prog 12 #[.agg #[.int .i64 (q.kind : Int), .int .i64 (q.hd.1 : Int), .int .i64 (q.hd.2 : Int), .int .i64 (q.bd.1 : Int), .int .i64 (q.bd.2 : Int), .slice ga gn gc, .slice ga2 gn2 gc2, .int .i64 (q.e.1 : Int), .int .i64 (q.e.2 : Int)]] W (ofPost n0 q W)) := fun W hkW => HCl.out W (fun q hq => (hkW.block q (by omega) (by omega) (by omega)).trans (HBG.out q hq)) (by have := hkW.size; omega)
   unfold ofPost at HEn
   have hk0 : K2 (w.heap.size + 1 + 1) (w.heap.size + 1 + 1) wr wr.drew := (K2.refl _ _ _).below (Below.refl _ _).drew
   have HPa : Hid (∀ W, Below wr.heap.size wr W → W.heap[w.heap.size + 1 + 1]? = some (rfO kd h1 h2 b1 b2 (.slice pa pn pc) (.slice ca cn cc) e1 e2)) := fun W hb => (hb.block (w.heap.size + 1 + 1) (by omega)).trans HP2.out
   have HOb : Hid (∀ q, (Value.slice pa pn pc).ownBlock = some q → X.heap.size ≤ q ∧ q < wr.heap.size) := HOx.out.lt
   have HOk : Hid (∀ W, K2 (w.heap.size + 1 + 1) (w.heap.size + 1 + 1) wr W → W.ownsRow X.heap.size 40 9 (.slice pa pn pc) us.length (us.flatMap partCells)) := fun W hk => own_k2 HOx.out hk (by omega) (by omega)
   have HSp : Hid (∀ W, W.cell? ⟨w.heap.size + 1 + 1, 5, none⟩ = some (.slice pa pn pc) → K2 (w.heap.size + 1 + 1) (w.heap.size + 1 + 1) wr W → (W.cell? ⟨w.heap.size + 1 + 1, 5, none⟩ = some (.slice pa pn pc) ∧ W.cell? ⟨w.heap.size, 5, none⟩ = some (.slice (some ⟨g, 0, none⟩) ts.length kc) ∧ W.cell? ⟨g, k * 9, none⟩ = some (.int .i64 (q.kind : Int)) ∧ W.cell? ⟨g, k * 9 + 1, none⟩ = some (.int .i64 (q.hd.1 : Int)) ∧ W.cell? ⟨g, k * 9 + 2, none⟩ = some (.int .i64 (q.hd.2 : Int)) ∧ W.cell? ⟨g, k * 9 + 3, none⟩ = some (.int .i64 (q.bd.1 : Int)) ∧ W.cell? ⟨g, k * 9 + 4, none⟩ = some (.int .i64 (q.bd.2 : Int)) ∧ W.cell? ⟨g, k * 9 + 5, none⟩ = some (.slice ga gn gc) ∧ W.cell? ⟨g, k * 9 + 6, none⟩ = some (.slice ga2 gn2 gc2) ∧ W.cell? ⟨g, k * 9 + 7, none⟩ = some (.int .i64 (q.e.1 : Int)) ∧ W.cell? ⟨g, k * 9 + 8, none⟩ = some (.int .i64 (q.e.2 : Int)))) := fun W h5 hk => by
    have o1 := World.cell?_of_block (a := ⟨w.heap.size, 5, none⟩) (hk.block w.heap.size (by omega) (by omega) (by omega))
    have o2 := hk.block g (by omega) (by omega) (by omega)
    obtain ⟨p0, p1, p2, p3, p4, p5, p6, p7, p8⟩ := HN9.out
    refine ⟨h5, o1.trans HC5.out, ?_⟩
    exact ⟨(World.cell?_of_block (a := ⟨g, k * 9, none⟩) o2).trans p0, (World.cell?_of_block (a := ⟨g, k * 9 + 1, none⟩) o2).trans p1, (World.cell?_of_block (a := ⟨g, k * 9 + 2, none⟩) o2).trans p2, (World.cell?_of_block (a := ⟨g, k * 9 + 3, none⟩) o2).trans p3, (World.cell?_of_block (a := ⟨g, k * 9 + 4, none⟩) o2).trans p4,
     (World.cell?_of_block (a := ⟨g, k * 9 + 5, none⟩) o2).trans p5, (World.cell?_of_block (a := ⟨g, k * 9 + 6, none⟩) o2).trans p6, (World.cell?_of_block (a := ⟨g, k * 9 + 7, none⟩) o2).trans p7, (World.cell?_of_block (a := ⟨g, k * 9 + 8, none⟩) o2).trans p8⟩
   have HKq : Hid (∀ W W', K2 (w.heap.size + 1 + 1) (w.heap.size + 1 + 1) wr W → W.grownBy W' (Value.slice pa pn pc).ownBlock → W'.cell? ⟨w.heap.size + 1 + 1, 5, none⟩ = some (.slice pa pn pc) → (W'.cell? ⟨w.heap.size + 1 + 1, 5, none⟩ = some (.slice pa pn pc) ∧ W'.cell? ⟨w.heap.size, 5, none⟩ = some (.slice (some ⟨g, 0, none⟩) ts.length kc) ∧ W'.cell? ⟨g, k * 9, none⟩ = some (.int .i64 (q.kind : Int)) ∧ W'.cell? ⟨g, k * 9 + 1, none⟩ = some (.int .i64 (q.hd.1 : Int)) ∧ W'.cell? ⟨g, k * 9 + 2, none⟩ = some (.int .i64 (q.hd.2 : Int)) ∧ W'.cell? ⟨g, k * 9 + 3, none⟩ = some (.int .i64 (q.bd.1 : Int)) ∧ W'.cell? ⟨g, k * 9 + 4, none⟩ = some (.int .i64 (q.bd.2 : Int)) ∧ W'.cell? ⟨g, k * 9 + 5, none⟩ = some (.slice ga gn gc) ∧ W'.cell? ⟨g, k * 9 + 6, none⟩ = some (.slice ga2 gn2 gc2) ∧ W'.cell? ⟨g, k * 9 + 7, none⟩ = some (.int .i64 (q.e.1 : Int)) ∧ W'.cell? ⟨g, k * 9 + 8, none⟩ = some (.int .i64 (q.e.2 : Int)))) := fun W W' hk hg5 h5 => by
    have hz := hk.size
    have o1 := World.cell?_of_block (a := ⟨w.heap.size, 5, none⟩) ((hg5.block w.heap.size (by omega) (by intro e; have := HOb.out _ e.symm; omega)).trans (hk.block w.heap.size (by omega) (by omega) (by omega)))
    have o2 := (hg5.block g (by omega) (by intro e; have := HOb.out _ e.symm; omega)).trans (hk.block g (by omega) (by omega) (by omega))
    obtain ⟨p0, p1, p2, p3, p4, p5, p6, p7, p8⟩ := HN9.out
    refine ⟨h5, o1.trans HC5.out, ?_⟩
    exact ⟨(World.cell?_of_block (a := ⟨g, k * 9, none⟩) o2).trans p0, (World.cell?_of_block (a := ⟨g, k * 9 + 1, none⟩) o2).trans p1, (World.cell?_of_block (a := ⟨g, k * 9 + 2, none⟩) o2).trans p2, (World.cell?_of_block (a := ⟨g, k * 9 + 3, none⟩) o2).trans p3, (World.cell?_of_block (a := ⟨g, k * 9 + 4, none⟩) o2).trans p4,
     (World.cell?_of_block (a := ⟨g, k * 9 + 5, none⟩) o2).trans p5, (World.cell?_of_block (a := ⟨g, k * 9 + 6, none⟩) o2).trans p6, (World.cell?_of_block (a := ⟨g, k * 9 + 7, none⟩) o2).trans p7, (World.cell?_of_block (a := ⟨g, k * 9 + 8, none⟩) o2).trans p8⟩
   have hkp := (rf_cells (HPa.out _ (Below.refl _ _))).2.2.2.2.2.1
   have hle1 : us.length + 1 ≤ maxLen := by have := HUl.out; unfold maxLen; omega
   have hle2 : (us.length + 1) * 104 ≤ 140737488355328 := by have := HUl.out; omega
   have hPO : some (w.heap.size + 1 + 1) ≠ (Value.slice pa pn pc).ownBlock := by intro e; have := HOb.out _ e.symm; omega
   clear HCl
   go_wp2_with fail
   clear c5
   refine wp_region_last (fun W' => W'.cell? ⟨w.heap.size + 1 + 1, 5, none⟩ = some (.slice pa pn pc) ∧ W'.cell? ⟨w.heap.size, 5, none⟩ = some (.slice (some ⟨g, 0, none⟩) ts.length kc) ∧ W'.cell? ⟨g, k * 9, none⟩ = some (.int .i64 (q.kind : Int)) ∧ W'.cell? ⟨g, k * 9 + 1, none⟩ = some (.int .i64 (q.hd.1 : Int)) ∧ W'.cell? ⟨g, k * 9 + 2, none⟩ = some (.int .i64 (q.hd.2 : Int)) ∧ W'.cell? ⟨g, k * 9 + 3, none⟩ = some (.int .i64 (q.bd.1 : Int)) ∧ W'.cell? ⟨g, k * 9 + 4, none⟩ = some (.int .i64 (q.bd.2 : Int)) ∧ W'.cell? ⟨g, k * 9 + 5, none⟩ = some (.slice ga gn gc) ∧ W'.cell? ⟨g, k * 9 + 6, none⟩ = some (.slice ga2 gn2 gc2) ∧ W'.cell? ⟨g, k * 9 + 7, none⟩ = some (.int .i64 (q.e.1 : Int)) ∧ W'.cell? ⟨g, k * 9 + 8, none⟩ = some (.int .i64 (q.e.2 : Int))) 11 (by kernel_rfl) ?_
   have hS0 := HSp.out wr.drew hkp hk0
   refine wpAnyN_takeE (i := 0) rfl (by kernel_rfl) (by kernel_rfl) (by kernel_rfl) (by kernel_rfl) (fun _ _ _ _ h => h) rfl hS0 ?_
   apply Exists.intro
   refine ⟨fun w hSw => ?_, ?_⟩
   ·obtain ⟨_, _, _, _, _, _, _, _, _, _, _⟩ := hSw
    go_simp
    try rfl
   try simp only [Act.put]
   try simp only [List.setIfInBounds_toArray]
   try simp only [List.set_cons_succ]
   try simp only [List.set_cons_zero]
   refine wpAnyN_takeE (i := 1) rfl (by kernel_rfl) (by kernel_rfl) (by kernel_rfl) (by kernel_rfl) (fun _ _ _ _ h => h) rfl hS0 ?_
   apply Exists.intro
   refine ⟨fun w hSw => ?_, ?_⟩
   ·obtain ⟨_, _, _, _, _, _, _, _, _, _, _⟩ := hSw
    go_simp
    try rfl
   try simp only [Act.put]
   try simp only [List.setIfInBounds_toArray]
   try simp only [List.set_cons_succ]
   try simp only [List.set_cons_zero]
   refine wpAnyN_takeE (i := 2) rfl (by kernel_rfl) (by kernel_rfl) (by kernel_rfl) (by kernel_rfl) (fun _ _ _ _ h => h) rfl hS0 ?_
   apply Exists.intro
   refine ⟨fun w hSw => ?_, ?_⟩
   ·obtain ⟨_, _, _, _, _, _, _, _, _, _, _⟩ := hSw
    go_simp
    try rfl
   try simp only [Act.put]
   try simp only [List.setIfInBounds_toArray]
   try simp only [List.set_cons_succ]
   try simp only [List.set_cons_zero]
   refine wpAnyN_takeE (i := 3) rfl (by kernel_rfl) (by kernel_rfl) (by kernel_rfl) (by kernel_rfl) (fun _ _ _ _ h => h) rfl hS0 ?_
   apply Exists.intro
   refine ⟨fun w hSw => ?_, ?_⟩
   ·obtain ⟨_, _, _, _, _, _, _, _, _, _, _⟩ := hSw
    go_simp
    try rfl
   try simp only [Act.put]
   try simp only [List.setIfInBounds_toArray]
   try simp only [List.set_cons_succ]
   try simp only [List.set_cons_zero]
   refine wpAnyN_takeE (i := 4) rfl (by kernel_rfl) (by kernel_rfl) (by kernel_rfl) (by kernel_rfl) (fun _ _ _ _ h => h) rfl hS0 ?_
   apply Exists.intro
   refine ⟨fun w hSw => ?_, ?_⟩
   ·obtain ⟨_, _, _, _, _, _, _, _, _, _, _⟩ := hSw
    go_simp
    try rfl
   try simp only [Act.put]
   try simp only [List.setIfInBounds_toArray]
   try simp only [List.set_cons_succ]
   try simp only [List.set_cons_zero]
   refine wpAnyN_takeE (i := 5) rfl (by kernel_rfl) (by kernel_rfl) (by kernel_rfl) (by kernel_rfl) (fun _ _ _ _ h => h) rfl hS0 ?_
   apply Exists.intro
   refine ⟨fun w hSw => ?_, ?_⟩
   ·obtain ⟨_, _, _, _, _, _, _, _, _, _, _⟩ := hSw
    go_simp
    try rfl
   try simp only [Act.put]
   try simp only [List.setIfInBounds_toArray]
   try simp only [List.set_cons_succ]
   try simp only [List.set_cons_zero]
   refine wpAnyN_takeE (i := 6) rfl (by kernel_rfl) (by kernel_rfl) (by kernel_rfl) (by kernel_rfl) (fun _ _ _ _ h => h) rfl hS0 ?_
   apply Exists.intro
   refine ⟨fun w hSw => ?_, ?_⟩
   ·obtain ⟨_, _, _, _, _, _, _, _, _, _, _⟩ := hSw
    go_simp
    try rfl
   try simp only [Act.put]
   try simp only [List.setIfInBounds_toArray]
   try simp only [List.set_cons_succ]
   try simp only [List.set_cons_zero]
   refine wpAnyN_one (i := 7) (by kernel_rfl) rfl (fun K hK => ?_)
   go_simp
   go_at_call 12
   with_reducible refine (HEn.out _ hk0).mono ?_
   rintro e w11 ⟨u11, rfl, ht11, hb11⟩
   have hk11 := hk0.below hb11
   have hp11 := HPa.out _ ((Below.refl _ _).drew.trans (hb11.mono (Nat.le_refl _)))
   have HT11 := Lib.hid ht11
   obtain ⟨ka1, kn1, kc1, ca1, cn1, cc1, rfl⟩ := refAt_agg ht11
   dsimp only
   refine hK.out _ _ (fun _ => HSp.out _ (rf_cells hp11).2.2.2.2.2.1 hk11) ?_
   clear hK K
   refine wpAnyN_one (i := 8) (by kernel_rfl) rfl (fun K hK => ?_)
   go_simp
   have hk12 : K2 (w.heap.size + 1 + 1) (w.heap.size + 1 + 1) wr (w11.alloc (.cells #[.int .i64 (q.kind : Int), .int .i64 (q.hd.1 : Int), .int .i64 (q.hd.2 : Int), .int .i64 (q.bd.1 : Int), .int .i64 (q.bd.2 : Int), .slice ka1 kn1 kc1, .slice ca1 cn1 cc1, .int .i64 (q.e.1 : Int), .int .i64 (q.e.2 : Int)] 40)) := hk11.below ((Below.refl _ _).alloc (Nat.le_refl _) _)
   have hp12 : (w11.alloc (.cells #[.int .i64 (q.kind : Int), .int .i64 (q.hd.1 : Int), .int .i64 (q.hd.2 : Int), .int .i64 (q.bd.1 : Int), .int .i64 (q.bd.2 : Int), .slice ka1 kn1 kc1, .slice ca1 cn1 cc1, .int .i64 (q.e.1 : Int), .int .i64 (q.e.2 : Int)] 40)).heap[w.heap.size + 1 + 1]? = some (rfO kd h1 h2 b1 b2 (.slice pa pn pc) (.slice ca cn cc) e1 e2) := (Below.heap_alloc _ _ _ (by have := hk11.size; omega)).trans hp11
   refine hK.out _ _ (fun _ => HSp.out _ (rf_cells hp12).2.2.2.2.2.1 hk12) ?_
   clear hK K
   refine wpAnyN_one (i := 9) (by kernel_rfl) rfl (fun K hK => ?_)
   refine step_append_lies _ (by exact rfl) _ _ 38 (by exact rfl) X.heap.size 40 i0 (.agg #[.int .i64 0, .int .i64 0, .int .i64 0, .int .i64 0, .int .i64 0, .slice none 0 0, .slice none 0 0, .int .i64 0, .int .i64 0]) 9 104 Tryz.underlying38 HI0.out HZ0.out HZ1.out HZ2.out rfl (by decide) _ us.length (us.flatMap partCells) (by exact rfl) (HOk.out _ hk12) ⟨w11.heap.size, 0, none⟩ 1 1 [.int .i64 (q.kind : Int), .int .i64 (q.hd.1 : Int), .int .i64 (q.hd.2 : Int), .int .i64 (q.bd.1 : Int), .int .i64 (q.bd.2 : Int), .slice ka1 kn1 kc1, .slice ca1 cn1 cc1, .int .i64 (q.e.1 : Int), .int .i64 (q.e.2 : Int)] (by exact rfl) rfl (World.news_of_block (cs := #[.int .i64 (q.kind : Int), .int .i64 (q.hd.1 : Int), .int .i64 (q.hd.2 : Int), .int .i64 (q.bd.1 : Int), .int .i64 (q.bd.2 : Int), .slice ka1 kn1 kc1, .slice ca1 cn1 cc1, .int .i64 (q.e.1 : Int), .int .i64 (q.e.2 : Int)]) (heap_alloc_new w11 _)) (by simp [Value.oneCell']) (by decide) hle1 hle2 (by have := hk12.size; omega) _ rfl ?_
   intro g13 cap13 w13 hown13 hgrow13 hor13 hlt13
   have hz12 := hk12.size
   have hp13 := (hgrow13.block (w.heap.size + 1 + 1) (by omega) hPO).trans hp12
   refine hK.out _ _ (fun _ => HKq.out _ _ hk12 hgrow13 (rf_cells hp13).2.2.2.2.2.1) ?_
   clear hK K
   refine wpAnyN_one (i := 10) (by kernel_rfl) rfl (fun K hK => ?_)
   go_simp
   refine hK.out _ _ (fun _ => HKq.out _ _ hk12 hgrow13 (rf_cells hp13).2.2.2.2.2.1) ?_
   clear hK K
   have s5 := (rf_cells hp13).2.2.2.2.2.1
   have v5 := rf_frozen hp13 5
   refine wpAnyN_one (i := 11) (by kernel_rfl) rfl (fun K hK => ?_)
   go_simp
   refine hK.out _ _ (fun hh => absurd rfl hh) ?_
   clear hK K
   have HK2x : Hid (K2 (w.heap.size + 1 + 1) (w.heap.size + 1 + 1) X (w13.setCell ⟨w.heap.size + 1 + 1, 5, none⟩ (.slice (some ⟨g13, 0, none⟩) (us.length + 1) cap13))) := ((HK2.out.trans hk12).grown hgrow13 (fun q hq => (HOb.out q hq).1)).set 5 _
   have HOx2 : Hid ((w13.setCell ⟨w.heap.size + 1 + 1, 5, none⟩ (.slice (some ⟨g13, 0, none⟩) (us.length + 1) cap13)).ownsRow X.heap.size 40 9 (.slice (some ⟨g13, 0, none⟩) (us.length + 1) cap13) (us ++ [Value.agg #[.int .i64 (q.kind : Int), .int .i64 (q.hd.1 : Int), .int .i64 (q.hd.2 : Int), .int .i64 (q.bd.1 : Int), .int .i64 (q.bd.2 : Int), .slice ka1 kn1 kc1, .slice ca1 cn1 cc1, .int .i64 (q.e.1 : Int), .int .i64 (q.e.2 : Int)]]).length ((us ++ [Value.agg #[.int .i64 (q.kind : Int), .int .i64 (q.hd.1 : Int), .int .i64 (q.hd.2 : Int), .int .i64 (q.bd.1 : Int), .int .i64 (q.bd.2 : Int), .slice ka1 kn1 kc1, .slice ca1 cn1 cc1, .int .i64 (q.e.1 : Int), .int .i64 (q.e.2 : Int)]]).flatMap partCells)) := by
    unfold Hid
    have h1 := ownsRow_setCell_below (a := ⟨w.heap.size + 1 + 1, 5, none⟩) hown13 (show w.heap.size + 1 + 1 < X.heap.size by omega) (.slice (some ⟨g13, 0, none⟩) (us.length + 1) cap13)
    rw [List.length_append, List.flatMap_append]
    exact h1
   have HPx2 : Hid ((w13.setCell ⟨w.heap.size + 1 + 1, 5, none⟩ (.slice (some ⟨g13, 0, none⟩) (us.length + 1) cap13)).heap[w.heap.size + 1 + 1]? = some (rfO kd h1 h2 b1 b2 (.slice (some ⟨g13, 0, none⟩) (us.length + 1) cap13) (.slice ca cn cc) e1 e2)) := by
    have h1 := hp13
    unfold rfO at h1
    exact row_set h1
   have hs11 := hk11.size
   have hs12 : (w11.alloc (.cells #[.int .i64 (q.kind : Int), .int .i64 (q.hd.1 : Int), .int .i64 (q.hd.2 : Int), .int .i64 (q.bd.1 : Int), .int .i64 (q.bd.2 : Int), .slice ka1 kn1 kc1, .slice ca1 cn1 cc1, .int .i64 (q.e.1 : Int), .int .i64 (q.e.2 : Int)] 40)).heap.size = w11.heap.size + 1 := by simp
   have HKx2 : Hid (refKs (fun q => q < n0 ∨ (X.heap.size ≤ q ∧ ¬ (Value.slice (some ⟨g13, 0, none⟩) (us.length + 1) cap13).ownBlock = some q)) (w13.setCell ⟨w.heap.size + 1 + 1, 5, none⟩ (.slice (some ⟨g13, 0, none⟩) (us.length + 1) cap13)) (ts.take (k + 1)) (us ++ [Value.agg #[.int .i64 (q.kind : Int), .int .i64 (q.hd.1 : Int), .int .i64 (q.hd.2 : Int), .int .i64 (q.bd.1 : Int), .int .i64 (q.bd.2 : Int), .slice ka1 kn1 kc1, .slice ca1 cn1 cc1, .int .i64 (q.e.1 : Int), .int .i64 (q.e.2 : Int)]])) := by
    have hgo : ∀ q, (Value.slice (some ⟨g13, 0, none⟩) (us.length + 1) cap13).ownBlock = some q → g13 = q := fun q e => Option.some.inj e
    unfold Hid
    rw [HTk.out]
    refine refKs_snoc (refKs.keep ?_ _ _ HKx.out) (refAt.keep ?_ _ _ HT11.out)
    ·intro q hq hqz
     have hqne : (Value.slice pa pn pc).ownBlock ≠ some q := by
      rcases hq with hq | ⟨_, hq⟩
      ·intro e; have := HOb.out _ e; omega
      ·exact hq
     refine ⟨?_, ?_⟩
     ·rw [Below.heap_setCell _ _ _ _ (show q ≠ w.heap.size + 1 + 1 by rcases hq with hq | ⟨hq, _⟩ <;> omega), hgrow13.block q (by omega) (fun e => hqne e.symm)]
      exact hk12.block q hqz (by rcases hq with hq | ⟨hq, _⟩ <;> omega) (by rcases hq with hq | ⟨hq, _⟩ <;> omega)
     ·rcases hq with hq | ⟨hq, _⟩
      ·exact .inl hq
      ·refine .inr ⟨hq, fun e => ?_⟩
       have := hgo q e
       rcases hor13 with h1 | h1
       ·exact hqne (by rw [h1, this])
       ·omega
    ·intro q hq hqz
     have hqne : (Value.slice pa pn pc).ownBlock ≠ some q := by
      rcases hq with hq | hq
      ·intro e; have := HOb.out _ e; omega
      ·have hq' : wr.heap.size ≤ q := hq
       intro e; have := HOb.out _ e; omega
     have hq2 : q ≠ w.heap.size + 1 + 1 := by
      rcases hq with hq | hq
      ·omega
      ·have hq' : wr.heap.size ≤ q := hq
       omega
     refine ⟨?_, ?_⟩
     ·rw [Below.heap_setCell _ _ _ _ hq2, hgrow13.block q (by omega) (fun e => hqne e.symm)]
      exact Below.heap_alloc _ _ _ hqz
     ·rcases hq with hq | hq
      ·exact .inl hq
      ·have hq' : wr.heap.size ≤ q := hq
       refine .inr ⟨by omega, fun e => ?_⟩
       have := hgo q e
       rcases hor13 with h1 | h1
       ·exact hqne (by rw [h1, this])
       ·omega
   clear hown13 hgrow13 hor13 hlt13 hp13 hp12 hp11 hk12 hk11 ht11 HT11 hb11 hS0 s5 v5 HKq HSp HOk HPa hk0 hkp HEn hs11 hs12 hz12 HOb hPO hle1 hle2
   clear HK2 HOx HP2 HKx HBG HN9 HC5 HP0
   have HUl2 : Hid ((us ++ [Value.agg #[.int .i64 (q.kind : Int), .int .i64 (q.hd.1 : Int), .int .i64 (q.hd.2 : Int), .int .i64 (q.bd.1 : Int), .int .i64 (q.bd.2 : Int), .slice ka1 kn1 kc1, .slice ca1 cn1 cc1, .int .i64 (q.e.1 : Int), .int .i64 (q.e.2 : Int)]]).length = k + 1) := by unfold Hid; rw [List.length_append, HUl.out]; rfl
   refine wpAnyN_done (by kernel_rfl) ?_ _
   go_wp2_with fail
   go_roundg (ts.length - (k + 1))
   case measure => omega
   case rel => exact ⟨k + 1, us ++ [Value.agg #[.int .i64 (q.kind : Int), .int .i64 (q.hd.1 : Int), .int .i64 (q.hd.2 : Int), .int .i64 (q.bd.1 : Int), .int .i64 (q.bd.2 : Int), .slice ka1 kn1 kc1, .slice ca1 cn1 cc1, .int .i64 (q.e.1 : Int), .int .i64 (q.e.2 : Int)]], some ⟨g13, 0, none⟩, us.length + 1, cap13, by omega, rfl, by go_num, HUl2.out, HPx2.out, HOx2.out, HKx2.out, HK2x.out⟩
  ·obtain rfl : k = ts.length := by omega
   have hP1 : wr.heap[w.heap.size + 1]? = some (rfO 0 0 0 0 0 (.slice none 0 0) (.slice none 0 0) 0 0) := (HK2.out.block (w.heap.size + 1) (by omega) (by omega) (by omega)).trans HX1.out
   have HP1 := Lib.hid hP1
   obtain ⟨x0, x1, x2, x3, x4, x5, x6, x7, x8⟩ := part_cells hP0
   obtain ⟨a0, a1, a2, a3, a4, a5, a6, a7, a8⟩ := rf_cells HP2.out
   obtain ⟨b0, b1', b2', b3, b4, b5, b6, b7, b8⟩ := rf_cells hP1
   have f0 := rf_frozen hP1 0
   have f1 := rf_frozen hP1 1
   have f2 := rf_frozen hP1 2
   have f3 := rf_frozen hP1 3
   have f4 := rf_frozen hP1 4
   have f5 := rf_frozen hP1 5
   have f6 := rf_frozen hP1 6
   have f7 := rf_frozen hP1 7
   have f8 := rf_frozen hP1 8
   clear hP0 hP1
   go_wp2_with fail
   (try simp only [Exit.inBlock, Exit.then])
   refine bodyPost_ret (results_cell_row (P := Tryz.prog) Tryz.results12 _ _ (w.heap.size + 1) 40 _ (0, 0) _ rfl (row_set9 HP1.out) Tryz.underlying40 rfl (by kernel_rfl)) rfl ?_
   refine ⟨pa, pn, pc, us, rfl, own_base0 (own_set9 HOx.out (by omega)) (fun a h1 _ => by omega), ?_, ?_⟩
   ·have h1 := HKx.out
    rw [List.take_length] at h1
    refine refKs.keep (fun q hq _ => ⟨heap_set9 (by rcases hq with hq | ⟨hq, _⟩ <;> omega), ?_⟩) _ _ h1
    rcases hq with hq | ⟨hq, _⟩
    ·exact .inl hq
    ·exact .inr (by omega)
   ·exact below_set9 (HK2.out.base HBX.out (by omega) (by omega)) (by omega)
theorem treeOf_any (n0 : Nat) (n : Nat) : ∀ (t : Tr), SizeOf.sizeOf t ≤ n → countT t ≤ 1000000 → ∀ (w : World) (u : Value), n0 ≤ w.heap.size → treeAt (fun q => q < n0) w t u → Calls Tryz.prog 12 #[u] w (ofPost n0 t w) := by
 induction n with
 | zero => intro t ht; cases t; rw [Tr.mk.sizeOf_spec] at ht; omega
 | succ n ih =>
  intro t ht hcb w u hn0 hu
  obtain ⟨ka, kn, kc, ca, cn, cc, us, rfl, hcs, ho, hk⟩ := treeAt_open hu
  obtain ⟨rfl, _, _, hat⟩ := kids_at ho hk
  have hC := countT_eq t
  have hL := lenK_le t.kids
  have hkid : kidOf n0 w ka t.kids := fun i h => by
   obtain ⟨g, a, m, c, a2, n2, c2, e, _, hg1, h9, htr⟩ := hat i h
   have h1 := countK_drop t.kids i h
   have h2 := countK_le t.kids i
   exact ⟨g, a, m, c, a2, n2, c2, e, hg1, h9, fun W' hq hz => ih t.kids[i] (by have := size_kid i h; omega) (by omega) W' _ hz (treeAt.keep (fun q hS _ => ⟨hq q hS, hS⟩) _ _ htr)⟩
  refine (treeOf_step n0 t.kids t.kind t.hd.1 t.hd.2 t.bd.1 t.bd.2 t.e.1 t.e.2 ka ca kc cn cc w hn0 (by omega) hkid).mono ?_
  rintro e w' ⟨pa, pn, pc, us', rfl, h1, h2, h3⟩
  refine ⟨_, rfl, ?_, h3⟩
  cases t
  unfold refAt
  exact ⟨pa, pn, pc, ca, cn, cc, us', rfl, hcs.keep (fun q hq hqz => ⟨h3.block q hqz, .inl hq⟩), ⟨h1.1, fun a ha => .inr (h1.2 a ha)⟩, h2⟩
mutual
def bdT (n : Nat) : Tr → Prop
 | .mk k hd bd ks cs e => (hd.1 ≤ n ∧ hd.2 ≤ n ∧ bd.1 ≤ n ∧ bd.2 ≤ n ∧ e.1 ≤ n ∧ e.2 ≤ n ∧ cs.length ≤ n ∧ (∀ c ∈ cs, c.1 ≤ n ∧ c.2 ≤ n) ∧ (k ≠ 1 → e = (0, 0))) ∧ bdK n ks
def bdK (n : Nat) : List Tr → Prop
 | [] => True
 | t :: r => bdT n t ∧ bdK n r
end
theorem bdT_open {n : Nat} {t : Tr} (h : bdT n t) : (t.hd.1 ≤ n ∧ t.hd.2 ≤ n ∧ t.bd.1 ≤ n ∧ t.bd.2 ≤ n ∧ t.e.1 ≤ n ∧ t.e.2 ≤ n ∧ t.cuts.length ≤ n ∧ (∀ c ∈ t.cuts, c.1 ≤ n ∧ c.2 ≤ n) ∧ (t.kind ≠ 1 → t.e = (0, 0))) ∧ bdK n t.kids := by
 cases t
 unfold bdT at h
 exact h
theorem bdK_get {n : Nat} : ∀ {ts : List Tr}, bdK n ts → ∀ i, (h : i < ts.length) → bdT n ts[i]
 | [], _, i, h => by simp at h
 | t :: r, hg, i, h => by
  unfold bdK at hg
  cases i with
  | zero => exact hg.1
  | succ i =>
   have := bdK_get hg.2 i (by simpa using h)
   simpa using this
theorem chainC_in : ∀ {cs : List Sp} {a b : Nat} {e : Sp}, chainC a b cs e → (∀ c ∈ cs, c.1 ≤ b ∧ c.2 ≤ b) ∧ e.1 ≤ b ∧ e.2 ≤ b
 | [], a, b, e, h => ⟨(fun c hc => by cases hc), Nat.le_trans h.2.1 h.2.2, h.2.2⟩
 | c :: r, a, b, e, h => by
  obtain ⟨h1, h2, h3⟩ := h
  have ih := chainC_in h3
  have hle := chainC_le h3
  refine ⟨fun x hx => ?_, ih.2⟩
  rcases List.mem_cons.1 hx with rfl | hx
  ·omega
  ·exact ih.1 x hx
theorem kidsRun_bd {n : Nat} {F : Sp → Nat → Tr × Nat} : ∀ (ss : List Sp) (c : Nat), (∀ s ∈ ss, ∀ c', bdT n (F s c').1) → bdK n (kidsRun F ss c).1
 | [], _, _ => by unfold kidsRun bdK; trivial
 | s :: r, c, h => by
  have ih := kidsRun_bd r (F s c).2 fun s' hs' => h s' (List.mem_cons_of_mem _ hs')
  show bdK n ((F s c).1 :: (kidsRun F r (F s c).2).1)
  unfold bdK
  exact ⟨h s List.mem_cons_self c, ih⟩
theorem leaf_bd {n f h t : Nat} (h1 : f ≤ n) (h2 : h ≤ n) (h3 : t ≤ n) : bdT n (leafT f h t) := by
 unfold leafT bdT bdK
 exact ⟨⟨h1, h2, h2, h3, Nat.zero_le _, Nat.zero_le _, Nat.zero_le _, (fun c hc => by cases hc), fun _ => rfl⟩, trivial⟩
theorem entS_bd (l : List UInt8) : ∀ (d : Nat) (s : Sp) (g : Bool) (c : Nat), s.1 ≤ s.2 → s.2 ≤ l.length → bdT l.length (entS l d s g c).1
 | 0, s, g, c, h1, h2 => by
  have hh := hdOf_le l h1 h2
  exact leaf_bd (by omega) (by omega) h2
 | d + 1, s, g, c, h1, h2 => by
  have hh := hdOf_le l h1 h2
  by_cases hc : (pdS l (fsOf l s.1 s.2) (hdOf l s.1 s.2) s.2 (typeS l (fsOf l s.1 s.2) g)).kids = [] ∨ 1000 < c + (pdS l (fsOf l s.1 s.2) (hdOf l s.1 s.2) s.2 (typeS l (fsOf l s.1 s.2) g)).kids.length
  ·rw [entS_leaf hc]
   exact leaf_bd (by omega) (by omega) h2
  ·rw [entS_kids rfl rfl hc]
   have hin := pdS_in l (fsOf l s.1 s.2) hh.2 h2 (typeS l (fsOf l s.1 s.2) g)
   have hQ := kidsRun_bd (n := l.length) (F := fun s' c' => entS l d s' (digS (typeS l (fsOf l s.1 s.2) g)) c') (pdS l (fsOf l s.1 s.2) (hdOf l s.1 s.2) s.2 (typeS l (fsOf l s.1 s.2) g)).kids
    (c + (pdS l (fsOf l s.1 s.2) (hdOf l s.1 s.2) s.2 (typeS l (fsOf l s.1 s.2) g)).kids.length) (fun s' hs' c' => entS_bd l d s' _ c' (hin s' hs').1 (Nat.le_trans (hin s' hs').2 h2))
   have hcl := pdS_cuts l (fsOf l s.1 s.2) (h := hdOf l s.1 s.2) h2 (typeS l (fsOf l s.1 s.2) g)
   have hw : (∀ x ∈ (pdS l (fsOf l s.1 s.2) (hdOf l s.1 s.2) s.2 (typeS l (fsOf l s.1 s.2) g)).cuts, x.1 ≤ l.length ∧ x.2 ≤ l.length) ∧ (pdS l (fsOf l s.1 s.2) (hdOf l s.1 s.2) s.2 (typeS l (fsOf l s.1 s.2) g)).e.1 ≤ l.length ∧
     (pdS l (fsOf l s.1 s.2) (hdOf l s.1 s.2) s.2 (typeS l (fsOf l s.1 s.2) g)).e.2 ≤ l.length ∧ ((pdS l (fsOf l s.1 s.2) (hdOf l s.1 s.2) s.2 (typeS l (fsOf l s.1 s.2) g)).kind ≠ 1 → (pdS l (fsOf l s.1 s.2) (hdOf l s.1 s.2) s.2 (typeS l (fsOf l s.1 s.2) g)).e = (0, 0)) := by
    rcases pdS_ways l (fsOf l s.1 s.2) hh.2 h2 (typeS l (fsOf l s.1 s.2) g) with hp | ⟨cs, e, hch, hp⟩ | hp
    ·rw [hp]
     exact ⟨(fun x hx => by cases hx), Nat.zero_le _, Nat.zero_le _, fun _ => rfl⟩
    ·rw [hp]
     have hb := chainC_in hch
     refine ⟨fun x hx => ?_, Nat.le_trans hb.2.1 h2, Nat.le_trans hb.2.2 h2, fun hk => absurd rfl hk⟩
     have := hb.1 x hx
     omega
    ·rw [hp]
     exact ⟨(fun x hx => by cases hx), Nat.zero_le _, Nat.zero_le _, fun _ => rfl⟩
   unfold bdT
   exact ⟨⟨by show s.1 ≤ _; omega, by show hdOf l s.1 s.2 ≤ _; omega, by show hdOf l s.1 s.2 ≤ _; omega, h2, hw.2.1, hw.2.2.1, hcl, hw.1, hw.2.2.2⟩, hQ⟩
theorem tree_bd (l : List UInt8) : bdT l.length (treeS l) := entS_bd l 32 (0, l.length) false 1 (Nat.zero_le _) (Nat.le_refl _)
theorem span_neq0 (a b : Int) (w : World) : (binOp .neq 27 (.agg #[.int .i64 a, .int .i64 b]) (.agg #[.int .i64 a, .int .i64 b])).run Tryz.prog w = .ok (.bool false) w := by
 have h := span_eql w a b a b
 rw [run_eql_struct] at h
 rw [run_neq_struct]
 cases hr : (Op.equalIn 10000 27 (.agg #[.int .i64 a, .int .i64 b]) (.agg #[.int .i64 a, .int .i64 b])).run Tryz.prog w with
 | ok b' w' =>
  rw [hr] at h
  simp only [Result.andThen] at h ⊢
  simp at h
  obtain ⟨rfl, rfl⟩ := h
  rfl
 | halt x w' =>
  rw [hr] at h
  simp only [Result.andThen] at h
  cases h
def cutsIn (w : World) (ca : Option Addr) (cs : List Sp) : Prop := ∀ i, i < cs.length → ∃ g x y, ca = some ⟨g, 0, none⟩ ∧ cs[i]? = some (x, y) ∧ w.cell? ⟨g, i * 2, none⟩ = some (.int .i64 (x : Int)) ∧ w.cell? ⟨g, i * 2 + 1, none⟩ = some (.int .i64 (y : Int))
theorem cutsIn.below {w w' : World} {ca : Option Addr} {cs : List Sp} (h : cutsIn w ca cs) (hb : Below w.heap.size w w') : cutsIn w' ca cs := fun i hi => by
 obtain ⟨g, x, y, h1, h2, h3, h4⟩ := h i hi
 exact ⟨g, x, y, h1, h2, (hb.cell (p := ⟨g, i * 2, none⟩) (World.block_lt_of_cell? w _ h3)).trans h3, (hb.cell (p := ⟨g, i * 2 + 1, none⟩) (World.block_lt_of_cell? w _ h4)).trans h4⟩
set_option maxRecDepth 100000 in
set_option maxHeartbeats 4000000 in
theorem refSpans_any (cs : List Sp) (ca ca' : Option Addr) (cc cc' : Nat) (w : World) (hln : cs.length ≤ 1000000) (h1 : cutsIn w ca cs) (h2 : cutsIn w ca' cs) :
  Calls Tryz.prog 29 #[.slice ca cs.length cc, .slice ca' cs.length cc'] w fun e w' => e = .returned (.bool true) ∧ Below w.heap.size w w' := by
 have H1 := Lib.hid h1
 have H2 := Lib.hid h2
 have t0 : ((cs.length : Int) != (cs.length : Int)) = false := bne_no rfl
 clear h1 h2
 go_enter Tryz.func29, Tryz.ntmps29
 go_wp2_with fail
 go_loopg [5] cs.length (fun q x5 wr => ∃ i : Nat, i ≤ cs.length ∧ q = cs.length - i ∧ x5 = .int .i64 (i : Int) ∧ Hid (Below w.heap.size w wr))
 case atStart => exact ⟨0, Nat.zero_le _, rfl, rfl, Below.refl _ _⟩
 case round =>
  obtain ⟨k, hk, rfl, rfl, HB⟩ := hrel
  by_cases hlt : k < cs.length
  ·obtain ⟨g, x, y, rfl, hx, p0, p1⟩ := H1.out k hlt
   obtain ⟨g', x', y', rfl, hx', q0, q1⟩ := H2.out k hlt
   rw [hx] at hx'
   cases hx'
   have r0 := BW.cell ((HB.out.cell (p := ⟨g, k * 2, none⟩) (World.block_lt_of_cell? w _ p0)).trans p0)
   have r1 := BW.cell ((HB.out.cell (p := ⟨g, k * 2 + 1, none⟩) (World.block_lt_of_cell? w _ p1)).trans p1)
   have s0 := BW.cell ((HB.out.cell (p := ⟨g', k * 2, none⟩) (World.block_lt_of_cell? w _ q0)).trans q0)
   have s1 := BW.cell ((HB.out.cell (p := ⟨g', k * 2 + 1, none⟩) (World.block_lt_of_cell? w _ q1)).trans q1)
   have ks : ∀ z : BW wr, (binOp .neq 27 (.agg #[.int .i64 (x : Int), .int .i64 (y : Int)]) (.agg #[.int .i64 (x : Int), .int .i64 (y : Int)])).run Tryz.prog z.v = .ok (.bool false) z.v := fun z => span_neq0 _ _ _
   clear hx p0 p1 q0 q1
   go_wp2_with fail
   refine wp_region_below (by kernel_rfl) (by kernel_rfl) ?_
   repeat (go_big_quiet_step (fail))
   refine wpQuiet_nil ?_
   rintro _ ⟨z, rfl⟩
   have HZ := Lib.hid (HB.out.trans (z.h.mono HB.out.size))
   go_wp2_with fail
   go_roundg (cs.length - (k + 1))
   case measure => omega
   case rel => exact ⟨k + 1, by omega, rfl, by go_num, HZ⟩
  ·obtain rfl : k = cs.length := by omega
   go_wp2_with fail
   go_ret
   exact ⟨rfl, HB.out⟩
def kidSame (w : World) (ka ka' : Option Addr) (ts : List Tr) : Prop := ∀ i, (h : i < ts.length) → ∃ g a n c a2 n2 c2 g' a' n' c' a2' n2' c2', ka = some ⟨g, 0, none⟩ ∧ ka' = some ⟨g', 0, none⟩ ∧ g < w.heap.size ∧ g' < w.heap.size ∧
 nineAt w g i ts[i] (.slice a n c) (.slice a2 n2 c2) ∧ nineAt w g' i ts[i] (.slice a' n' c') (.slice a2' n2' c2') ∧
 ∀ W', Below w.heap.size w W' → Calls Tryz.prog 11 #[.agg #[.int .i64 (ts[i].kind : Int), .int .i64 (ts[i].hd.1 : Int), .int .i64 (ts[i].hd.2 : Int), .int .i64 (ts[i].bd.1 : Int), .int .i64 (ts[i].bd.2 : Int), .slice a n c, .slice a2 n2 c2, .int .i64 (ts[i].e.1 : Int), .int .i64 (ts[i].e.2 : Int)], .agg #[.int .i64 (ts[i].kind : Int), .int .i64 (ts[i].hd.1 : Int), .int .i64 (ts[i].hd.2 : Int), .int .i64 (ts[i].bd.1 : Int), .int .i64 (ts[i].bd.2 : Int), .slice a' n' c', .slice a2' n2' c2', .int .i64 (ts[i].e.1 : Int), .int .i64 (ts[i].e.2 : Int)]] W' fun e w' => e = .returned (.bool true) ∧ Below W'.heap.size W' w'
set_option maxRecDepth 100000 in
set_option maxHeartbeats 8000000 in
theorem same_step (ts : List Tr) (cs : List Sp) (kd h1 h2 b1 b2 e1 e2 : Nat) (ka ca ka' ca' : Option Addr) (kc cc kc' cc' : Nat) (w : World) (hln : ts.length ≤ 1000000) (hcn : cs.length ≤ 1000000) (hc1 : cutsIn w ca cs) (hc2 : cutsIn w ca' cs) (hat : kidSame w ka ka' ts) :
  Calls Tryz.prog 11 #[.agg #[.int .i64 (kd : Int), .int .i64 (h1 : Int), .int .i64 (h2 : Int), .int .i64 (b1 : Int), .int .i64 (b2 : Int), .slice ka ts.length kc, .slice ca cs.length cc, .int .i64 (e1 : Int), .int .i64 (e2 : Int)], .agg #[.int .i64 (kd : Int), .int .i64 (h1 : Int), .int .i64 (h2 : Int), .int .i64 (b1 : Int), .int .i64 (b2 : Int), .slice ka' ts.length kc', .slice ca' cs.length cc', .int .i64 (e1 : Int), .int .i64 (e2 : Int)]] w fun e w' => e = .returned (.bool true) ∧ Below w.heap.size w w' := by
 have HA := Lib.hid hat
 have HSp := Lib.hid (fun W hb => refSpans_any cs ca ca' cc cc' W hcn (hc1.below hb) (hc2.below hb))
 obtain ⟨X, hX⟩ : ∃ X, X = (w.alloc (rfO kd h1 h2 b1 b2 (.slice ka ts.length kc) (.slice ca cs.length cc) e1 e2)).alloc (rfO kd h1 h2 b1 b2 (.slice ka' ts.length kc') (.slice ca' cs.length cc') e1 e2) := ⟨_, rfl⟩
 have HzX : Hid (X.heap.size = w.heap.size + 2) := by unfold Hid; rw [hX]; simp
 have HBX : Hid (Below w.heap.size w X) := by unfold Hid; rw [hX]; exact ((Below.refl _ _).alloc (Nat.le_refl _) _).alloc (by simp) _
 have HX0 : Hid (X.heap[w.heap.size]? = some (rfO kd h1 h2 b1 b2 (.slice ka ts.length kc) (.slice ca cs.length cc) e1 e2)) := by unfold Hid; rw [hX]; exact heap_alloc2_old w _ _
 have HX1 : Hid (X.heap[w.heap.size + 1]? = some (rfO kd h1 h2 b1 b2 (.slice ka' ts.length kc') (.slice ca' cs.length cc') e1 e2)) := by unfold Hid; rw [hX]; exact heap_alloc2_new w _ _
 have t0 : ((kd : Int) != (kd : Int)) = false := bne_no rfl
 have t1 : ((ts.length : Int) != (ts.length : Int)) = false := bne_no rfl
 have k1 : ∀ W, (binOp .neq 27 (.agg #[.int .i64 (h1 : Int), .int .i64 (h2 : Int)]) (.agg #[.int .i64 (h1 : Int), .int .i64 (h2 : Int)])).run Tryz.prog W = .ok (.bool false) W := fun W => span_neq0 _ _ _
 have k2 : ∀ W, (binOp .neq 27 (.agg #[.int .i64 (b1 : Int), .int .i64 (b2 : Int)]) (.agg #[.int .i64 (b1 : Int), .int .i64 (b2 : Int)])).run Tryz.prog W = .ok (.bool false) W := fun W => span_neq0 _ _ _
 have k3 : ∀ W, (binOp .neq 27 (.agg #[.int .i64 (e1 : Int), .int .i64 (e2 : Int)]) (.agg #[.int .i64 (e1 : Int), .int .i64 (e2 : Int)])).run Tryz.prog W = .ok (.bool false) W := fun W => span_neq0 _ _ _
 unfold rfO at hX
 clear hat hc1 hc2
 go_enter Tryz.func11, Tryz.ntmps11
 go_upto_region 1 with fail
 rw [← hX]
 clear hX
 obtain ⟨x0, x1, x2, x3, x4, x5, x6, x7, x8⟩ := rf_cells HX0.out
 obtain ⟨y0, y1, y2, y3, y4, y5, y6, y7, y8⟩ := rf_cells HX1.out
 go_wp2_with fail
 with_reducible refine (HSp.out _ ?hh).mono ?_
 case hh => exact HBX.out
 rintro e w2 ⟨rfl, hb2⟩
 have hz := HzX.out
 have HB2 := Lib.hid (HBX.out.trans (hb2.mono HBX.out.size))
 have HZ2 : Hid (w.heap.size + 2 ≤ w2.heap.size) := by have := hb2.size; unfold Hid; omega
 have HX0' : Hid (w2.heap[w.heap.size]? = some (rfO kd h1 h2 b1 b2 (.slice ka ts.length kc) (.slice ca cs.length cc) e1 e2)) := (hb2.block _ (by omega)).trans HX0.out
 have HX1' : Hid (w2.heap[w.heap.size + 1]? = some (rfO kd h1 h2 b1 b2 (.slice ka' ts.length kc') (.slice ca' cs.length cc') e1 e2)) := (hb2.block _ (by omega)).trans HX1.out
 clear hb2 hz x0 x1 x2 x3 x4 x5 x6 x7 x8 y0 y1 y2 y3 y4 y5 y6 y7 y8
 obtain ⟨x0, x1, x2, x3, x4, x5, x6, x7, x8⟩ := rf_cells HX0'.out
 obtain ⟨y0, y1, y2, y3, y4, y5, y6, y7, y8⟩ := rf_cells HX1'.out
 go_wp2_with fail
 go_loopg [6] ts.length (fun q x6 wr => ∃ i : Nat, i ≤ ts.length ∧ q = ts.length - i ∧ x6 = .int .i64 (i : Int) ∧ Hid (Below w2.heap.size w2 wr))
 case atStart => exact ⟨0, Nat.zero_le _, rfl, rfl, Below.refl _ _⟩
 case round =>
  clear x0 x1 x2 x3 x4 x5 x6 x7 x8 y0 y1 y2 y3 y4 y5 y6 y7 y8 k1 k2 k3 t0 t1
  obtain ⟨k, hk, rfl, rfl, HB⟩ := hrel
  have hz2 := HZ2.out
  have hX0r := (HB.out.block w.heap.size (by omega)).trans HX0'.out
  have hX1r := (HB.out.block (w.heap.size + 1) (by omega)).trans HX1'.out
  have x5 := (rf_cells hX0r).2.2.2.2.2.1
  have y5 := (rf_cells hX1r).2.2.2.2.2.1
  by_cases hlt : k < ts.length
  ·obtain ⟨g, a, n, c, a2, n2, c2, g', a', n', c', a2', n2', c2', rfl, rfl, hg, hg', h9, h9', hcall⟩ := HA.out k hlt
   have HBw : Hid (Below w.heap.size w wr) := HB2.out.trans (HB.out.mono HB2.out.size)
   have HCl := Lib.hid hcall
   obtain ⟨pp0, pp1, pp2, pp3, pp4, pp5, pp6, pp7, pp8⟩ := nine_open (h9.block (HBw.out.block g hg))
   obtain ⟨rp0, rp1, rp2, rp3, rp4, rp5, rp6, rp7, rp8⟩ := nine_open (h9'.block (HBw.out.block g' hg'))
   obtain ⟨q, hq⟩ : ∃ q, q = ts[k] := ⟨_, rfl⟩
   rw [← hq] at pp0 pp1 pp2 pp3 pp4 pp7 pp8 rp0 rp1 rp2 rp3 rp4 rp7 rp8 HCl
   have p0 : ∀ z : BW wr, z.v.cell? ⟨g, k * 9, none⟩ = some (.int .i64 (q.kind : Int)) := BW.cell pp0
   have p1 : ∀ z : BW wr, z.v.cell? ⟨g, k * 9 + 1, none⟩ = some (.int .i64 (q.hd.1 : Int)) := BW.cell pp1
   have p2 : ∀ z : BW wr, z.v.cell? ⟨g, k * 9 + 2, none⟩ = some (.int .i64 (q.hd.2 : Int)) := BW.cell pp2
   have p3 : ∀ z : BW wr, z.v.cell? ⟨g, k * 9 + 3, none⟩ = some (.int .i64 (q.bd.1 : Int)) := BW.cell pp3
   have p4 : ∀ z : BW wr, z.v.cell? ⟨g, k * 9 + 4, none⟩ = some (.int .i64 (q.bd.2 : Int)) := BW.cell pp4
   have p5 : ∀ z : BW wr, z.v.cell? ⟨g, k * 9 + 5, none⟩ = some (.slice a n c) := BW.cell pp5
   have p6 : ∀ z : BW wr, z.v.cell? ⟨g, k * 9 + 6, none⟩ = some (.slice a2 n2 c2) := BW.cell pp6
   have p7 : ∀ z : BW wr, z.v.cell? ⟨g, k * 9 + 7, none⟩ = some (.int .i64 (q.e.1 : Int)) := BW.cell pp7
   have p8 : ∀ z : BW wr, z.v.cell? ⟨g, k * 9 + 8, none⟩ = some (.int .i64 (q.e.2 : Int)) := BW.cell pp8
   have r0 : ∀ z : BW wr, z.v.cell? ⟨g', k * 9, none⟩ = some (.int .i64 (q.kind : Int)) := BW.cell rp0
   have r1 : ∀ z : BW wr, z.v.cell? ⟨g', k * 9 + 1, none⟩ = some (.int .i64 (q.hd.1 : Int)) := BW.cell rp1
   have r2 : ∀ z : BW wr, z.v.cell? ⟨g', k * 9 + 2, none⟩ = some (.int .i64 (q.hd.2 : Int)) := BW.cell rp2
   have r3 : ∀ z : BW wr, z.v.cell? ⟨g', k * 9 + 3, none⟩ = some (.int .i64 (q.bd.1 : Int)) := BW.cell rp3
   have r4 : ∀ z : BW wr, z.v.cell? ⟨g', k * 9 + 4, none⟩ = some (.int .i64 (q.bd.2 : Int)) := BW.cell rp4
   have r5 : ∀ z : BW wr, z.v.cell? ⟨g', k * 9 + 5, none⟩ = some (.slice a' n' c') := BW.cell rp5
   have r6 : ∀ z : BW wr, z.v.cell? ⟨g', k * 9 + 6, none⟩ = some (.slice a2' n2' c2') := BW.cell rp6
   have r7 : ∀ z : BW wr, z.v.cell? ⟨g', k * 9 + 7, none⟩ = some (.int .i64 (q.e.1 : Int)) := BW.cell rp7
   have r8 : ∀ z : BW wr, z.v.cell? ⟨g', k * 9 + 8, none⟩ = some (.int .i64 (q.e.2 : Int)) := BW.cell rp8
   have z5 : ∀ z : BW wr, z.v.cell? ⟨w.heap.size, 5, none⟩ = some (.slice (some ⟨g, 0, none⟩) ts.length kc) := BW.cell x5
   have z6 : ∀ z : BW wr, z.v.cell? ⟨w.heap.size + 1, 5, none⟩ = some (.slice (some ⟨g', 0, none⟩) ts.length kc') := BW.cell y5
   clear pp0 pp1 pp2 pp3 pp4 pp5 pp6 pp7 pp8 rp0 rp1 rp2 rp3 rp4 rp5 rp6 rp7 rp8 hq h9 h9' hcall hX0r hX1r
   go_wp2_with fail
   clear x5 y5
   refine wp_region_below (by kernel_rfl) (by kernel_rfl) ?_
   repeat (go_big_quiet_step ((go_at_call 11; exact BW.calls (HCl.out _ (HBw.out.trans ((BW.h _).mono HBw.out.size))))))
   refine wpQuiet_nil ?_
   rintro _ ⟨z, rfl⟩
   have HZ := Lib.hid (HB.out.trans (z.h.mono HB.out.size))
   go_wp2_with fail
   go_roundg (ts.length - (k + 1))
   case measure => omega
   case rel => exact ⟨k + 1, by omega, rfl, by go_num, HZ⟩
  ·obtain rfl : k = ts.length := by omega
   clear hX0r hX1r
   go_wp2_with fail
   go_ret
   exact ⟨rfl, HB2.out.trans (HB.out.mono HB2.out.size)⟩
theorem refspans_at {S : Nat → Prop} {w : World} {ca : Option Addr} {cn cc : Nat} {cs : List Sp} (h : ownS S w 27 2 (.slice ca cn cc) cs.length (spCells cs)) : cn = cs.length ∧ cutsIn w ca cs := by
 obtain ⟨ao, cap, e, h1, h2, h3⟩ := (rowSp_owned h.1).at
 obtain ⟨rfl, rfl, rfl⟩ := Value.slice.inj e
 refine ⟨rfl, fun i hi => ?_⟩
 obtain ⟨g, e, hg, c0, c1⟩ := h3 i hi
 exact ⟨g, cs[i].1, cs[i].2, e, by rw [List.getElem?_eq_getElem hi], c0, c1⟩
theorem sameTree_any (S1 S2 : Nat → Prop) (N : Nat) (hN : N ≤ 1000000) (n : Nat) : ∀ (t : Tr), SizeOf.sizeOf t ≤ n → countT t ≤ 1000000 → bdT N t → ∀ (w : World) (u1 u2 : Value), refAt S1 w t u1 → refAt S2 w t u2 →
  Calls Tryz.prog 11 #[u1, u2] w fun e w' => e = .returned (.bool true) ∧ Below w.heap.size w w' := by
 induction n with
 | zero => intro t ht; cases t; rw [Tr.mk.sizeOf_spec] at ht; omega
 | succ n ih =>
  intro t ht hcb hbd w u1 u2 hu1 hu2
  obtain ⟨hb1, hb2⟩ := bdT_open hbd
  obtain ⟨ka, kn, kc, ca, cn, cc, us, rfl, hcs, ho, hk⟩ := refAt_open hu1
  obtain ⟨ka', kn', kc', ca', cn', cc', us', rfl, hcs', ho', hk'⟩ := refAt_open hu2
  obtain ⟨rfl, _, _, hat⟩ := refkids_at ho hk
  obtain ⟨rfl, _, _, hat'⟩ := refkids_at ho' hk'
  obtain ⟨rfl, hc1⟩ := refspans_at hcs
  obtain ⟨rfl, hc2⟩ := refspans_at hcs'
  have hC := countT_eq t
  have hL := lenK_le t.kids
  refine same_step t.kids t.cuts t.kind t.hd.1 t.hd.2 t.bd.1 t.bd.2 t.e.1 t.e.2 ka ca ka' ca' kc cc kc' cc' w (by omega) (by omega) hc1 hc2 fun i h => ?_
  obtain ⟨g, a, m, c, a2, n2, c2, e, hg1, _, h9, htr⟩ := hat i h
  obtain ⟨g', a', m', c', a2', n2', c2', e', hg1', _, h9', htr'⟩ := hat' i h
  have q1 := countK_drop t.kids i h
  have q2 := countK_le t.kids i
  exact ⟨g, a, m, c, a2, n2, c2, g', a', m', c', a2', n2', c2', e, e', hg1, hg1', h9, h9', fun W' hb => ih t.kids[i] (by have := size_kid i h; omega) (by omega) (bdK_get hb2 i h) W' _ _ (refAt_below htr hb) (refAt_below htr' hb)⟩
end Go.Proofs.YtedminjnnhlknaaGreatDoor
