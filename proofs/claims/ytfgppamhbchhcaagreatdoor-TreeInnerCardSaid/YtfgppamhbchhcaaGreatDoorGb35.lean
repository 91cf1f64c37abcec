/- A tree of the law's own parts in memory. -/
import Derived.Test.YtfgppamhbchhcaaGreatDoorGb32
namespace Go.Proofs.YtfgppamhbchhcaaGreatDoor
open Go Go.RowKit

mutual
def refAt (S : Nat → Prop) (W : World) : Tr → Value → Prop
  | .mk k hd bd ks cs e, u => ∃ ka kn kc ca cn cc us, u = partV k hd bd (.slice ka kn kc) (.slice ca cn cc) e ∧ ownS S W 26 2 (.slice ca cn cc) cs.length (spCells cs) ∧
      ownS S W 39 9 (.slice ka kn kc) us.length (us.flatMap partCells) ∧ refKs S W ks us
def refKs (S : Nat → Prop) (W : World) : List Tr → List Value → Prop
  | [], us => us = []
  | t :: r, us => ∃ u us', us = u :: us' ∧ refAt S W t u ∧ refKs S W r us'
end
mutual
theorem refAt.keep {S S' : Nat → Prop} {W W' : World} (hk : ∀ k, S k → k < W.heap.size → W'.heap[k]? = W.heap[k]? ∧ S' k) : ∀ (t : Tr) (u : Value), refAt S W t u → refAt S' W' t u
  | .mk k hd bd ks cs e, u, h => by
    unfold refAt at h ⊢
    obtain ⟨ka, kn, kc, ca, cn, cc, us, h1, h2, h3, h4⟩ := h
    exact ⟨ka, kn, kc, ca, cn, cc, us, h1, h2.keep hk, h3.keep hk, refKs.keep hk ks us h4⟩
theorem refKs.keep {S S' : Nat → Prop} {W W' : World} (hk : ∀ k, S k → k < W.heap.size → W'.heap[k]? = W.heap[k]? ∧ S' k) : ∀ (ts : List Tr) (us : List Value), refKs S W ts us → refKs S' W' ts us
  | [], us, h => by
    unfold refKs at h ⊢
    exact h
  | t :: r, us, h => by
    unfold refKs at h ⊢
    obtain ⟨u, us', h1, h2, h3⟩ := h
    exact ⟨u, us', h1, refAt.keep hk t u h2, refKs.keep hk r us' h3⟩
end
theorem refKs_nil (S : Nat → Prop) (W : World) : refKs S W [] [] := by unfold refKs; rfl
theorem refKs_snoc {S : Nat → Prop} {W : World} : ∀ {ts : List Tr} {us : List Value} {t : Tr} {u : Value}, refKs S W ts us → refAt S W t u → refKs S W (ts ++ [t]) (us ++ [u])
  | [], us, t, u, h, ht => by
    unfold refKs at h
    subst h
    show refKs S W [t] [u]
    unfold refKs
    exact ⟨u, [], rfl, ht, refKs_nil _ _⟩
  | x :: r, us, t, u, h, ht => by
    unfold refKs at h
    obtain ⟨v, us', rfl, h2, h3⟩ := h
    show refKs S W (x :: (r ++ [t])) (v :: (us' ++ [u]))
    unfold refKs
    exact ⟨v, us' ++ [u], rfl, h2, refKs_snoc h3 ht⟩
theorem refKs_len {S : Nat → Prop} {W : World} : ∀ {ts : List Tr} {us : List Value}, refKs S W ts us → us.length = ts.length
  | [], us, h => by
    unfold refKs at h
    subst h
    rfl
  | t :: r, us, h => by
    unfold refKs at h
    obtain ⟨u, us', rfl, _, h3⟩ := h
    simp [refKs_len h3]
theorem refAt_part {S : Nat → Prop} {W : World} {t : Tr} {u : Value} (h : refAt S W t u) : ∃ ka kn kc ca cn cc, u = partV t.kind t.hd t.bd (.slice ka kn kc) (.slice ca cn cc) t.e := by
  cases t
  unfold refAt at h
  obtain ⟨ka, kn, kc, ca, cn, cc, us, h1, _⟩ := h
  exact ⟨ka, kn, kc, ca, cn, cc, h1⟩
theorem refAt_agg {S : Nat → Prop} {W : World} {t : Tr} {u : Value} (h : refAt S W t u) : ∃ ka kn kc ca cn cc, u = .agg #[.int .i64 (t.kind : Int), .int .i64 (t.hd.1 : Int), .int .i64 (t.hd.2 : Int), .int .i64 (t.bd.1 : Int), .int .i64 (t.bd.2 : Int), .slice ka kn kc, .slice ca cn cc, .int .i64 (t.e.1 : Int), .int .i64 (t.e.2 : Int)] := by
  obtain ⟨ka, kn, kc, ca, cn, cc, h⟩ := refAt_part h
  exact ⟨ka, kn, kc, ca, cn, cc, h⟩
theorem refKs_get {S : Nat → Prop} {W : World} : ∀ {ts : List Tr} {us : List Value} (_ : refKs S W ts us) (i : Nat) (h : i < ts.length), ∃ u, us[i]? = some u ∧ refAt S W ts[i] u
  | [], _, _, i, h => by simp at h
  | t :: r, us, hk, i, h => by
    unfold refKs at hk
    obtain ⟨u, us', rfl, h2, h3⟩ := hk
    cases i with
    | zero => exact ⟨u, rfl, h2⟩
    | succ i => exact refKs_get h3 i (by simpa using h)
theorem refKs_nine {S : Nat → Prop} {W : World} : ∀ {ts : List Tr} {us : List Value} (_ : refKs S W ts us), ∀ u ∈ us, (partCells u).length = 9
  | [], us, hk => by
    unfold refKs at hk
    subst hk
    intro u hu
    cases hu
  | t :: r, us, hk => by
    unfold refKs at hk
    obtain ⟨u, us', rfl, h2, h3⟩ := hk
    intro x hx
    rcases List.mem_cons.1 hx with rfl | hx
    · obtain ⟨_, _, _, _, _, _, rfl⟩ := refAt_agg h2
      rfl
    · exact refKs_nine h3 x hx
/-- A row of kids, as it is read. -/
theorem refkids_at {S : Nat → Prop} {W : World} {ts : List Tr} {us : List Value} {ka : Option Addr} {kn kc : Nat} (ho : ownS S W 39 9 (.slice ka kn kc) us.length (us.flatMap partCells)) (hk : refKs S W ts us) :
    kn = ts.length ∧ kn ≤ kc ∧ kc ≤ maxLen ∧ ∀ i, (h : i < ts.length) → ∃ g a n c a2 n2 c2, ka = some ⟨g, 0, none⟩ ∧ g < W.heap.size ∧ S g ∧ nineAt W g i ts[i] (.slice a n c) (.slice a2 n2 c2) ∧
      refAt S W ts[i] (.agg #[.int .i64 (ts[i].kind : Int), .int .i64 (ts[i].hd.1 : Int), .int .i64 (ts[i].hd.2 : Int), .int .i64 (ts[i].bd.1 : Int), .int .i64 (ts[i].bd.2 : Int), .slice a n c, .slice a2 n2 c2, .int .i64 (ts[i].e.1 : Int), .int .i64 (ts[i].e.2 : Int)]) := by
  have hlen := refKs_len hk
  obtain ⟨ho, hS⟩ := ho
  rcases ho.2 with ⟨e, h0⟩ | ⟨g, cap, cur, e, _, hh, hc, hm, hs, ht⟩
  · obtain ⟨rfl, rfl, rfl⟩ := Value.slice.inj e
    refine ⟨by omega, Nat.le_refl _, Nat.zero_le _, fun i hi => by omega⟩
  · obtain ⟨rfl, rfl, rfl⟩ := Value.slice.inj e
    refine ⟨hlen, hc, hm, fun i hi => ?_⟩
    obtain ⟨u, hu, htr⟩ := refKs_get hk i hi
    obtain ⟨a, n, c, a2, n2, c2, rfl⟩ := refAt_agg htr
    refine ⟨g, a, n, c, a2, n2, c2, rfl, (Array.getElem?_eq_some_iff.1 hh).1, hS g rfl, ?_, htr⟩
    have hcell : ∀ j, j < 9 → W.cell? ⟨g, i * 9 + j, none⟩ = (us.flatMap partCells)[i * 9 + j]? := fun j hj => by
      rw [← ht, List.getElem?_take, if_pos (by omega)]
      simp only [World.cell?, hh]
      simp
    have hf := fun j hj => (hcell j hj).trans (flat9 us (refKs_nine hk) i j _ hu hj)
    exact ⟨hf 0 (by decide), hf 1 (by decide), hf 2 (by decide), hf 3 (by decide), hf 4 (by decide), hf 5 (by decide), hf 6 (by decide), hf 7 (by decide), hf 8 (by decide)⟩
theorem refAt_open {S : Nat → Prop} {W : World} {t : Tr} {u : Value} (h : refAt S W t u) : ∃ ka kn kc ca cn cc us, u = .agg #[.int .i64 (t.kind : Int), .int .i64 (t.hd.1 : Int), .int .i64 (t.hd.2 : Int), .int .i64 (t.bd.1 : Int), .int .i64 (t.bd.2 : Int), .slice ka kn kc, .slice ca cn cc, .int .i64 (t.e.1 : Int), .int .i64 (t.e.2 : Int)] ∧
    ownS S W 26 2 (.slice ca cn cc) t.cuts.length (spCells t.cuts) ∧ ownS S W 39 9 (.slice ka kn kc) us.length (us.flatMap partCells) ∧ refKs S W t.kids us := by
  cases t
  unfold refAt at h
  obtain ⟨ka, kn, kc, ca, cn, cc, us, h1, h2, h3, h4⟩ := h
  exact ⟨ka, kn, kc, ca, cn, cc, us, h1, h2, h3, h4⟩
theorem Tryz.infoRp : (Tryz.prog.info? 39).map (fun i => (i.zero, i.size, i.bytes)) = some (some (.agg #[.int .i64 0, .int .i64 0, .int .i64 0, .int .i64 0, .int .i64 0, .slice none 0 0, .slice none 0 0, .int .i64 0, .int .i64 0]), 9, 104) := by kernel_rfl
theorem refAt_below {S : Nat → Prop} {w w' : World} {t : Tr} {u : Value} (h : refAt S w t u) (hb : Below w.heap.size w w') : refAt S w' t u := refAt.keep (fun q hS hq => ⟨hb.block q hq, hS⟩) _ _ h
/-- A part of the law's own, in its block. -/
def rfO (kind hf ht bf bt : Int) (ks cs : Value) (e1 e2 : Int) : Obj :=
  .cells #[.int .i64 kind, .int .i64 hf, .int .i64 ht, .int .i64 bf, .int .i64 bt, ks, cs, .int .i64 e1, .int .i64 e2] 39
end Go.Proofs.YtfgppamhbchhcaaGreatDoor

/- The law's own treeOf. -/
namespace Go.Proofs.YtfgppamhbchhcaaGreatDoor
open Go Go.RowKit

def ofPost (n0 : Nat) (t : Tr) (w : World) (e : Ending) (w' : World) : Prop := ∃ u, e = .returned u ∧ refAt (fun q => q < n0 ∨ w.heap.size ≤ q) w' t u ∧ Below w.heap.size w w'
def kidOf (n0 : Nat) (w : World) (ka : Option Addr) (ts : List Tr) : Prop := ∀ i, (h : i < ts.length) → ∃ g a n c a2 n2 c2, ka = some ⟨g, 0, none⟩ ∧ g < n0 ∧ nineAt w g i ts[i] (.slice a n c) (.slice a2 n2 c2) ∧
  ∀ W', (∀ q, q < n0 → W'.heap[q]? = w.heap[q]?) → n0 ≤ W'.heap.size → Calls Tryz.prog 13 #[.agg #[.int .i64 (ts[i].kind : Int), .int .i64 (ts[i].hd.1 : Int), .int .i64 (ts[i].hd.2 : Int), .int .i64 (ts[i].bd.1 : Int), .int .i64 (ts[i].bd.2 : Int), .slice a n c, .slice a2 n2 c2, .int .i64 (ts[i].e.1 : Int), .int .i64 (ts[i].e.2 : Int)]] W'
    (ofPost n0 ts[i] W')
theorem rf_cells {W : World} {B : Nat} {k a b c d e f : Int} {ks cs : Value} (h : W.heap[B]? = some (rfO k a b c d ks cs e f)) :
    W.cell? ⟨B, 0, none⟩ = some (.int .i64 k) ∧ W.cell? ⟨B, 1, none⟩ = some (.int .i64 a) ∧ W.cell? ⟨B, 2, none⟩ = some (.int .i64 b) ∧ W.cell? ⟨B, 3, none⟩ = some (.int .i64 c) ∧ W.cell? ⟨B, 4, none⟩ = some (.int .i64 d) ∧
    W.cell? ⟨B, 5, none⟩ = some ks ∧ W.cell? ⟨B, 6, none⟩ = some cs ∧ W.cell? ⟨B, 7, none⟩ = some (.int .i64 e) ∧ W.cell? ⟨B, 8, none⟩ = some (.int .i64 f) := by
  unfold rfO at h
  simp [World.cell?, h]
theorem rf_frozen {W : World} {B : Nat} {k a b c d e f : Int} {ks cs : Value} (h : W.heap[B]? = some (rfO k a b c d ks cs e f)) (i : Nat) : W.frozen? ⟨B, i, none⟩ = false := by
  unfold rfO at h
  simp [World.frozen?, h]
theorem nine_open {W : World} {g i : Nat} {t : Tr} {ks cs : Value} (h : nineAt W g i t ks cs) : W.cell? ⟨g, i * 9, none⟩ = some (.int .i64 (t.kind : Int)) ∧ W.cell? ⟨g, i * 9 + 1, none⟩ = some (.int .i64 (t.hd.1 : Int)) ∧ W.cell? ⟨g, i * 9 + 2, none⟩ = some (.int .i64 (t.hd.2 : Int)) ∧
  W.cell? ⟨g, i * 9 + 3, none⟩ = some (.int .i64 (t.bd.1 : Int)) ∧ W.cell? ⟨g, i * 9 + 4, none⟩ = some (.int .i64 (t.bd.2 : Int)) ∧ W.cell? ⟨g, i * 9 + 5, none⟩ = some ks ∧ W.cell? ⟨g, i * 9 + 6, none⟩ = some cs ∧
  W.cell? ⟨g, i * 9 + 7, none⟩ = some (.int .i64 (t.e.1 : Int)) ∧ W.cell? ⟨g, i * 9 + 8, none⟩ = some (.int .i64 (t.e.2 : Int)) := h
set_option maxRecDepth 100000 in
set_option maxHeartbeats 8000000 in
theorem treeOf_step (n0 : Nat) (ts : List Tr) (kd h1 h2 b1 b2 e1 e2 : Nat) (ka ca : Option Addr) (kc cn cc : Nat) (w : World) (hn0 : n0 ≤ w.heap.size) (hln : ts.length ≤ 1000000) (hat : kidOf n0 w ka ts) :
    Calls Tryz.prog 13 #[.agg #[.int .i64 (kd : Int), .int .i64 (h1 : Int), .int .i64 (h2 : Int), .int .i64 (b1 : Int), .int .i64 (b2 : Int), .slice ka ts.length kc, .slice ca cn cc, .int .i64 (e1 : Int), .int .i64 (e2 : Int)]] w
      fun e w' => ∃ pa pn pc us, e = .returned (.agg #[.int .i64 (kd : Int), .int .i64 (h1 : Int), .int .i64 (h2 : Int), .int .i64 (b1 : Int), .int .i64 (b2 : Int), .slice pa pn pc, .slice ca cn cc, .int .i64 (e1 : Int), .int .i64 (e2 : Int)]) ∧
        ownS (fun q => w.heap.size ≤ q) w' 39 9 (.slice pa pn pc) us.length (us.flatMap partCells) ∧ refKs (fun q => q < n0 ∨ w.heap.size ≤ q) w' ts us ∧ Below w.heap.size w w' := by
  have HA := Lib.hid hat
  obtain ⟨i0, hi0, hz0, hz1, hz2⟩ := info_parts Tryz.infoRp
  have HI0 := Lib.hid hi0
  have HZ0 := Lib.hid hz0
  have HZ1 := Lib.hid hz1
  have HZ2 := Lib.hid hz2
  obtain ⟨X, hX⟩ : ∃ X, X = ((w.alloc (partO kd h1 h2 b1 b2 (.slice ka ts.length kc) (.slice ca cn cc) e1 e2)).alloc (rfO 0 0 0 0 0 (.slice none 0 0) (.slice none 0 0) 0 0)).alloc (rfO kd h1 h2 b1 b2 (.slice none 0 0) (.slice ca cn cc) e1 e2) := ⟨_, rfl⟩
  have HzX : Hid (X.heap.size = w.heap.size + 3) := by unfold Hid; rw [hX]; simp
  have HBX : Hid (Below w.heap.size w X) := by unfold Hid; rw [hX]; exact (((Below.refl _ _).alloc (Nat.le_refl _) _).alloc (by simp) _).alloc (by simp; omega) _
  have HX0 : Hid (X.heap[w.heap.size]? = some (partO kd h1 h2 b1 b2 (.slice ka ts.length kc) (.slice ca cn cc) e1 e2)) := by
    unfold Hid
    rw [hX]
    exact (Below.heap_alloc _ _ _ (by simp; omega)).trans (heap_alloc2_old w _ _)
  have HX1 : Hid (X.heap[w.heap.size + 1]? = some (rfO 0 0 0 0 0 (.slice none 0 0) (.slice none 0 0) 0 0)) := by
    unfold Hid
    rw [hX]
    exact (Below.heap_alloc _ _ _ (by simp)).trans (heap_alloc2_new w _ _)
  have HX2 : Hid (X.heap[w.heap.size + 1 + 1]? = some (rfO kd h1 h2 b1 b2 (.slice none 0 0) (.slice ca cn cc) e1 e2)) := by
    unfold Hid
    rw [hX]
    have := heap_alloc_new ((w.alloc (partO kd h1 h2 b1 b2 (.slice ka ts.length kc) (.slice ca cn cc) e1 e2)).alloc (rfO 0 0 0 0 0 (.slice none 0 0) (.slice none 0 0) 0 0)) (rfO kd h1 h2 b1 b2 (.slice none 0 0) (.slice ca cn cc) e1 e2)
    simp only [World.size_alloc] at this
    exact this
  unfold partO rfO at hX
  clear hat hi0 hz0 hz1 hz2
  go_enter Tryz.func13, Tryz.ntmps13
  go_upto_region 2 with fail
  rw [← hX]
  clear hX
  go_wp2_with fail
  go_loopg [4] ts.length (fun q x4 wr => ∃ (k : Nat) (us : List Value) (pa : Option Addr) (pn pc : Nat), k ≤ ts.length ∧ q = ts.length - k ∧ x4 = .int .i64 (k : Int) ∧ Hid (us.length = k) ∧ Hid (wr.heap[w.heap.size + 1 + 1]? = some (rfO kd h1 h2 b1 b2 (.slice pa pn pc) (.slice ca cn cc) e1 e2)) ∧
    Hid (wr.ownsRow X.heap.size 39 9 (.slice pa pn pc) us.length (us.flatMap partCells)) ∧ Hid (refKs (fun q => q < n0 ∨ (X.heap.size ≤ q ∧ ¬ (Value.slice pa pn pc).ownBlock = some q)) wr (ts.take k) us) ∧ Hid (K2 (w.heap.size + 1 + 1) (w.heap.size + 1 + 1) X wr))
  case atStart => exact ⟨0, [], none, 0, 0, Nat.zero_le _, rfl, rfl, rfl, HX2.out, World.ownsRow_nil _ _ _ _, refKs_nil _ _, K2.refl _ _ _⟩
  case round =>
    obtain ⟨k, us, pa, pn, pc, hk, rfl, rfl, HUl, HP2, HOx, HKx, HK2⟩ := hrel
    have hzX := HzX.out
    have hzr := HK2.out.size
    have hP0 : wr.heap[w.heap.size]? = some (partO kd h1 h2 b1 b2 (.slice ka ts.length kc) (.slice ca cn cc) e1 e2) := (HK2.out.block w.heap.size (by omega) (by omega) (by omega)).trans HX0.out
    have HP0 := Lib.hid hP0
    by_cases hlt : k < ts.length
    · obtain ⟨g, ga, gn, gc, ga2, gn2, gc2, rfl, hg, h9, hcall⟩ := HA.out k hlt
      have c5 := (part_cells hP0).2.2.2.2.2.1
      have HC5 := Lib.hid c5
      have hbg : ∀ q, q < n0 → wr.heap[q]? = w.heap[q]? := fun q hq => (HK2.out.block q (by omega) (by omega) (by omega)).trans (HBX.out.block q (by omega))
      have HBG := Lib.hid hbg
      have HN9 := Lib.hid (nine_open (h9.block (hbg g hg)))
      obtain ⟨q, hq⟩ : ∃ q, q = ts[k] := ⟨_, rfl⟩
      have HTk : Hid (ts.take (k + 1) = ts.take k ++ [q]) := by unfold Hid; rw [hq]; exact List.take_succ_eq_append_getElem hlt
      rw [← hq] at HN9 hcall
      have HCl := Lib.hid hcall
      clear hP0 hbg hcall h9 hq
      have HEn : Hid (∀ W, K2 (w.heap.size + 1 + 1) (w.heap.size + 1 + 1) wr W → Calls Tryz.prog 13 #[.agg #[.int .i64 (q.kind : Int), .int .i64 (q.hd.1 : Int), .int .i64 (q.hd.2 : Int), .int .i64 (q.bd.1 : Int), .int .i64 (q.bd.2 : Int), .slice ga gn gc, .slice ga2 gn2 gc2, .int .i64 (q.e.1 : Int), .int .i64 (q.e.2 : Int)]] W (ofPost n0 q W)) := fun W hkW => HCl.out W (fun q hq => (hkW.block q (by omega) (by omega) (by omega)).trans (HBG.out q hq)) (by have := hkW.size; omega)
      unfold ofPost at HEn
      have hk0 : K2 (w.heap.size + 1 + 1) (w.heap.size + 1 + 1) wr wr.drew := (K2.refl _ _ _).below (Below.refl _ _).drew
      have HPa : Hid (∀ W, Below wr.heap.size wr W → W.heap[w.heap.size + 1 + 1]? = some (rfO kd h1 h2 b1 b2 (.slice pa pn pc) (.slice ca cn cc) e1 e2)) := fun W hb => (hb.block (w.heap.size + 1 + 1) (by omega)).trans HP2.out
      have HOb : Hid (∀ q, (Value.slice pa pn pc).ownBlock = some q → X.heap.size ≤ q ∧ q < wr.heap.size) := HOx.out.lt
      have HOk : Hid (∀ W, K2 (w.heap.size + 1 + 1) (w.heap.size + 1 + 1) wr W → W.ownsRow X.heap.size 39 9 (.slice pa pn pc) us.length (us.flatMap partCells)) := fun W hk => own_k2 HOx.out hk (by omega) (by omega)
      have HSp : Hid (∀ W, W.cell? ⟨w.heap.size + 1 + 1, 5, none⟩ = some (.slice pa pn pc) → K2 (w.heap.size + 1 + 1) (w.heap.size + 1 + 1) wr W → (W.cell? ⟨w.heap.size + 1 + 1, 5, none⟩ = some (.slice pa pn pc) ∧ W.cell? ⟨w.heap.size, 5, none⟩ = some (.slice (some ⟨g, 0, none⟩) ts.length kc) ∧ W.cell? ⟨g, k * 9, none⟩ = some (.int .i64 (q.kind : Int)) ∧ W.cell? ⟨g, k * 9 + 1, none⟩ = some (.int .i64 (q.hd.1 : Int)) ∧ W.cell? ⟨g, k * 9 + 2, none⟩ = some (.int .i64 (q.hd.2 : Int)) ∧ W.cell? ⟨g, k * 9 + 3, none⟩ = some (.int .i64 (q.bd.1 : Int)) ∧ W.cell? ⟨g, k * 9 + 4, none⟩ = some (.int .i64 (q.bd.2 : Int)) ∧ W.cell? ⟨g, k * 9 + 5, none⟩ = some (.slice ga gn gc) ∧ W.cell? ⟨g, k * 9 + 6, none⟩ = some (.slice ga2 gn2 gc2) ∧ W.cell? ⟨g, k * 9 + 7, none⟩ = some (.int .i64 (q.e.1 : Int)) ∧ W.cell? ⟨g, k * 9 + 8, none⟩ = some (.int .i64 (q.e.2 : Int)))) := fun W h5 hk => by
        have o1 := World.cell?_of_block (a := ⟨w.heap.size, 5, none⟩) (hk.block w.heap.size (by omega) (by omega) (by omega))
        have o2 := hk.block g (by omega) (by omega) (by omega)
        obtain ⟨p0, p1, p2, p3, p4, p5, p6, p7, p8⟩ := HN9.out
        refine ⟨h5, o1.trans HC5.out, ?_⟩
        exact ⟨(World.cell?_of_block (a := ⟨g, k * 9, none⟩) o2).trans p0, (World.cell?_of_block (a := ⟨g, k * 9 + 1, none⟩) o2).trans p1, (World.cell?_of_block (a := ⟨g, k * 9 + 2, none⟩) o2).trans p2, (World.cell?_of_block (a := ⟨g, k * 9 + 3, none⟩) o2).trans p3, (World.cell?_of_block (a := ⟨g, k * 9 + 4, none⟩) o2).trans p4,
          (World.cell?_of_block (a := ⟨g, k * 9 + 5, none⟩) o2).trans p5, (World.cell?_of_block (a := ⟨g, k * 9 + 6, none⟩) o2).trans p6, (World.cell?_of_block (a := ⟨g, k * 9 + 7, none⟩) o2).trans p7, (World.cell?_of_block (a := ⟨g, k * 9 + 8, none⟩) o2).trans p8⟩
      have HKq : Hid (∀ W W', K2 (w.heap.size + 1 + 1) (w.heap.size + 1 + 1) wr W → W.grownBy W' (Value.slice pa pn pc).ownBlock → W'.cell? ⟨w.heap.size + 1 + 1, 5, none⟩ = some (.slice pa pn pc) → (W'.cell? ⟨w.heap.size + 1 + 1, 5, none⟩ = some (.slice pa pn pc) ∧ W'.cell? ⟨w.heap.size, 5, none⟩ = some (.slice (some ⟨g, 0, none⟩) ts.length kc) ∧ W'.cell? ⟨g, k * 9, none⟩ = some (.int .i64 (q.kind : Int)) ∧ W'.cell? ⟨g, k * 9 + 1, none⟩ = some (.int .i64 (q.hd.1 : Int)) ∧ W'.cell? ⟨g, k * 9 + 2, none⟩ = some (.int .i64 (q.hd.2 : Int)) ∧ W'.cell? ⟨g, k * 9 + 3, none⟩ = some (.int .i64 (q.bd.1 : Int)) ∧ W'.cell? ⟨g, k * 9 + 4, none⟩ = some (.int .i64 (q.bd.2 : Int)) ∧ W'.cell? ⟨g, k * 9 + 5, none⟩ = some (.slice ga gn gc) ∧ W'.cell? ⟨g, k * 9 + 6, none⟩ = some (.slice ga2 gn2 gc2) ∧ W'.cell? ⟨g, k * 9 + 7, none⟩ = some (.int .i64 (q.e.1 : Int)) ∧ W'.cell? ⟨g, k * 9 + 8, none⟩ = some (.int .i64 (q.e.2 : Int)))) := fun W W' hk hg5 h5 => by
        have hz := hk.size
        have o1 := World.cell?_of_block (a := ⟨w.heap.size, 5, none⟩) ((hg5.block w.heap.size (by omega) (by intro e; have := HOb.out _ e.symm; omega)).trans (hk.block w.heap.size (by omega) (by omega) (by omega)))
        have o2 := (hg5.block g (by omega) (by intro e; have := HOb.out _ e.symm; omega)).trans (hk.block g (by omega) (by omega) (by omega))
        obtain ⟨p0, p1, p2, p3, p4, p5, p6, p7, p8⟩ := HN9.out
        refine ⟨h5, o1.trans HC5.out, ?_⟩
        exact ⟨(World.cell?_of_block (a := ⟨g, k * 9, none⟩) o2).trans p0, (World.cell?_of_block (a := ⟨g, k * 9 + 1, none⟩) o2).trans p1, (World.cell?_of_block (a := ⟨g, k * 9 + 2, none⟩) o2).trans p2, (World.cell?_of_block (a := ⟨g, k * 9 + 3, none⟩) o2).trans p3, (World.cell?_of_block (a := ⟨g, k * 9 + 4, none⟩) o2).trans p4,
          (World.cell?_of_block (a := ⟨g, k * 9 + 5, none⟩) o2).trans p5, (World.cell?_of_block (a := ⟨g, k * 9 + 6, none⟩) o2).trans p6, (World.cell?_of_block (a := ⟨g, k * 9 + 7, none⟩) o2).trans p7, (World.cell?_of_block (a := ⟨g, k * 9 + 8, none⟩) o2).trans p8⟩
      have hkp := (rf_cells (HPa.out _ (Below.refl _ _))).2.2.2.2.2.1
      have hle1 : us.length + 1 ≤ maxLen := by have := HUl.out; unfold maxLen; omega
      have hle2 : (us.length + 1) * 104 ≤ 140737488355328 := by have := HUl.out; omega
      have hPO : some (w.heap.size + 1 + 1) ≠ (Value.slice pa pn pc).ownBlock := by intro e; have := HOb.out _ e.symm; omega
      clear HCl
      go_wp2_with fail
      clear c5
      refine wp_region_last (fun W' => W'.cell? ⟨w.heap.size + 1 + 1, 5, none⟩ = some (.slice pa pn pc) ∧ W'.cell? ⟨w.heap.size, 5, none⟩ = some (.slice (some ⟨g, 0, none⟩) ts.length kc) ∧ W'.cell? ⟨g, k * 9, none⟩ = some (.int .i64 (q.kind : Int)) ∧ W'.cell? ⟨g, k * 9 + 1, none⟩ = some (.int .i64 (q.hd.1 : Int)) ∧ W'.cell? ⟨g, k * 9 + 2, none⟩ = some (.int .i64 (q.hd.2 : Int)) ∧ W'.cell? ⟨g, k * 9 + 3, none⟩ = some (.int .i64 (q.bd.1 : Int)) ∧ W'.cell? ⟨g, k * 9 + 4, none⟩ = some (.int .i64 (q.bd.2 : Int)) ∧ W'.cell? ⟨g, k * 9 + 5, none⟩ = some (.slice ga gn gc) ∧ W'.cell? ⟨g, k * 9 + 6, none⟩ = some (.slice ga2 gn2 gc2) ∧ W'.cell? ⟨g, k * 9 + 7, none⟩ = some (.int .i64 (q.e.1 : Int)) ∧ W'.cell? ⟨g, k * 9 + 8, none⟩ = some (.int .i64 (q.e.2 : Int))) 11 (by kernel_rfl) ?_
      have hS0 := HSp.out wr.drew hkp hk0
      refine wpAnyN_takeE (i := 0) rfl (by kernel_rfl) (by kernel_rfl) (by kernel_rfl) (by kernel_rfl) (fun _ _ _ _ h => h) rfl hS0 ?_
      apply Exists.intro
      refine ⟨fun w hSw => ?_, ?_⟩
      · obtain ⟨_, _, _, _, _, _, _, _, _, _, _⟩ := hSw
        go_simp
        try rfl
      try simp only [Act.put]
      try simp only [List.setIfInBounds_toArray]
      try simp only [List.set_cons_succ]
      try simp only [List.set_cons_zero]
      refine wpAnyN_takeE (i := 1) rfl (by kernel_rfl) (by kernel_rfl) (by kernel_rfl) (by kernel_rfl) (fun _ _ _ _ h => h) rfl hS0 ?_
      apply Exists.intro
      refine ⟨fun w hSw => ?_, ?_⟩
      · obtain ⟨_, _, _, _, _, _, _, _, _, _, _⟩ := hSw
        go_simp
        try rfl
      try simp only [Act.put]
      try simp only [List.setIfInBounds_toArray]
      try simp only [List.set_cons_succ]
      try simp only [List.set_cons_zero]
      refine wpAnyN_takeE (i := 2) rfl (by kernel_rfl) (by kernel_rfl) (by kernel_rfl) (by kernel_rfl) (fun _ _ _ _ h => h) rfl hS0 ?_
      apply Exists.intro
      refine ⟨fun w hSw => ?_, ?_⟩
      · obtain ⟨_, _, _, _, _, _, _, _, _, _, _⟩ := hSw
        go_simp
        try rfl
      try simp only [Act.put]
      try simp only [List.setIfInBounds_toArray]
      try simp only [List.set_cons_succ]
      try simp only [List.set_cons_zero]
      refine wpAnyN_takeE (i := 3) rfl (by kernel_rfl) (by kernel_rfl) (by kernel_rfl) (by kernel_rfl) (fun _ _ _ _ h => h) rfl hS0 ?_
      apply Exists.intro
      refine ⟨fun w hSw => ?_, ?_⟩
      · obtain ⟨_, _, _, _, _, _, _, _, _, _, _⟩ := hSw
        go_simp
        try rfl
      try simp only [Act.put]
      try simp only [List.setIfInBounds_toArray]
      try simp only [List.set_cons_succ]
      try simp only [List.set_cons_zero]
      refine wpAnyN_takeE (i := 4) rfl (by kernel_rfl) (by kernel_rfl) (by kernel_rfl) (by kernel_rfl) (fun _ _ _ _ h => h) rfl hS0 ?_
      apply Exists.intro
      refine ⟨fun w hSw => ?_, ?_⟩
      · obtain ⟨_, _, _, _, _, _, _, _, _, _, _⟩ := hSw
        go_simp
        try rfl
      try simp only [Act.put]
      try simp only [List.setIfInBounds_toArray]
      try simp only [List.set_cons_succ]
      try simp only [List.set_cons_zero]
      refine wpAnyN_takeE (i := 5) rfl (by kernel_rfl) (by kernel_rfl) (by kernel_rfl) (by kernel_rfl) (fun _ _ _ _ h => h) rfl hS0 ?_
      apply Exists.intro
      refine ⟨fun w hSw => ?_, ?_⟩
      · obtain ⟨_, _, _, _, _, _, _, _, _, _, _⟩ := hSw
        go_simp
        try rfl
      try simp only [Act.put]
      try simp only [List.setIfInBounds_toArray]
      try simp only [List.set_cons_succ]
      try simp only [List.set_cons_zero]
      refine wpAnyN_takeE (i := 6) rfl (by kernel_rfl) (by kernel_rfl) (by kernel_rfl) (by kernel_rfl) (fun _ _ _ _ h => h) rfl hS0 ?_
      apply Exists.intro
      refine ⟨fun w hSw => ?_, ?_⟩
      · obtain ⟨_, _, _, _, _, _, _, _, _, _, _⟩ := hSw
        go_simp
        try rfl
      try simp only [Act.put]
      try simp only [List.setIfInBounds_toArray]
      try simp only [List.set_cons_succ]
      try simp only [List.set_cons_zero]
      refine wpAnyN_one (i := 7) (by kernel_rfl) rfl (fun K hK => ?_)
      go_simp
      go_at_call 13
      with_reducible refine (HEn.out _ hk0).mono ?_
      rintro e w11 ⟨u11, rfl, ht11, hb11⟩
      have hk11 := hk0.below hb11
      have hp11 := HPa.out _ ((Below.refl _ _).drew.trans (hb11.mono (Nat.le_refl _)))
      have HT11 := Lib.hid ht11
      obtain ⟨ka1, kn1, kc1, ca1, cn1, cc1, rfl⟩ := refAt_agg ht11
      dsimp only
      refine hK.out _ _ (fun _ => HSp.out _ (rf_cells hp11).2.2.2.2.2.1 hk11) ?_
      clear hK K
      refine wpAnyN_one (i := 8) (by kernel_rfl) rfl (fun K hK => ?_)
      go_simp
      have hk12 : K2 (w.heap.size + 1 + 1) (w.heap.size + 1 + 1) wr (w11.alloc (.cells #[.int .i64 (q.kind : Int), .int .i64 (q.hd.1 : Int), .int .i64 (q.hd.2 : Int), .int .i64 (q.bd.1 : Int), .int .i64 (q.bd.2 : Int), .slice ka1 kn1 kc1, .slice ca1 cn1 cc1, .int .i64 (q.e.1 : Int), .int .i64 (q.e.2 : Int)] 39)) := hk11.below ((Below.refl _ _).alloc (Nat.le_refl _) _)
      have hp12 : (w11.alloc (.cells #[.int .i64 (q.kind : Int), .int .i64 (q.hd.1 : Int), .int .i64 (q.hd.2 : Int), .int .i64 (q.bd.1 : Int), .int .i64 (q.bd.2 : Int), .slice ka1 kn1 kc1, .slice ca1 cn1 cc1, .int .i64 (q.e.1 : Int), .int .i64 (q.e.2 : Int)] 39)).heap[w.heap.size + 1 + 1]? = some (rfO kd h1 h2 b1 b2 (.slice pa pn pc) (.slice ca cn cc) e1 e2) := (Below.heap_alloc _ _ _ (by have := hk11.size; omega)).trans hp11
      refine hK.out _ _ (fun _ => HSp.out _ (rf_cells hp12).2.2.2.2.2.1 hk12) ?_
      clear hK K
      refine wpAnyN_one (i := 9) (by kernel_rfl) rfl (fun K hK => ?_)
      refine step_append_lies _ (by exact rfl) _ _ 37 (by exact rfl) X.heap.size 39 i0 (.agg #[.int .i64 0, .int .i64 0, .int .i64 0, .int .i64 0, .int .i64 0, .slice none 0 0, .slice none 0 0, .int .i64 0, .int .i64 0]) 9 104 Tryz.underlying37 HI0.out HZ0.out HZ1.out HZ2.out rfl (by decide) _ us.length (us.flatMap partCells) (by exact rfl) (HOk.out _ hk12) ⟨w11.heap.size, 0, none⟩ 1 1 [.int .i64 (q.kind : Int), .int .i64 (q.hd.1 : Int), .int .i64 (q.hd.2 : Int), .int .i64 (q.bd.1 : Int), .int .i64 (q.bd.2 : Int), .slice ka1 kn1 kc1, .slice ca1 cn1 cc1, .int .i64 (q.e.1 : Int), .int .i64 (q.e.2 : Int)] (by exact rfl) rfl (World.news_of_block (cs := #[.int .i64 (q.kind : Int), .int .i64 (q.hd.1 : Int), .int .i64 (q.hd.2 : Int), .int .i64 (q.bd.1 : Int), .int .i64 (q.bd.2 : Int), .slice ka1 kn1 kc1, .slice ca1 cn1 cc1, .int .i64 (q.e.1 : Int), .int .i64 (q.e.2 : Int)]) (heap_alloc_new w11 _)) (by simp [Value.oneCell']) (by decide) hle1 hle2 (by have := hk12.size; omega) _ rfl ?_
      intro g13 cap13 w13 hown13 hgrow13 hor13 hlt13
      have hz12 := hk12.size
      have hp13 := (hgrow13.block (w.heap.size + 1 + 1) (by omega) hPO).trans hp12
      refine hK.out _ _ (fun _ => HKq.out _ _ hk12 hgrow13 (rf_cells hp13).2.2.2.2.2.1) ?_
      clear hK K
      refine wpAnyN_one (i := 10) (by kernel_rfl) rfl (fun K hK => ?_)
      go_simp
      refine hK.out _ _ (fun _ => HKq.out _ _ hk12 hgrow13 (rf_cells hp13).2.2.2.2.2.1) ?_
      clear hK K
      have s5 := (rf_cells hp13).2.2.2.2.2.1
      have v5 := rf_frozen hp13 5
      refine wpAnyN_one (i := 11) (by kernel_rfl) rfl (fun K hK => ?_)
      go_simp
      refine hK.out _ _ (fun hh => absurd rfl hh) ?_
      clear hK K
      have HK2x : Hid (K2 (w.heap.size + 1 + 1) (w.heap.size + 1 + 1) X (w13.setCell ⟨w.heap.size + 1 + 1, 5, none⟩ (.slice (some ⟨g13, 0, none⟩) (us.length + 1) cap13))) := ((HK2.out.trans hk12).grown hgrow13 (fun q hq => (HOb.out q hq).1)).set 5 _
      have HOx2 : Hid ((w13.setCell ⟨w.heap.size + 1 + 1, 5, none⟩ (.slice (some ⟨g13, 0, none⟩) (us.length + 1) cap13)).ownsRow X.heap.size 39 9 (.slice (some ⟨g13, 0, none⟩) (us.length + 1) cap13) (us ++ [Value.agg #[.int .i64 (q.kind : Int), .int .i64 (q.hd.1 : Int), .int .i64 (q.hd.2 : Int), .int .i64 (q.bd.1 : Int), .int .i64 (q.bd.2 : Int), .slice ka1 kn1 kc1, .slice ca1 cn1 cc1, .int .i64 (q.e.1 : Int), .int .i64 (q.e.2 : Int)]]).length ((us ++ [Value.agg #[.int .i64 (q.kind : Int), .int .i64 (q.hd.1 : Int), .int .i64 (q.hd.2 : Int), .int .i64 (q.bd.1 : Int), .int .i64 (q.bd.2 : Int), .slice ka1 kn1 kc1, .slice ca1 cn1 cc1, .int .i64 (q.e.1 : Int), .int .i64 (q.e.2 : Int)]]).flatMap partCells)) := by
        unfold Hid
        have h1 := ownsRow_setCell_below (a := ⟨w.heap.size + 1 + 1, 5, none⟩) hown13 (show w.heap.size + 1 + 1 < X.heap.size by omega) (.slice (some ⟨g13, 0, none⟩) (us.length + 1) cap13)
        rw [List.length_append, List.flatMap_append]
        exact h1
      have HPx2 : Hid ((w13.setCell ⟨w.heap.size + 1 + 1, 5, none⟩ (.slice (some ⟨g13, 0, none⟩) (us.length + 1) cap13)).heap[w.heap.size + 1 + 1]? = some (rfO kd h1 h2 b1 b2 (.slice (some ⟨g13, 0, none⟩) (us.length + 1) cap13) (.slice ca cn cc) e1 e2)) := by
        have h1 := hp13
        unfold rfO at h1
        exact row_set h1
      have hs11 := hk11.size
      have hs12 : (w11.alloc (.cells #[.int .i64 (q.kind : Int), .int .i64 (q.hd.1 : Int), .int .i64 (q.hd.2 : Int), .int .i64 (q.bd.1 : Int), .int .i64 (q.bd.2 : Int), .slice ka1 kn1 kc1, .slice ca1 cn1 cc1, .int .i64 (q.e.1 : Int), .int .i64 (q.e.2 : Int)] 39)).heap.size = w11.heap.size + 1 := by simp
      have HKx2 : Hid (refKs (fun q => q < n0 ∨ (X.heap.size ≤ q ∧ ¬ (Value.slice (some ⟨g13, 0, none⟩) (us.length + 1) cap13).ownBlock = some q)) (w13.setCell ⟨w.heap.size + 1 + 1, 5, none⟩ (.slice (some ⟨g13, 0, none⟩) (us.length + 1) cap13)) (ts.take (k + 1)) (us ++ [Value.agg #[.int .i64 (q.kind : Int), .int .i64 (q.hd.1 : Int), .int .i64 (q.hd.2 : Int), .int .i64 (q.bd.1 : Int), .int .i64 (q.bd.2 : Int), .slice ka1 kn1 kc1, .slice ca1 cn1 cc1, .int .i64 (q.e.1 : Int), .int .i64 (q.e.2 : Int)]])) := by
        have hgo : ∀ q, (Value.slice (some ⟨g13, 0, none⟩) (us.length + 1) cap13).ownBlock = some q → g13 = q := fun q e => Option.some.inj e
        unfold Hid
        rw [HTk.out]
        refine refKs_snoc (refKs.keep ?_ _ _ HKx.out) (refAt.keep ?_ _ _ HT11.out)
        · intro q hq hqz
          have hqne : (Value.slice pa pn pc).ownBlock ≠ some q := by
            rcases hq with hq | ⟨_, hq⟩
            · intro e; have := HOb.out _ e; omega
            · exact hq
          refine ⟨?_, ?_⟩
          · rw [Below.heap_setCell _ _ _ _ (show q ≠ w.heap.size + 1 + 1 by rcases hq with hq | ⟨hq, _⟩ <;> omega), hgrow13.block q (by omega) (fun e => hqne e.symm)]
            exact hk12.block q hqz (by rcases hq with hq | ⟨hq, _⟩ <;> omega) (by rcases hq with hq | ⟨hq, _⟩ <;> omega)
          · rcases hq with hq | ⟨hq, _⟩
            · exact .inl hq
            · refine .inr ⟨hq, fun e => ?_⟩
              have := hgo q e
              rcases hor13 with h1 | h1
              · exact hqne (by rw [h1, this])
              · omega
        · intro q hq hqz
          have hqne : (Value.slice pa pn pc).ownBlock ≠ some q := by
            rcases hq with hq | hq
            · intro e; have := HOb.out _ e; omega
            · have hq' : wr.heap.size ≤ q := hq
              intro e; have := HOb.out _ e; omega
          have hq2 : q ≠ w.heap.size + 1 + 1 := by
            rcases hq with hq | hq
            · omega
            · have hq' : wr.heap.size ≤ q := hq
              omega
          refine ⟨?_, ?_⟩
          · rw [Below.heap_setCell _ _ _ _ hq2, hgrow13.block q (by omega) (fun e => hqne e.symm)]
            exact Below.heap_alloc _ _ _ hqz
          · rcases hq with hq | hq
            · exact .inl hq
            · have hq' : wr.heap.size ≤ q := hq
              refine .inr ⟨by omega, fun e => ?_⟩
              have := hgo q e
              rcases hor13 with h1 | h1
              · exact hqne (by rw [h1, this])
              · omega
      clear hown13 hgrow13 hor13 hlt13 hp13 hp12 hp11 hk12 hk11 ht11 HT11 hb11 hS0 s5 v5 HKq HSp HOk HPa hk0 hkp HEn hs11 hs12 hz12 HOb hPO hle1 hle2
      clear HK2 HOx HP2 HKx HBG HN9 HC5 HP0
      have HUl2 : Hid ((us ++ [Value.agg #[.int .i64 (q.kind : Int), .int .i64 (q.hd.1 : Int), .int .i64 (q.hd.2 : Int), .int .i64 (q.bd.1 : Int), .int .i64 (q.bd.2 : Int), .slice ka1 kn1 kc1, .slice ca1 cn1 cc1, .int .i64 (q.e.1 : Int), .int .i64 (q.e.2 : Int)]]).length = k + 1) := by unfold Hid; rw [List.length_append, HUl.out]; rfl
      refine wpAnyN_done (by kernel_rfl) ?_ _
      go_wp2_with fail
      go_roundg (ts.length - (k + 1))
      case measure => omega
      case rel => exact ⟨k + 1, us ++ [Value.agg #[.int .i64 (q.kind : Int), .int .i64 (q.hd.1 : Int), .int .i64 (q.hd.2 : Int), .int .i64 (q.bd.1 : Int), .int .i64 (q.bd.2 : Int), .slice ka1 kn1 kc1, .slice ca1 cn1 cc1, .int .i64 (q.e.1 : Int), .int .i64 (q.e.2 : Int)]], some ⟨g13, 0, none⟩, us.length + 1, cap13, by omega, rfl, by go_num, HUl2.out, HPx2.out, HOx2.out, HKx2.out, HK2x.out⟩
    · obtain rfl : k = ts.length := by omega
      have hP1 : wr.heap[w.heap.size + 1]? = some (rfO 0 0 0 0 0 (.slice none 0 0) (.slice none 0 0) 0 0) := (HK2.out.block (w.heap.size + 1) (by omega) (by omega) (by omega)).trans HX1.out
      have HP1 := Lib.hid hP1
      obtain ⟨x0, x1, x2, x3, x4, x5, x6, x7, x8⟩ := part_cells hP0
      obtain ⟨a0, a1, a2, a3, a4, a5, a6, a7, a8⟩ := rf_cells HP2.out
      obtain ⟨b0, b1', b2', b3, b4, b5, b6, b7, b8⟩ := rf_cells hP1
      have f0 := rf_frozen hP1 0
      have f1 := rf_frozen hP1 1
      have f2 := rf_frozen hP1 2
      have f3 := rf_frozen hP1 3
      have f4 := rf_frozen hP1 4
      have f5 := rf_frozen hP1 5
      have f6 := rf_frozen hP1 6
      have f7 := rf_frozen hP1 7
      have f8 := rf_frozen hP1 8
      clear hP0 hP1
      go_wp2_with fail
      (try simp only [Exit.inBlock, Exit.then])
      refine bodyPost_ret (results_cell_row (P := Tryz.prog) Tryz.results13 _ _ (w.heap.size + 1) 39 _ (0, 0) _ rfl (row_set9 HP1.out) Tryz.underlying39 rfl (by kernel_rfl)) rfl ?_
      refine ⟨pa, pn, pc, us, rfl, own_base0 (own_set9 HOx.out (by omega)) (fun a h1 _ => by omega), ?_, ?_⟩
      · have h1 := HKx.out
        rw [List.take_length] at h1
        refine refKs.keep (fun q hq _ => ⟨heap_set9 (by rcases hq with hq | ⟨hq, _⟩ <;> omega), ?_⟩) _ _ h1
        rcases hq with hq | ⟨hq, _⟩
        · exact .inl hq
        · exact .inr (by omega)
      · exact below_set9 (HK2.out.base HBX.out (by omega) (by omega)) (by omega)
theorem treeOf_any (n0 : Nat) (n : Nat) : ∀ (t : Tr), SizeOf.sizeOf t ≤ n → countT t ≤ 1000000 → ∀ (w : World) (u : Value), n0 ≤ w.heap.size → treeAt (fun q => q < n0) w t u → Calls Tryz.prog 13 #[u] w (ofPost n0 t w) := by
  induction n with
  | zero => intro t ht; cases t; rw [Tr.mk.sizeOf_spec] at ht; omega
  | succ n ih =>
    intro t ht hcb w u hn0 hu
    obtain ⟨ka, kn, kc, ca, cn, cc, us, rfl, hcs, ho, hk⟩ := treeAt_open hu
    obtain ⟨rfl, _, _, hat⟩ := kids_at ho hk
    have hC := countT_eq t
    have hL := lenK_le t.kids
    have hkid : kidOf n0 w ka t.kids := fun i h => by
      obtain ⟨g, a, m, c, a2, n2, c2, e, _, hg1, h9, htr⟩ := hat i h
      have h1 := countK_drop t.kids i h
      have h2 := countK_le t.kids i
      exact ⟨g, a, m, c, a2, n2, c2, e, hg1, h9, fun W' hq hz => ih t.kids[i] (by have := size_kid i h; omega) (by omega) W' _ hz (treeAt.keep (fun q hS _ => ⟨hq q hS, hS⟩) _ _ htr)⟩
    refine (treeOf_step n0 t.kids t.kind t.hd.1 t.hd.2 t.bd.1 t.bd.2 t.e.1 t.e.2 ka ca kc cn cc w hn0 (by omega) hkid).mono ?_
    rintro e w' ⟨pa, pn, pc, us', rfl, h1, h2, h3⟩
    refine ⟨_, rfl, ?_, h3⟩
    cases t
    unfold refAt
    exact ⟨pa, pn, pc, ca, cn, cc, us', rfl, hcs.keep (fun q hq hqz => ⟨h3.block q hqz, .inl hq⟩), ⟨h1.1, fun a ha => .inr (h1.2 a ha)⟩, h2⟩
end Go.Proofs.YtfgppamhbchhcaaGreatDoor
