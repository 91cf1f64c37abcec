/- Contracts of package tiles: tell, the iterator each, Of. -/
import Derived.Test.YtedminjnnhlknaaGreatDoorGbTiC
namespace Go.Proofs.YtedminjnnhlknaaGreatDoor
open Go Go.RowKit Go.Shelf
attribute [local go_sem] Oper.semAt_some
set_option maxRecDepth 100000 in
set_option maxHeartbeats 4000000 in
theorem tell_multi (n Lp A N : Nat) (wb : World) (J Jx : List Tl → World → Prop) (hJ : ∀ pre W W', J pre W → Below W.heap.size W W' → J pre W') (hY : Yields (fun x => #[tlV x]) Lp A wb N J Jx)
  (h1 h2 b1 b2 e1 e2 : Nat) (ka ca : Option Addr) (kc cc : Nat) (ks : List Tr) (cs : List Sp) (hpos : 0 < ks.length) (hbig : ks.length ≤ 1000000) (hcut : ∀ i, i < ks.length → cutAt wb ca cs i)
  (hk : ∀ i, (h : i < ks.length) → kidTell Lp A N wb J Jx ka i ks[i]) (W : World) (hon : On wb A W) (pre : List Tl) (h0 : J pre W) (hN : pre.length + ((tilesM ks cs).length + 4) ≤ N) :
  CallsIn Fence.wide n Tryz.prog 99 #[.agg #[.int .i64 1, .int .i64 (h1 : Int), .int .i64 (h2 : Int), .int .i64 (b1 : Int), .int .i64 (b2 : Int), .slice ka ks.length kc, .slice ca ks.length cc, .int .i64 (e1 : Int), .int .i64 (e2 : Int)], .func (.yield Lp) #[] #[]] W
   (tellPost A wb J Jx pre ((0, (h1, h2)) :: (2, (b1, preE cs (e1, e2))) :: (tilesM ks cs ++ [(4, (e1, e2)), (5, (e2, b2))])) W) := by
 have HP := Lib.hid (Pb.new hon #[.int .i64 1, .int .i64 (h1 : Int), .int .i64 (h2 : Int), .int .i64 (b1 : Int), .int .i64 (b2 : Int), .slice ka ks.length kc, .slice ca ks.length cc, .int .i64 (e1 : Int), .int .i64 (e2 : Int)] 31)
 have HK := Lib.hid (hon.kept (below_new W (.cells #[.int .i64 1, .int .i64 (h1 : Int), .int .i64 (h2 : Int), .int .i64 (b1 : Int), .int .i64 (b2 : Int), .slice ka ks.length kc, .slice ca ks.length cc, .int .i64 (e1 : Int), .int .i64 (e2 : Int)] 31)))
 have hJX := hJ pre W _ h0 (below_new W (.cells #[.int .i64 1, .int .i64 (h1 : Int), .int .i64 (h2 : Int), .int .i64 (b1 : Int), .int .i64 (b2 : Int), .slice ka ks.length kc, .slice ca ks.length cc, .int .i64 (e1 : Int), .int .i64 (e2 : Int)] 31))
 obtain ⟨fn, tmps, assign, body, hy, hR⟩ := hY (n - 1) pre (0, (h1, h2)) _ hJX (by omega)
 have HR := Lib.hid hR
 replace hy : (Instr.yield Lp #[.agg #[.int .i64 0, .int .i64 (h1 : Int), .int .i64 (h2 : Int)]]).run Tryz.prog _ = .ok (.round Lp fn tmps assign body) _ := hy
 have HM := Lib.hid (fun W' hj hon' => tellMulti_any (n - 1) Lp A N wb J Jx hJ hY h1 h2 b1 b2 e1 e2 ka ca kc cc ks cs hpos hbig hcut hk W' hon' (pre ++ [(0, (h1, h2))]) hj (by simp only [List.length_append, List.length_cons, List.length_nil]; omega))
 obtain ⟨rest, hrest⟩ : ∃ rest, rest = (2, (b1, preE cs (e1, e2))) :: (tilesM ks cs ++ [(4, (e1, e2)), (5, (e2, b2))]) := ⟨_, rfl⟩
 rw [← hrest] at HM ⊢
 clear hR hJX h0 hJ hY hon hN hrest hcut hk
 refine callsIn_of_wp Tryz.func99 rfl trivial ?_ rfl
 simp only [Tryz.ntmps99, List.size_toArray, List.length_cons, List.length_nil, Nat.reduceAdd, Nat.reduceSub, Array.replicate_succ, Array.replicate_zero, List.push_toArray, List.append_toArray, List.nil_append, List.cons_append]
 gi_wp2
 refine ⟨fun h => (by cases h), ?_⟩
 refine HR.out.mono ?_
 rintro e W3 (⟨rfl, hJ4, hk4⟩ | ⟨rfl, hJx4⟩)
 ·have HP3 := Lib.hid (HP.out.keep hk4)
  have HK3 := Lib.hid (HK.out.trans hk4)
  have hl := HP3.out.lies
  have c0 : W3.cell? ⟨W.heap.size, 0, none⟩ = some (.int .i64 1) := by simp [World.cell?, hl]
  have c1 : W3.cell? ⟨W.heap.size, 1, none⟩ = some (.int .i64 (h1 : Int)) := by simp [World.cell?, hl]
  have c2 : W3.cell? ⟨W.heap.size, 2, none⟩ = some (.int .i64 (h2 : Int)) := by simp [World.cell?, hl]
  have c3 : W3.cell? ⟨W.heap.size, 3, none⟩ = some (.int .i64 (b1 : Int)) := by simp [World.cell?, hl]
  have c4 : W3.cell? ⟨W.heap.size, 4, none⟩ = some (.int .i64 (b2 : Int)) := by simp [World.cell?, hl]
  have c5 : W3.cell? ⟨W.heap.size, 5, none⟩ = some (.slice ka ks.length kc) := by simp [World.cell?, hl]
  have c6 : W3.cell? ⟨W.heap.size, 6, none⟩ = some (.slice ca ks.length cc) := by simp [World.cell?, hl]
  have c7 : W3.cell? ⟨W.heap.size, 7, none⟩ = some (.int .i64 (e1 : Int)) := by simp [World.cell?, hl]
  have c8 : W3.cell? ⟨W.heap.size, 8, none⟩ = some (.int .i64 (e2 : Int)) := by simp [World.cell?, hl]
  have HCl := Lib.hid (HM.out W3 hJ4 HP3.out.on)
  clear hl hk4 hJ4 hy HR HM
  gi_wp2
  refine ⟨trivial, fun h => (by cases h), ?_⟩
  with_reducible refine (HCl.out).mono ?_
  intro e W5 h5
  have HE := Lib.hid (tellPost_on HK3.out (all := (0, (h1, h2)) :: rest) rfl h5)
  have he : e = .returned (.bool true) ∨ e = .returned (.bool false) := h5.imp And.left And.left
  clear h5 HCl
  rcases he with rfl | rfl
  ·gi_wp2
   go_ret
   exact HE.out
  ·gi_wp2
   go_ret
   exact HE.out
 ·have HE : Hid (tellPost A wb J Jx pre ((0, (h1, h2)) :: rest) W (.returned (.bool false)) W3) := tell_cut (a := [(0, (h1, h2))]) rfl hJx4
  clear hJx4
  gi_wp2
  go_ret
  exact HE.out
theorem tilesT_pos (t : Tr) : 1 ≤ (tilesT t).length := by rw [tilesT_eq]; simp
theorem spans_at {S : Nat → Prop} {wb : World} {ca : Option Addr} {cn cc : Nat} {cs : List Sp} (h : ownS S wb 27 2 (.slice ca cn cc) cs.length (spCells cs)) : cn = cs.length ∧ cn ≤ cc ∧ cc ≤ maxLen ∧ ∀ i, i < cs.length → cutAt wb ca cs i := by
 obtain ⟨ao, cap, e, h1, h2, h3⟩ := (rowSp_owned h.1).at
 obtain ⟨rfl, rfl, rfl⟩ := Value.slice.inj e
 refine ⟨rfl, h1, h2, fun i hi => ?_⟩
 obtain ⟨g, e, hg, c0, c1⟩ := h3 i hi
 exact ⟨g, cs[i].1, cs[i].2, e, hg, by rw [List.getElem?_eq_getElem hi], c0, c1⟩
theorem tell_any (Lp A N : Nat) (wb : World) (J Jx : List Tl → World → Prop) (hJ : ∀ pre W W', J pre W → Below W.heap.size W W' → J pre W') (hY : Yields (fun x => #[tlV x]) Lp A wb N J Jx) (S : Nat → Prop) (k : Nat) :
  ∀ (t : Tr), SizeOf.sizeOf t ≤ k → goodT t → countT t ≤ 1000000 → ∀ (n : Nat) (u : Value) (W : World) (pre : List Tl), treeAt S wb t u → On wb A W → J pre W → pre.length + (tilesT t).length ≤ N →
   CallsIn Fence.wide n Tryz.prog 99 #[u, .func (.yield Lp) #[] #[]] W (tellPost A wb J Jx pre (tilesT t) W) := by
 induction k with
 | zero => intro t ht; cases t; rw [Tr.mk.sizeOf_spec] at ht; omega
 | succ k ih =>
  intro t ht hg hcb n u W pre hu hon h0 hN
  obtain ⟨hf, hgk⟩ := goodT_open hg
  obtain ⟨ka, kn, kc, ca, cn, cc, us, rfl, hcs, ho, hkd⟩ := treeAt_open hu
  obtain ⟨rfl, hk1, hk2, hkat⟩ := kids_at ho hkd
  obtain ⟨rfl, hc1, hc2, hcat⟩ := spans_at hcs
  have hC := countT_eq t
  have hL := lenK_le t.kids
  have hkid : ∀ i, (h : i < t.kids.length) → kidTell Lp A N wb J Jx ka i t.kids[i] := fun i h => by
   obtain ⟨g, a, m, c, a2, n2, c2, e, hg1, _, h9, htr⟩ := hkat i h
   have h1 := countK_drop t.kids i h
   have h2 := countK_le t.kids i
   exact ⟨g, a, m, c, a2, n2, c2, e, hg1, h9, fun n' pre' W' hj' hon' hN' => ih t.kids[i] (by have := size_kid i h; omega) (goodK_get hgk i h) (by omega) n' _ W' pre' htr hon' hj' hN'⟩
  obtain ⟨f1, f2, f3⟩ := hf
  rw [tilesT_eq] at hN ⊢
  rcases f3 with ⟨hk0, hks, hcs0, he⟩ | ⟨hk0, hks, hlen⟩ | ⟨hk0, hcs0, he, q, hks, hq1, hq2⟩
  ·rw [hk0] at hN ⊢
   rw [if_neg (by decide), if_neg (by decide)] at hN ⊢
   exact tell_leaf n Lp A N wb J Jx hJ hY _ _ _ _ _ _ ka ca _ _ _ _ W hon pre h0 (by simpa using hN)
  ·rw [hk0] at hN ⊢
   rw [if_pos rfl] at hN ⊢
   rw [← hlen] at hcat ⊢
   exact tell_multi n Lp A N wb J Jx hJ hY _ _ _ _ _ _ ka ca kc cc t.kids t.cuts (by cases hkk : t.kids with | nil => exact absurd hkk hks | cons => simp) (by omega) hcat hkid W hon pre h0 (by simpa using hN)
  ·rw [hk0] at hN ⊢
   rw [if_neg (by decide), if_pos rfl] at hN ⊢
   have h1 : t.kids.length = 1 := by rw [hks]; rfl
   have hq := hkid 0 (by omega)
   have hq' : t.kids[0]'(by omega) = q := by simp [hks]
   rw [hq'] at hq
   have hH : tilesH t.kids = tilesT q := by rw [hks, tilesH_one]
   rw [hH] at hN ⊢
   rw [h1]
   exact tell_msg n Lp A N wb J Jx hJ hY _ _ _ _ _ _ ka ca kc _ cc q hq W hon pre h0 (by simpa [Nat.add_comm] using hN)
set_option maxHeartbeats 2000000 in
theorem teach1_in (n Lp A B : Nat) (wb : World) (J Jx : List Tl → World → Prop) (hJ : ∀ pre W W', J pre W → Below W.heap.size W W' → J pre W') (t : Tr) (hY : Yields (fun x => #[tlV x]) Lp A wb (tilesT t).length J Jx) (S : Nat → Prop) (hg : goodT t) (hcb : countT t ≤ 1000000)
  (kd h1 h2 b1 b2 e1 e2 : Int) (ka ca : Option Addr) (kn kc cn cc : Nat) (hu : treeAt S wb t (.agg #[.int .i64 kd, .int .i64 h1, .int .i64 h2, .int .i64 b1, .int .i64 b2, .slice ka kn kc, .slice ca cn cc, .int .i64 e1, .int .i64 e2]))
  (W : World) (hp : W.heap[B]? = some (.cells #[.int .i64 kd, .int .i64 h1, .int .i64 h2, .int .i64 b1, .int .i64 b2, .slice ka kn kc, .slice ca cn cc, .int .i64 e1, .int .i64 e2] 31 (0, 0))) (hon : On wb A W) (h0 : J [] W) :
  CallsIn Fence.wide n Tryz.prog 98 #[.func (.yield Lp) #[] #[], .pointer (some ⟨B, 0, none⟩)] W fun e W' => (∃ v, e = .returned v) ∧ ((∃ ys, ys = tilesT t ∧ J ys W') ∨ (∃ pre, pre <+: tilesT t ∧ Jx pre W')) := by
 have HT := Lib.hid (tell_any Lp A (tilesT t).length wb J Jx hJ hY S _ t (Nat.le_refl _) hg hcb (n - 1) _ W [] hu hon h0 (by simp))
 have c0 : W.cell? ⟨B, 0, none⟩ = some (.int .i64 kd) := by simp [World.cell?, hp]
 have c1 : W.cell? ⟨B, 1, none⟩ = some (.int .i64 h1) := by simp [World.cell?, hp]
 have c2 : W.cell? ⟨B, 2, none⟩ = some (.int .i64 h2) := by simp [World.cell?, hp]
 have c3 : W.cell? ⟨B, 3, none⟩ = some (.int .i64 b1) := by simp [World.cell?, hp]
 have c4 : W.cell? ⟨B, 4, none⟩ = some (.int .i64 b2) := by simp [World.cell?, hp]
 have c5 : W.cell? ⟨B, 5, none⟩ = some (.slice ka kn kc) := by simp [World.cell?, hp]
 have c6 : W.cell? ⟨B, 6, none⟩ = some (.slice ca cn cc) := by simp [World.cell?, hp]
 have c7 : W.cell? ⟨B, 7, none⟩ = some (.int .i64 e1) := by simp [World.cell?, hp]
 have c8 : W.cell? ⟨B, 8, none⟩ = some (.int .i64 e2) := by simp [World.cell?, hp]
 clear hp hu hon h0 hJ hY hg
 refine callsIn_of_wp Tryz.func98 rfl trivial ?_ rfl
 simp only [Tryz.ntmps98, List.size_toArray, List.length_cons, List.length_nil, Nat.reduceAdd, Nat.reduceSub, Array.replicate_succ, Array.replicate_zero, List.push_toArray, List.append_toArray, List.nil_append, List.cons_append]
 gi_wp2
 refine ⟨trivial, fun h => (by cases h), ?_⟩
 with_reducible refine (HT.out).mono ?_
 rintro e W1 (⟨rfl, hJ1, _⟩ | ⟨rfl, q, hq, hx⟩)
 ·have HE : Hid (((∃ ys, ys = tilesT t ∧ J ys W1) ∨ (∃ pre, pre <+: tilesT t ∧ Jx pre W1))) := .inl ⟨_, rfl, hJ1⟩
  clear hJ1
  gi_wp2
  go_end0
  exact ⟨⟨_, rfl⟩, HE.out⟩
 ·have HE : Hid (((∃ ys, ys = tilesT t ∧ J ys W1) ∨ (∃ pre, pre <+: tilesT t ∧ Jx pre W1))) := .inr ⟨q, hq, hx⟩
  clear hx hq
  gi_wp2
  go_end0
  exact ⟨⟨_, rfl⟩, HE.out⟩
theorem yields_of {α : Type} {enc : α → Array Value} {n Lp A N : Nat} {wb : World} {J Jx : List α → World → Prop}
  (h : ∀ pre x W1, J pre W1 → pre.length < N → YieldAt Fence.wide n Tryz.prog Lp (enc x) W1 fun e W' => (e = .returned (.bool true) ∧ J (pre ++ [x]) W' ∧ KeepK wb.heap.size A W1 W') ∨ (e = .returned (.bool false) ∧ Jx (pre ++ [x]) W')) :
  Yields enc Lp A wb N J Jx := fun _ pre x W1 hj hl => yield_any (h pre x W1 hj hl)
theorem abides_of {α : Type} {B : Nat} {J : List α → World → Prop} (h : AbidesFrom B J) : ∀ pre W W', J pre W → Below W.heap.size W W' → J pre W' := fun pre W W' hj hb => h pre W W' none hj (below_grown hb) (fun r e => by cases e)
theorem teach_stops (n A B : Nat) (wb w0 : World) (t : Tr) (S : Nat → Prop) (hg : goodT t) (hcb : countT t ≤ 1000000) (kd h1 h2 b1 b2 e1 e2 : Int) (ka ca : Option Addr) (kn kc cn cc : Nat)
  (hu : treeAt S wb t (.agg #[.int .i64 kd, .int .i64 h1, .int .i64 h2, .int .i64 b1, .int .i64 b2, .slice ka kn kc, .slice ca cn cc, .int .i64 e1, .int .i64 e2]))
  (hp : w0.heap[B]? = some (.cells #[.int .i64 kd, .int .i64 h1, .int .i64 h2, .int .i64 b1, .int .i64 b2, .slice ka kn kc, .slice ca cn cc, .int .i64 e1, .int .i64 e2] 31 (0, 0))) (hon : On wb A w0) :
  SeqStopsK Fence.wide n Tryz.prog 98 #[.pointer (some ⟨B, 0, none⟩)] (fun x : Tl => #[tlV x]) (KeepK wb.heap.size A) (fun ys => ys = tilesT t) (fun pre => pre <+: tilesT t) (tilesT t).length w0 :=
 fun Lp J Jx W hW hJ _ hY h0 => teach1_in n Lp A B wb J Jx (abides_of hJ) t (yields_of hY) S hg hcb kd h1 h2 b1 b2 e1 e2 ka ca kn kc cn cc hu W ((hW.block B (Array.getElem?_eq_some_iff.1 hp).1).trans hp) (hon.grow hW) h0
end Go.Proofs.YtedminjnnhlknaaGreatDoor

/- Contracts of package tiles: Of. -/
namespace Go.Proofs.YtedminjnnhlknaaGreatDoor
open Go Go.RowKit Go.Shelf
attribute [local go_sem] Oper.semAt_some
def tlC (x : Tl) : List Value := [.int .i64 (x.1 : Int), .int .i64 (x.2.1 : Int), .int .i64 (x.2.2 : Int)]
theorem tlC_one (x : Tl) : ∀ u ∈ tlC x, u.oneCell' = true := by
 intro u hu
 simp only [tlC, List.mem_cons, List.not_mem_nil, or_false] at hu
 rcases hu with rfl | rfl | rfl <;> rfl
def tlCells (ls : List Tl) : List Value := ls.flatMap tlC
theorem tlCells_len (ls : List Tl) : (tlCells ls).length = ls.length * 3 := by
 induction ls with
 | nil => rfl
 | cons x r ih => simp only [tlCells, List.flatMap_cons, List.length_append, tlC, List.length_cons, List.length_nil] at ih ⊢; omega
theorem tlCells_snoc (ls : List Tl) (x : Tl) : tlCells (ls ++ [x]) = tlCells ls ++ tlC x := by simp [tlCells]
theorem Tryz.infoTl : (Tryz.prog.info? 145).map (fun i => (i.zero, i.size, i.bytes)) = some (some (.agg #[.int .i64 0, .int .i64 0, .int .i64 0]), 3, 24) := by kernel_rfl
theorem on_new (w : World) (P Q : Obj) (v : Value) (t : TypeId) (hv : v.ownBlock = none) : On w (w.heap.size + 1) (((w.alloc P).alloc (.cells #[v] t)).alloc Q) := by
 have b1 := (Boxed.new (w.alloc P) t v).alloc Q
 simp only [World.size_alloc] at b1
 refine ⟨(((Below.refl _ w).alloc (Nat.le_refl _) _).alloc (by simp) _).alloc (by simp; omega) _, by simp; omega, fun k hk => ?_⟩
 rw [boxed_owns b1, hv] at hk
 rcases hk with h | h
 ·subst h; exact b1.lt
 ·cases h
end Go.Proofs.YtedminjnnhlknaaGreatDoor
