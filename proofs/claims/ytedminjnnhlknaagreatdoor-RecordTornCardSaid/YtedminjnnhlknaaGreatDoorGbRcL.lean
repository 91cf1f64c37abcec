/- Contracts of package record: appendTree, appendMulti. -/
import Derived.Test.YtedminjnnhlknaaGreatDoorGbRcJ
import Derived.Test.YtedminjnnhlknaaGreatDoorGbLt
import Derived.Test.YtedminjnnhlknaaGreatDoorGbTiJ
import Derived.Test.YtedminjnnhlknaaGreatDoorGbRcF
namespace Go.Proofs.YtedminjnnhlknaaGreatDoor
open Go Go.RowKit
def putPost (base : Nat) (v : Value) (xs ys : List UInt8) (w : World) (e : Ending) (w' : World) : Prop := ∃ u, e = .returned u ∧ rowB base u (xs ++ ys) w' ∧ Ap v w u w'
theorem tree_ap {base : Nat} {v u : Value} {w w' : World} {t : Tr} {x : Value} (h : treeAt (fun k => k < base) w t x) (hv : ∀ q, v.ownBlock = some q → base ≤ q) (k : Ap v w u w') : treeAt (fun k => k < base) w' t x :=
 treeAt.keep (fun q hq hqz => ⟨k.block hqz (fun e => by have := hv q e; omega), hq⟩) _ _ h
theorem nums_new {w : World} {cs : Array Value} {t : TypeId} (ns : List Nat) (h : cs.toList = ns.map (fun n : Nat => Value.int .i64 (n : Int))) : numsAt (w.alloc (.cells cs t)) w.heap.size ns :=
 ⟨by simp, fun j hj => by
  have h1 : cs[j]? = some (.int .i64 (ns[j] : Int)) := by
   rw [← Array.getElem?_toList, h, List.getElem?_map, List.getElem?_eq_getElem hj]
   rfl
  simp only [World.cell?, heap_alloc_new]
  simpa using h1⟩
theorem nine_of_heap {W : World} {B : Nat} {t : TypeId} {fr : Nat × Nat} {a0 a1 a2 a3 a4 a5 a6 a7 a8 : Value} (h : W.heap[B]? = some (.cells #[a0, a1, a2, a3, a4, a5, a6, a7, a8] t fr)) : W.cell? ⟨B, 0, none⟩ = some a0 ∧ W.cell? ⟨B, 1, none⟩ = some a1 ∧ W.cell? ⟨B, 2, none⟩ = some a2 ∧ W.cell? ⟨B, 3, none⟩ = some a3 ∧ W.cell? ⟨B, 4, none⟩ = some a4 ∧ W.cell? ⟨B, 5, none⟩ = some a5 ∧ W.cell? ⟨B, 6, none⟩ = some a6 ∧ W.cell? ⟨B, 7, none⟩ = some a7 ∧ W.cell? ⟨B, 8, none⟩ = some a8 := by simp [World.cell?, h]
mutual
theorem putT_len : ∀ t : Tr, (putT t).length + 20 ≤ 100 * countT t
 | .mk k hd bd ks cs e => by
  have h1 := numB_len k
  have h2 := numB_len (hd.2 - hd.1)
  have h3 := numB_len (bd.2 - bd.1)
  have h4 := putM_len bd.1 e ks cs
  have h5 := putH_len ks
  have h6 := numB_len ks.length
  have e1 : countT (.mk k hd bd ks cs e) = 1 + countK ks := rfl
  rw [putT_mk]
  simp only [List.length_append]
  by_cases k1 : k = 1
  ·rw [if_pos k1, List.length_append]; omega
  ·rw [if_neg k1]
   by_cases k2 : k = 2
   ·rw [if_pos k2]; omega
   ·rw [if_neg k2, List.length_nil]; omega
theorem putM_len : ∀ (a : Nat) (e : Sp) (ks : List Tr) (cs : List Sp), (putM a e ks cs).length ≤ 20 + 100 * countK ks
 | a, e, [], cs => by
  have h1 := numB_len (e.1 - a)
  have h2 := numB_len (e.2 - e.1)
  rw [putM_nil, List.length_append]
  omega
 | a, e, t :: r, [] => by simp only [putM, List.length_nil]; omega
 | a, e, t :: r, c :: cs => by
  have h1 := numB_len (c.1 - a)
  have h2 := numB_len (c.2 - c.1)
  have h3 := putT_len t
  have h4 := putM_len t.bd.2 e r cs
  have e1 : countK (t :: r) = countT t + countK r := rfl
  rw [putM_cons]
  simp only [List.length_append]
  omega
theorem putH_len : ∀ ks : List Tr, (putH ks).length ≤ 100 * countK ks
 | [] => by simp only [putH, List.length_nil]; omega
 | t :: r => by
  have h3 := putT_len t
  have e1 : countK (t :: r) = countT t + countK r := rfl
  simp only [putH]
  omega
end
def PT (base : Nat) (t : Tr) : Prop := ∀ (v : Value) (xs : List UInt8) (w : World) (u : Value), base ≤ w.heap.size → rowB base v xs w → treeAt (fun k => k < base) w t u → xs.length + 100 * countT t ≤ 1000000 →
 Calls Tryz.prog 20 #[v, u] w (putPost base v xs (putT t) w)
theorem own_ge {base : Nat} {v : Value} {xs : List UInt8} {w : World} (h : rowB base v xs w) : ∀ q, v.ownBlock = some q → base ≤ q := fun q hq => (h.lt q hq).1
set_option maxRecDepth 100000 in
set_option maxHeartbeats 16000000 in
theorem appendMulti_any (base : Nat) (t : Tr) (hg : goodT t) (bE : Nat) (hch : chainT t.hd.1 bE (tilesT t)) (hbE : bE ≤ 1000000000) (hk1 : t.kind = 1) (ih : ∀ i, (h : i < t.kids.length) → PT base t.kids[i])
  (v : Value) (xs : List UInt8) (w : World) (kd h1 h2 b2 : Int) (ka : Option Addr) (kn kc : Nat) (ca : Option Addr) (cn cc : Nat) (hb : base ≤ w.heap.size) (hrow : rowB base v xs w)
  (hu : treeAt (fun k => k < base) w t (.agg #[.int .i64 kd, .int .i64 h1, .int .i64 h2, .int .i64 (t.bd.1 : Int), .int .i64 b2, .slice ka kn kc, .slice ca cn cc, .int .i64 (t.e.1 : Int), .int .i64 (t.e.2 : Int)])) (hlen : xs.length + 60 + 100 * countK t.kids ≤ 1000000) :
  Calls Tryz.prog 43 #[v, .agg #[.int .i64 kd, .int .i64 h1, .int .i64 h2, .int .i64 (t.bd.1 : Int), .int .i64 b2, .slice ka kn kc, .slice ca cn cc, .int .i64 (t.e.1 : Int), .int .i64 (t.e.2 : Int)]] w
   (putPost base v xs (numB t.kids.length ++ putM t.bd.1 t.e t.kids t.cuts) w) := by
 obtain ⟨ka', kn', kc', ca', cn', cc', us, he, hcu, ho, hkd⟩ := treeAt_open hu
 simp only [Value.agg.injEq, Array.mk.injEq, List.cons.injEq, Value.slice.injEq] at he
 obtain ⟨-, -, -, -, -, ⟨rfl, rfl, rfl⟩, ⟨rfl, rfl, rfl⟩, -⟩ := he
 obtain ⟨rfl, _, hkm, hkat⟩ := kids_at ho hkd
 obtain ⟨rfl, _, hcm, hcat⟩ := spans_at hcu
 obtain ⟨f1, f2, f3⟩ := (goodT_open hg).1
 have hkl : t.kids.length = t.cuts.length := by
  rcases f3 with ⟨h, _⟩ | ⟨_, _, h⟩ | ⟨h, _⟩
  ·omega
  ·exact h
  ·omega
 have hch2 := hch
 rw [tilesT_eq, if_pos hk1] at hch2
 obtain ⟨_, _, g1, g2, g3⟩ := hch2
 simp only at g1 g2 g3
 obtain ⟨m, g4, g5⟩ := chainT_split g3
 have hme : m = t.e.1 := g5.1.symm
 subst hme
 have g6 : t.e.1 ≤ t.e.2 := g5.2.1
 have g7 : t.e.2 ≤ t.bd.2 := g5.2.2.2.1
 have g8 : bE = t.bd.2 := g5.2.2.2.2.symm
 have hpre : t.bd.1 ≤ preE t.cuts t.e := by rw [← f1]; exact g2
 have hbd : t.e.2 ≤ 1000000000 := by omega
 obtain ⟨n, hn⟩ : ∃ n, n = t.kids.length := ⟨_, rfl⟩
 have hn1 : n = t.cuts.length := hn.trans hkl
 have hcl : n ≤ 10000 := by
  have := countK_len t.kids
  omega
 obtain ⟨X, hX⟩ : ∃ X, X = w.alloc (partO kd h1 h2 (t.bd.1 : Int) b2 (.slice ka t.kids.length kc) (.slice ca t.cuts.length cc) (t.e.1 : Int) (t.e.2 : Int)) := ⟨_, rfl⟩
 have hBX : Below w.heap.size w X := by rw [hX]; exact (Below.refl _ _).alloc (Nat.le_refl _) _
 have HOX : Hid (X.heap[w.heap.size]? = some (partO kd h1 h2 (t.bd.1 : Int) b2 (.slice ka t.kids.length kc) (.slice ca t.cuts.length cc) (t.e.1 : Int) (t.e.2 : Int))) := by rw [hX]; exact heap_alloc_new w _
 have HzX : Hid (X.heap.size = w.heap.size + 1) := by unfold Hid; rw [hX]; simp
 have hvb := own_ge hrow
 have hvl : ∀ q, v.ownBlock = some q → q < w.heap.size := fun q hq => (hrow.lt q hq).2
 have hN := recAppendNumbers_any base v xs X.heap.size 1 [n] (X.alloc (.cells #[.int .i64 (n : Int)] 3)) (by have := HzX.out; simp; omega) ((hrow.below hBX).below (below_new _ _)) (nums_new [n] rfl) (fun e => by have := hvl _ e; have := HzX.out; omega) (fun q hq => by simp at hq; omega) (by simp; omega)
 have hl1 : [n].length = 1 := rfl
 have hl2 : [n].flatMap numB = numB n := by simp
 rw [hl1, hl2] at hN
 have HN := Lib.hid hN
 have HK := Lib.hid hkat
 have HC := Lib.hid hcat
 have HcS := Lib.hid hcu.2
 have HG4 : Hid (chainT (preE t.cuts t.e) t.e.1 (tilesM t.kids t.cuts)) := g4
 have HIh := Lib.hid ih
 have HBX := Lib.hid hBX
 have HRow := Lib.hid hrow
 have HVl := Lib.hid hvl
 have HVb := Lib.hid hvb
 have HGk := Lib.hid (goodT_open hg).2
 have hkE : Hid (n = t.kids.length ∧ n = t.cuts.length) := ⟨hn, hn1⟩
 rw [← hn, ← hn1] at hX HOX ⊢
 unfold partO at hX
 clear hN hl1 hl2 hkat hcat g4 g5 g3 g2 g1 hch ih hBX hrow hvl hvb hg hu hcu ho hkd f3 hn hn1 hkl hk1
 go_enter Tryz.func43, Tryz.ntmps43
 go_upto_region 1 with fail
 rw [← hX]
 clear hX
 obtain ⟨p0, p1, p2, p3, p4, p5, p6, p7, p8⟩ := part_cells HOX.out
 go_wp2_with fail
 with_reducible refine HN.out.mono ?_
 rintro e w2 ⟨u2, rfl, hr2, ha2⟩
 have HA2 : Hid (Ap v X u2 w2) := (Ap.of_below (below_new _ _)).trans ha2
 have hzz := ha2.grow.size
 have HR2 := Lib.hid hr2
 have hPx : ∀ u W, Ap v X u W → W.heap[w.heap.size]? = some (partO kd h1 h2 (t.bd.1 : Int) b2 (.slice ka n kc) (.slice ca n cc) (t.e.1 : Int) (t.e.2 : Int)) := fun u W k => (k.block (by have := HzX.out; omega) (fun e => by have := HVl.out _ e; omega)).trans HOX.out
 have HPx := Lib.hid hPx
 clear p0 p1 p2 p3 p4 p5 p6 p7 p8 hr2 ha2 HN hPx
 obtain ⟨p0, p1, p2, p3, p4, p5, p6, p7, p8⟩ := part_cells (HPx.out _ _ HA2.out)
 go_wp2_with fail
 clear p0 p1 p2 p3 p4 p5 p6 p7 p8
 go_loopg [0, 5, 6, 7, 8, 21] n (fun gg u0 x5 x6 x7 x8 x21 wr => ∃ (k a1 : Nat) (acc : List UInt8), k ≤ n ∧ gg = n - k ∧ x5 = .int .i64 (a1 : Int) ∧ x21 = .int .i64 (k : Int) ∧ Hid (rowB base u0 (xs ++ acc) wr) ∧ Hid (Ap v X u0 wr) ∧
  Hid (numB n ++ putM t.bd.1 t.e t.kids t.cuts = acc ++ putM a1 t.e (t.kids.drop k) (t.cuts.drop k)) ∧ Hid (chainT (preE (t.cuts.drop k) t.e) t.e.1 (tilesM (t.kids.drop k) (t.cuts.drop k))) ∧ Hid (a1 ≤ preE (t.cuts.drop k) t.e) ∧ Hid (acc.length + 100 * countK (t.kids.drop k) ≤ 10 + 100 * countK t.kids))
 case atStart => exact ⟨0, t.bd.1, numB n, Nat.zero_le _, rfl, rfl, rfl, HR2.out, HA2.out, by unfold Hid; rw [List.drop_zero, List.drop_zero], by unfold Hid; rw [List.drop_zero, List.drop_zero]; exact HG4.out, by unfold Hid; rw [List.drop_zero]; exact hpre, by unfold Hid; rw [List.drop_zero]; have := numB_len n; omega⟩
 case round =>
  obtain ⟨k, a1, acc, hk, rfl, rfl, rfl, HR, HA, HQ, HCh, HLe, HLn⟩ := hrel
  have hzr := HA.out.grow.size
  have hzX : w.heap.size < X.heap.size := by have := HzX.out; omega
  by_cases hlt : k < n
  ·have hlt' : (k : Int) < (n : Int) := by omega
   have hkk : k < t.kids.length := by have := hkE.out.1; omega
   have hkc2 : k < t.cuts.length := by have := hkE.out.2; omega
   obtain ⟨g, qa, qn, qc, qa2, qn2, qc2, rfl, hg1, hgS, h9, htr⟩ := HK.out k hkk
   obtain ⟨gc, cx, cy, rfl, hgc1, hcxy, y0, y1⟩ := HC.out k hkc2
   have hgcS : gc < base := HcS.out gc rfl
   have hce : t.cuts[k] = (cx, cy) := by rw [List.getElem?_eq_getElem hkc2] at hcxy; exact Option.some.inj hcxy
   have hdk : t.kids.drop k = t.kids[k] :: t.kids.drop (k + 1) := List.drop_eq_getElem_cons hkk
   have hdc : t.cuts.drop k = t.cuts[k] :: t.cuts.drop (k + 1) := List.drop_eq_getElem_cons hkc2
   have hih := HIh.out k hkk
   have hgq : goodT t.kids[k] := goodK_get HGk.out k hkk
   obtain ⟨q, hq⟩ : ∃ q, q = t.kids[k] := ⟨_, rfl⟩
   obtain ⟨c, hc⟩ : ∃ c, c = t.cuts[k] := ⟨_, rfl⟩
   rw [← hq] at h9 htr hdk hih hgq
   rw [← hc] at hdc hce
   obtain ⟨c1, c2⟩ := c
   obtain ⟨rfl, rfl⟩ : c1 = cx ∧ c2 = cy := by injection hce with e1 e2; exact ⟨e1, e2⟩
   have hch3 := HCh.out
   rw [hdk, hdc, tilesM_cons] at hch3
   obtain ⟨j1, j2, j3⟩ := hch3
   simp only at j1 j2 j3
   obtain ⟨m2, j4, j5⟩ := chainT_split j3
   obtain ⟨j6, j7⟩ := chain_end q _ _ hgq j4
   have j8 := chainT_le j5
   have j9 := chainT_le j4
   have hle1 : a1 ≤ c1 := by have := HLe.out; rw [hdc] at this; exact this
   have hle2 : c1 ≤ c2 := j2
   have HCn : Hid (chainT (preE (t.cuts.drop (k + 1)) t.e) t.e.1 (tilesM (t.kids.drop (k + 1)) (t.cuts.drop (k + 1))) ∧ q.bd.2 ≤ preE (t.cuts.drop (k + 1)) t.e) := by
    unfold Hid
    rw [← j7]
    cases hrk : t.kids.drop (k + 1) with
    | nil =>
     have hz : t.cuts.drop (k + 1) = [] := List.eq_nil_of_length_eq_zero (by have := congrArg List.length hrk; simp at this ⊢; have := hkE.out; omega)
     rw [hrk, hz, tilesM_nil] at j5
     rw [hz, tilesM_nil]
     exact ⟨rfl, j8⟩
    | cons q' r' =>
     cases hrc : t.cuts.drop (k + 1) with
     | nil =>
      have h1 := congrArg List.length hrk
      have h2 := congrArg List.length hrc
      have := hkE.out
      simp at h1 h2
      omega
     | cons c' r2 =>
      rw [hrk, hrc] at j5
      have j10 := j5
      rw [tilesM_cons] at j10
      have hpe : preE (c' :: r2) t.e = m2 := j10.1
      rw [hpe]
      exact ⟨j5, Nat.le_refl _⟩
   have HQn : Hid (numB n ++ putM t.bd.1 t.e t.kids t.cuts = ((acc ++ (numB (c1 - a1) ++ numB (c2 - c1))) ++ putT q) ++ putM q.bd.2 t.e (t.kids.drop (k + 1)) (t.cuts.drop (k + 1))) := by
    unfold Hid
    rw [HQ.out, hdk, hdc, putM_cons]
    simp only [List.append_assoc]
   have hcq : countK (t.kids.drop k) = countT q + countK (t.kids.drop (k + 1)) := by rw [hdk]; rfl
   have HLq := Lib.hid (putT_len q)
   have HPT := Lib.hid hih
   unfold PT at HPT
   have hc1e : c2 ≤ 1000000000 := by omega
   obtain ⟨m1, hm1⟩ : ∃ m1, m1 = c1 - a1 := ⟨_, rfl⟩
   have hsub : (c1 : Int) - (a1 : Int) = (m1 : Int) := by omega
   have hm1b : m1 ≤ 1000000000 := by omega
   have hwr : IntKind.i64.wrap (m1 : Int) = (m1 : Int) := IntWalk.i64_in _ (by omega)
   rw [← hm1] at HQn
   have hbg : wr.heap[g]? = w.heap[g]? := (HA.out.block (by omega) (fun e => by have := HVb.out _ e; have : g < base := hgS; omega)).trans (HBX.out.block g hg1)
   have hbc : wr.heap[gc]? = w.heap[gc]? := (HA.out.block (by omega) (fun e => by have := HVb.out _ e; have : gc < base := hgcS; omega)).trans (HBX.out.block gc hgc1)
   obtain ⟨x0, x1, x2, x3, x4, x5, x6, x7, x8⟩ := h9.block hbg
   have p5 := (part_cells (HPx.out _ _ HA.out)).2.2.2.2.2.1
   have HTr := Lib.hid htr
   have HBc := Lib.hid hbc
   have Y0 := Lib.hid y0
   have Y1 := Lib.hid y1
   have hzB : w.heap.size < wr.heap.size := by omega
   have hzG : gc < wr.heap.size := by omega
   clear hq hc hce hcxy hdk hdc hih hgq j1 j2 j3 j4 j5 j6 j7 htr h9 hbg hbc HCh HLe HQ hm1 y0 y1
   go_upto_region 6 with fail
   obtain ⟨W5, hW5⟩ : ∃ W5, W5 = wr.alloc (.cells #[.int .i64 (q.kind : Int), .int .i64 (q.hd.1 : Int), .int .i64 (q.hd.2 : Int), .int .i64 (q.bd.1 : Int), .int .i64 (q.bd.2 : Int), .slice qa qn qc, .slice qa2 qn2 qc2, .int .i64 (q.e.1 : Int), .int .i64 (q.e.2 : Int)] 31) := ⟨_, rfl⟩
   have hb5 : Below wr.heap.size wr W5 := by rw [hW5]; exact below_new _ _
   have hO5 : W5.heap[wr.heap.size]? = some (.cells #[.int .i64 (q.kind : Int), .int .i64 (q.hd.1 : Int), .int .i64 (q.hd.2 : Int), .int .i64 (q.bd.1 : Int), .int .i64 (q.bd.2 : Int), .slice qa qn qc, .slice qa2 qn2 qc2, .int .i64 (q.e.1 : Int), .int .i64 (q.e.2 : Int)] 31 (0, 0)) := by rw [hW5]; exact heap_alloc_new wr _
   have HzW5 : Hid (W5.heap.size = wr.heap.size + 1) := by unfold Hid; rw [hW5]; simp
   rw [← hW5]
   clear hW5 x0 x1 x2 x3 x4 x5 x6 x7 x8 p5
   have p6 := (part_cells ((hb5.block _ hzB).trans (HPx.out _ _ HA.out))).2.2.2.2.2.2.1
   have y0 := (World.cell?_of_block (a := ⟨gc, k * 2, none⟩) ((hb5.block gc hzG).trans HBc.out)).trans Y0.out
   have y1 := (World.cell?_of_block (a := ⟨gc, k * 2 + 1, none⟩) ((hb5.block gc hzG).trans HBc.out)).trans Y1.out
   have HB5 := Lib.hid hb5
   have HO5 := Lib.hid hO5
   clear hb5 hO5
   go_upto_region 7 with fail
   obtain ⟨K8, hK8⟩ : ∃ K8, K8 = W5.heap.size := ⟨_, rfl⟩
   obtain ⟨X7, hX7⟩ : ∃ X7, X7 = W5.alloc (.cells #[.int .i64 (c1 : Int), .int .i64 (c2 : Int)] 27) := ⟨_, rfl⟩
   have hb7 : Below W5.heap.size W5 X7 := by rw [hX7]; exact below_new _ _
   have hO7 : X7.heap[K8]? = some (.cells #[.int .i64 (c1 : Int), .int .i64 (c2 : Int)] 27 (0, 0)) := by rw [hX7, hK8]; exact heap_alloc_new W5 _
   have HzX7 : Hid (X7.heap.size = K8 + 1) := by unfold Hid; rw [hX7, hK8]; simp
   rw [← hX7, ← hK8]
   have hK9 : K8 = wr.heap.size + 1 := by have := HzW5.out; omega
   have HK9 := Lib.hid hK9
   have HB7 : Hid (Below wr.heap.size wr X7) := HB5.out.trans (hb7.mono HB5.out.size)
   have HO7 : Hid (X7.heap[wr.heap.size]? = some (.cells #[.int .i64 (q.kind : Int), .int .i64 (q.hd.1 : Int), .int .i64 (q.hd.2 : Int), .int .i64 (q.bd.1 : Int), .int .i64 (q.bd.2 : Int), .slice qa qn qc, .slice qa2 qn2 qc2, .int .i64 (q.e.1 : Int), .int .i64 (q.e.2 : Int)] 31 (0, 0))) := (hb7.block _ (by have := HzW5.out; omega)).trans HO5.out
   have HC7 := Lib.hid hO7
   have hK8l : K8 < X7.heap.size := by have := HzX7.out; omega
   have hd0 : Below X7.heap.size X7 X7.drew := (Below.refl _ _).drew
   have hS : ∀ W, Below X7.heap.size X7 W → (fun W' : World => W'.cell? ⟨K8, 0, none⟩ = some (.int .i64 (c1 : Int)) ∧ W'.cell? ⟨K8, 1, none⟩ = some (.int .i64 (c2 : Int))) W := fun W hb => by
    have o := (hb.block K8 hK8l).trans HC7.out
    exact ⟨(cells_of_heap2 o).1, (cells_of_heap2 o).2⟩
   have hS0 := hS _ hd0
   have HLo := Lib.hid (fun W => recLong_any c1 c2 W hle2 (by omega))
   have hRX : rowB base u0 (xs ++ acc) X7 := HR.out.below HB7.out
   have HRX := Lib.hid hRX
   have hu0l : ∀ q, u0.ownBlock = some q → base ≤ q ∧ q < wr.heap.size := HR.out.lt
   have HU0 := Lib.hid hu0l
   have hal : acc.length + 100 * countT q ≤ 10 + 100 * countK t.kids := by have := HLn.out; omega
   have HN2 : Hid (∀ (W : World), Below X7.heap.size X7 W → Calls Tryz.prog 17 #[u0, .slice (some ⟨W.heap.size, 0, none⟩) 2 2] (W.alloc (.cells #[.int .i64 (m1 : Int), .int .i64 ((c2 - c1 : Nat) : Int)] 3)) fun e w' => ∃ u, e = .returned u ∧ rowB base u ((xs ++ acc) ++ [m1, c2 - c1].flatMap numB) w' ∧ Ap u0 (W.alloc (.cells #[.int .i64 (m1 : Int), .int .i64 ((c2 - c1 : Nat) : Int)] 3)) u w') := (fun W (hb : Below X7.heap.size X7 W) => recAppendNumbers_any base u0 (xs ++ acc) W.heap.size 2 [m1, c2 - c1] (W.alloc (.cells #[.int .i64 (m1 : Int), .int .i64 ((c2 - c1 : Nat) : Int)] 3)) (by have := hb.size; simp; omega) ((HRX.out.below hb).below (below_new _ _)) (nums_new [m1, c2 - c1] rfl) (fun e => by have := HU0.out _ e; have := hb.size; omega) (fun q hq => by simp at hq; omega) (by rw [List.length_append]; simp; omega))
   clear hX7 hK8 hb7 hO7 y0 y1 p6 hK9 hRX hu0l
   refine wp_region_last (fun W' => W'.cell? ⟨K8, 0, none⟩ = some (.int .i64 (c1 : Int)) ∧ W'.cell? ⟨K8, 1, none⟩ = some (.int .i64 (c2 : Int))) 9 (by kernel_rfl) ?_
   refine wpAnyN_takeE (i := 0) rfl (by kernel_rfl) (by kernel_rfl) (by kernel_rfl) (by kernel_rfl) (fun _ _ _ _ h => h) rfl hS0 ?_
   apply Exists.intro
   refine ⟨fun w hSw => ?_, ?_⟩
   ·obtain ⟨_, _⟩ := hSw
    go_simp
    try rfl
   try simp only [Act.put]
   try simp only [List.setIfInBounds_toArray]
   try simp only [List.set_cons_succ]
   try simp only [List.set_cons_zero]
   refine wpAnyN_takeE (i := 1) rfl (by kernel_rfl) (by kernel_rfl) (by kernel_rfl) (by kernel_rfl) (fun _ _ _ _ h => h) rfl hS0 ?_
   apply Exists.intro
   refine ⟨fun w hSw => ?_, ?_⟩
   ·obtain ⟨_, _⟩ := hSw
    go_simp
    try rfl
   try simp only [Act.put]
   try simp only [List.setIfInBounds_toArray]
   try simp only [List.set_cons_succ]
   try simp only [List.set_cons_zero]
   refine wpAnyN_takeE (i := 2) rfl (by kernel_rfl) (by kernel_rfl) (by kernel_rfl) (by kernel_rfl) (fun _ _ _ _ h => h) rfl hS0 ?_
   apply Exists.intro
   refine ⟨fun w hSw => ?_, ?_⟩
   ·obtain ⟨_, _⟩ := hSw
    go_simp
    try rfl
   try simp only [Act.put]
   try simp only [List.setIfInBounds_toArray]
   try simp only [List.set_cons_succ]
   try simp only [List.set_cons_zero]
   refine wpAnyN_takeE (i := 3) rfl (by kernel_rfl) (by kernel_rfl) (by kernel_rfl) (by kernel_rfl) (fun _ _ _ _ h => h) rfl hS0 ?_
   apply Exists.intro
   refine ⟨fun w hSw => ?_, ?_⟩
   ·obtain ⟨_, _⟩ := hSw
    go_simp
    try rfl
   try simp only [Act.put]
   try simp only [List.setIfInBounds_toArray]
   try simp only [List.set_cons_succ]
   try simp only [List.set_cons_zero]
   refine wpAnyN_takeE (i := 4) rfl (by kernel_rfl) (by kernel_rfl) (by kernel_rfl) (by kernel_rfl) (fun _ _ _ _ h => h) rfl hS0 ?_
   apply Exists.intro
   refine ⟨fun w hSw => ?_, ?_⟩
   ·obtain ⟨_, _⟩ := hSw
    go_simp
    try rfl
   try simp only [Act.put]
   try simp only [List.setIfInBounds_toArray]
   try simp only [List.set_cons_succ]
   try simp only [List.set_cons_zero]
   refine wpAnyN_takeE (i := 5) rfl (by kernel_rfl) (by kernel_rfl) (by kernel_rfl) (by kernel_rfl) (fun _ _ _ _ h => h) rfl hS0 ?_
   apply Exists.intro
   refine ⟨fun w hSw => ?_, ?_⟩
   ·obtain ⟨_, _⟩ := hSw
    go_simp
    try rfl
   try simp only [Act.put]
   try simp only [List.setIfInBounds_toArray]
   try simp only [List.set_cons_succ]
   try simp only [List.set_cons_zero]
   refine wpAnyN_one (i := 6) (by kernel_rfl) rfl (fun K hK => ?_)
   go_simp
   go_at_call 42
   with_reducible refine (HLo.out _).mono ?_
   rintro e w8 ⟨rfl, hb8⟩
   replace hb8 := hd0.trans (hb8.mono hd0.size)
   dsimp only
   refine hK.out _ _ (fun _ => hS _ hb8) ?_
   clear hK K
   try simp only [Act.put]
   try simp only [List.setIfInBounds_toArray]
   try simp only [List.set_cons_succ]
   try simp only [List.set_cons_zero]
   refine wpAnyN_one (i := 7) (by kernel_rfl) rfl (fun K hK => ?_)
   go_simp
   refine hK.out _ _ (fun _ => hS _ (hb8.trans ((below_new w8 _).mono hb8.size))) ?_
   clear hK K
   try simp only [Act.put]
   try simp only [List.setIfInBounds_toArray]
   try simp only [List.set_cons_succ]
   try simp only [List.set_cons_zero]
   refine wpAnyN_one (i := 8) (by kernel_rfl) rfl (fun K hK => ?_)
   go_simp
   go_at_call 17
   with_reducible refine (HN2.out w8 hb8).mono ?_
   rintro e w9 ⟨u9, rfl, hr9, ha9⟩
   have hb8' := hb8.trans ((below_new w8 (.cells #[.int .i64 (m1 : Int), .int .i64 ((c2 - c1 : Nat) : Int)] 3)).mono hb8.size)
   have hk89 : ∀ q', q' < X7.heap.size → ¬ u0.ownBlock = some q' → w9.heap[q']? = X7.heap[q']? := fun q' h1 h2 => (ha9.block (Nat.lt_of_lt_of_le h1 hb8'.size) h2).trans (hb8'.block q' h1)
   have hS9 : (fun W' : World => W'.cell? ⟨K8, 0, none⟩ = some (.int .i64 (c1 : Int)) ∧ W'.cell? ⟨K8, 1, none⟩ = some (.int .i64 (c2 : Int))) w9 := by
    have o := (hk89 K8 hK8l (fun e => by have := HU0.out _ e; have := HK9.out; omega)).trans HC7.out
    exact ⟨(cells_of_heap2 o).1, (cells_of_heap2 o).2⟩
   have HP9 := Lib.hid ((hk89 wr.heap.size (by have := HK9.out; omega) (fun e => by have := HU0.out _ e; omega)).trans HO7.out)
   have HAp9 : Hid (Ap u0 X7 u9 w9) := (Ap.of_below hb8').trans ha9
   have HR9 := Lib.hid hr9
   clear hr9 ha9 hk89 hb8'
   dsimp only
   refine hK.out _ _ (fun _ => hS9) ?_
   clear hK K
   try simp only [Act.put]
   try simp only [List.setIfInBounds_toArray]
   try simp only [List.set_cons_succ]
   try simp only [List.set_cons_zero]
   refine wpAnyN_one (i := 9) (by kernel_rfl) rfl (fun K hK => ?_)
   clear hS9 hS0 hS hd0 hb8
   go_simp
   refine hK.out _ _ (fun hh => absurd rfl hh) ?_
   clear hK K
   try simp only [Act.put]
   try simp only [List.setIfInBounds_toArray]
   try simp only [List.set_cons_succ]
   try simp only [List.set_cons_zero]
   refine wpAnyN_done (by kernel_rfl) ?_ _
   obtain ⟨x0, x1, x2, x3, x4, x5, x6, x7, x8⟩ := nine_of_heap (HP9.out)
   have HA9 : Hid (Ap v X u9 w9) := (HA.out.trans (Ap.of_below HB7.out)).trans HAp9.out
   have HW9 : Hid (Ap v w u9 w9) := (Ap.of_below HBX.out).trans HA9.out
   have hlx : ((xs ++ acc) ++ [m1, c2 - c1].flatMap numB).length + 100 * countT q ≤ 1000000 := by
    have h1 := flat_num [m1, c2 - c1]
    simp only [List.length_append, List.length_cons, List.length_nil] at h1 ⊢
    omega
   have HPq := Lib.hid (HPT.out u9 _ w9 _ (Nat.le_trans hb HW9.out.grow.size) HR9.out (tree_ap HTr.out HVb.out HW9.out) hlx)
   unfold putPost at HPq
   clear hlx
   go_wp2_with fail
   with_reducible refine HPq.out.mono ?_
   rintro e w10 ⟨u10, rfl, hr10, ha10⟩
   have HP10 := Lib.hid ((ha10.block (by have := HP9.out; exact (Array.getElem?_eq_some_iff.1 this).1) (fun e => by
    rcases HAp9.out.lie _ e with h | h
    ·have := HU0.out _ h; omega
    ·have := HK9.out; have := HzX7.out; omega)).trans HP9.out)
   have HR10 := Lib.hid hr10
   have HA10 := Lib.hid (HA9.out.trans ha10)
   clear x0 x1 x2 x3 x4 x5 x6 x7 x8 hr10 ha10
   obtain ⟨x0, x1, x2, x3, x4, x5, x6, x7, x8⟩ := nine_of_heap (HP10.out)
   have HT := Lib.hid (fun W => tbytes_any q.kind q.hd.1 q.hd.2 q.bd.1 q.bd.2 q.e.1 q.e.2 qa qa2 qn qc qn2 qc2 W)
   have kf := span_to (q.hd.1 : Int) (q.bd.2 : Int)
   go_wp2_with fail
   with_reducible refine (HT.out _).mono ?_
   rintro e w11 ⟨rfl, hb11⟩
   have HR11 := Lib.hid (HR10.out.below hb11)
   have HA11 := Lib.hid (HA10.out.below hb11)
   clear hb11 x0 x1 x2 x3 x4 x5 x6 x7 x8
   go_wp2_with fail
   go_roundg (n - (k + 1))
   case measure => omega
   case rel => exact ⟨k + 1, q.bd.2, (acc ++ (numB m1 ++ numB (c2 - c1))) ++ putT q, by omega, rfl, rfl, by go_num, by have := HR11.out; simpa [List.append_assoc, Hid] using this, HA11.out, HQn.out, HCn.out.1, HCn.out.2, by
    have h1 := numB_len m1
    have h2 := numB_len (c2 - c1)
    have h3 := HLq.out
    have h4 := HLn.out
    unfold Hid
    simp only [List.length_append]
    omega⟩
  ·obtain rfl : k = n := by omega
   have hdz : t.kids.drop k = [] := List.drop_eq_nil_of_le (by have := hkE.out.1; omega)
   have hdc : t.cuts.drop k = [] := List.drop_eq_nil_of_le (by have := hkE.out.2; omega)
   have hle : a1 ≤ t.e.1 := by have := HLe.out; rw [hdc] at this; exact this
   obtain ⟨m1, hm1⟩ : ∃ m1, m1 = t.e.1 - a1 := ⟨_, rfl⟩
   have hsub : (t.e.1 : Int) - (a1 : Int) = (m1 : Int) := by omega
   have hm1b : m1 ≤ 1000000000 := by omega
   have hwr : IntKind.i64.wrap (m1 : Int) = (m1 : Int) := IntWalk.i64_in _ (by omega)
   have HQe : Hid (numB k ++ putM t.bd.1 t.e t.kids t.cuts = acc ++ (numB m1 ++ numB (t.e.2 - t.e.1))) := by
    unfold Hid
    rw [HQ.out, hdz, hdc, putM_nil, hm1]
   have hal : acc.length ≤ 10 + 100 * countK t.kids := by have := HLn.out; omega
   have hd0 : Below wr.heap.size wr wr.drew := (Below.refl _ _).drew
   have hzB : w.heap.size < wr.heap.size := by omega
   have hS : ∀ W, Below wr.heap.size wr W → (fun W' : World => W'.cell? ⟨w.heap.size, 7, none⟩ = some (.int .i64 (t.e.1 : Int)) ∧ W'.cell? ⟨w.heap.size, 8, none⟩ = some (.int .i64 (t.e.2 : Int))) W := fun W hb => by
    obtain ⟨_, _, _, _, _, _, _, p7, p8⟩ := part_cells ((hb.block _ hzB).trans (HPx.out _ _ HA.out))
    exact ⟨p7, p8⟩
   have hS0 := hS _ hd0
   have HLo := Lib.hid (fun W => recLong_any t.e.1 t.e.2 W g6 (by omega))
   have hu0l : ∀ q, u0.ownBlock = some q → base ≤ q ∧ q < wr.heap.size := HR.out.lt
   have HU0 := Lib.hid hu0l
   have hub : ∀ q, u0.ownBlock = some q → v.ownBlock = some q ∨ X.heap.size ≤ q := HA.out.lie
   have HN2 : Hid (∀ (W : World), Below wr.heap.size wr W → Calls Tryz.prog 17 #[u0, .slice (some ⟨W.heap.size, 0, none⟩) 2 2] (W.alloc (.cells #[.int .i64 (m1 : Int), .int .i64 ((t.e.2 - t.e.1 : Nat) : Int)] 3)) fun e w' => ∃ u, e = .returned u ∧ rowB base u ((xs ++ acc) ++ [m1, t.e.2 - t.e.1].flatMap numB) w' ∧ Ap u0 (W.alloc (.cells #[.int .i64 (m1 : Int), .int .i64 ((t.e.2 - t.e.1 : Nat) : Int)] 3)) u w') := (fun W (hb : Below wr.heap.size wr W) => recAppendNumbers_any base u0 (xs ++ acc) W.heap.size 2 [m1, t.e.2 - t.e.1] (W.alloc (.cells #[.int .i64 (m1 : Int), .int .i64 ((t.e.2 - t.e.1 : Nat) : Int)] 3)) (by have := hb.size; simp; omega) ((HR.out.below hb).below (below_new _ _)) (nums_new [m1, t.e.2 - t.e.1] rfl) (fun e => by have := HU0.out _ e; have := hb.size; omega) (fun q hq => by simp at hq; omega) (by rw [List.length_append]; simp; omega))
   clear hdz hdc hm1 HLe HCh HQ hu0l
   go_wp2_with fail
   refine wp_region_last (fun W' => W'.cell? ⟨w.heap.size, 7, none⟩ = some (.int .i64 (t.e.1 : Int)) ∧ W'.cell? ⟨w.heap.size, 8, none⟩ = some (.int .i64 (t.e.2 : Int))) 11 (by kernel_rfl) ?_
   refine wpAnyN_takeE (i := 0) rfl (by kernel_rfl) (by kernel_rfl) (by kernel_rfl) (by kernel_rfl) (fun _ _ _ _ h => h) rfl hS0 ?_
   apply Exists.intro
   refine ⟨fun w hSw => ?_, ?_⟩
   ·obtain ⟨_, _⟩ := hSw
    go_simp
    try rfl
   try simp only [Act.put]
   try simp only [List.setIfInBounds_toArray]
   try simp only [List.set_cons_succ]
   try simp only [List.set_cons_zero]
   refine wpAnyN_takeE (i := 1) rfl (by kernel_rfl) (by kernel_rfl) (by kernel_rfl) (by kernel_rfl) (fun _ _ _ _ h => h) rfl hS0 ?_
   apply Exists.intro
   refine ⟨fun w hSw => ?_, ?_⟩
   ·obtain ⟨_, _⟩ := hSw
    go_simp
    try rfl
   try simp only [Act.put]
   try simp only [List.setIfInBounds_toArray]
   try simp only [List.set_cons_succ]
   try simp only [List.set_cons_zero]
   refine wpAnyN_takeE (i := 2) rfl (by kernel_rfl) (by kernel_rfl) (by kernel_rfl) (by kernel_rfl) (fun _ _ _ _ h => h) rfl hS0 ?_
   apply Exists.intro
   refine ⟨fun w hSw => ?_, ?_⟩
   ·obtain ⟨_, _⟩ := hSw
    go_simp
    try rfl
   try simp only [Act.put]
   try simp only [List.setIfInBounds_toArray]
   try simp only [List.set_cons_succ]
   try simp only [List.set_cons_zero]
   refine wpAnyN_takeE (i := 3) rfl (by kernel_rfl) (by kernel_rfl) (by kernel_rfl) (by kernel_rfl) (fun _ _ _ _ h => h) rfl hS0 ?_
   apply Exists.intro
   refine ⟨fun w hSw => ?_, ?_⟩
   ·obtain ⟨_, _⟩ := hSw
    go_simp
    try rfl
   try simp only [Act.put]
   try simp only [List.setIfInBounds_toArray]
   try simp only [List.set_cons_succ]
   try simp only [List.set_cons_zero]
   refine wpAnyN_takeE (i := 4) rfl (by kernel_rfl) (by kernel_rfl) (by kernel_rfl) (by kernel_rfl) (fun _ _ _ _ h => h) rfl hS0 ?_
   apply Exists.intro
   refine ⟨fun w hSw => ?_, ?_⟩
   ·obtain ⟨_, _⟩ := hSw
    go_simp
    try rfl
   try simp only [Act.put]
   try simp only [List.setIfInBounds_toArray]
   try simp only [List.set_cons_succ]
   try simp only [List.set_cons_zero]
   refine wpAnyN_takeE (i := 5) rfl (by kernel_rfl) (by kernel_rfl) (by kernel_rfl) (by kernel_rfl) (fun _ _ _ _ h => h) rfl hS0 ?_
   apply Exists.intro
   refine ⟨fun w hSw => ?_, ?_⟩
   ·obtain ⟨_, _⟩ := hSw
    go_simp
    try rfl
   try simp only [Act.put]
   try simp only [List.setIfInBounds_toArray]
   try simp only [List.set_cons_succ]
   try simp only [List.set_cons_zero]
   refine wpAnyN_takeE (i := 6) rfl (by kernel_rfl) (by kernel_rfl) (by kernel_rfl) (by kernel_rfl) (fun _ _ _ _ h => h) rfl hS0 ?_
   apply Exists.intro
   refine ⟨fun w hSw => ?_, ?_⟩
   ·obtain ⟨_, _⟩ := hSw
    go_simp
    try rfl
   try simp only [Act.put]
   try simp only [List.setIfInBounds_toArray]
   try simp only [List.set_cons_succ]
   try simp only [List.set_cons_zero]
   refine wpAnyN_takeE (i := 7) rfl (by kernel_rfl) (by kernel_rfl) (by kernel_rfl) (by kernel_rfl) (fun _ _ _ _ h => h) rfl hS0 ?_
   apply Exists.intro
   refine ⟨fun w hSw => ?_, ?_⟩
   ·obtain ⟨_, _⟩ := hSw
    go_simp
    try rfl
   try simp only [Act.put]
   try simp only [List.setIfInBounds_toArray]
   try simp only [List.set_cons_succ]
   try simp only [List.set_cons_zero]
   refine wpAnyN_one (i := 8) (by kernel_rfl) rfl (fun K hK => ?_)
   go_simp
   go_at_call 42
   with_reducible refine (HLo.out _).mono ?_
   rintro e w8 ⟨rfl, hb8⟩
   replace hb8 := hd0.trans (hb8.mono hd0.size)
   dsimp only
   refine hK.out _ _ (fun _ => hS _ hb8) ?_
   clear hK K
   try simp only [Act.put]
   try simp only [List.setIfInBounds_toArray]
   try simp only [List.set_cons_succ]
   try simp only [List.set_cons_zero]
   refine wpAnyN_one (i := 9) (by kernel_rfl) rfl (fun K hK => ?_)
   go_simp
   refine hK.out _ _ (fun _ => hS _ (hb8.trans ((below_new w8 _).mono hb8.size))) ?_
   clear hK K
   try simp only [Act.put]
   try simp only [List.setIfInBounds_toArray]
   try simp only [List.set_cons_succ]
   try simp only [List.set_cons_zero]
   refine wpAnyN_one (i := 10) (by kernel_rfl) rfl (fun K hK => ?_)
   go_simp
   go_at_call 17
   with_reducible refine (HN2.out w8 hb8).mono ?_
   rintro e w9 ⟨u9, rfl, hr9, ha9⟩
   have hb8' := hb8.trans ((below_new w8 (.cells #[.int .i64 (m1 : Int), .int .i64 ((t.e.2 - t.e.1 : Nat) : Int)] 3)).mono hb8.size)
   have hA9 : Ap v X u9 w9 := HA.out.trans ((Ap.of_below hb8').trans ha9)
   have hS9 : (fun W' : World => W'.cell? ⟨w.heap.size, 7, none⟩ = some (.int .i64 (t.e.1 : Int)) ∧ W'.cell? ⟨w.heap.size, 8, none⟩ = some (.int .i64 (t.e.2 : Int))) w9 := by
    obtain ⟨_, _, _, _, _, _, _, p7, p8⟩ := part_cells (HPx.out _ _ hA9)
    exact ⟨p7, p8⟩
   have HA9 := Lib.hid hA9
   have HR9 := Lib.hid hr9
   clear hr9 ha9 hb8' hA9
   dsimp only
   refine hK.out _ _ (fun _ => hS9) ?_
   clear hK K
   try simp only [Act.put]
   try simp only [List.setIfInBounds_toArray]
   try simp only [List.set_cons_succ]
   try simp only [List.set_cons_zero]
   refine wpAnyN_one (i := 11) (by kernel_rfl) rfl (fun K hK => ?_)
   clear hS9 hS0 hS hd0 hb8
   go_simp
   refine hK.out _ _ (fun hh => absurd rfl hh) ?_
   clear hK K
   try simp only [Act.put]
   try simp only [List.setIfInBounds_toArray]
   try simp only [List.set_cons_succ]
   try simp only [List.set_cons_zero]
   refine wpAnyN_done (by kernel_rfl) ?_ _
   go_wp2_with fail
   go_ret
   refine ⟨u9, rfl, ?_, (Ap.of_below HBX.out).trans HA9.out⟩
   have := HR9.out
   rw [HQe.out]
   simpa [List.append_assoc] using this
set_option maxRecDepth 100000 in
set_option maxHeartbeats 16000000 in
theorem appendTree_step (base : Nat) (t : Tr) (hg : goodT t) (bE : Nat) (hch : chainT t.hd.1 bE (tilesT t)) (hbE : bE ≤ 1000000000) (ih : ∀ i, (h : i < t.kids.length) → PT base t.kids[i]) : PT base t := by
 intro v xs w u hb hrow hu hlen
 obtain ⟨ka, kn, kc, ca, cn, cc, us, rfl, hcu, ho, hkd⟩ := treeAt_open hu
 obtain ⟨hkn, _, hkm, hkat⟩ := kids_at ho hkd
 obtain ⟨f1, f2, f3⟩ := (goodT_open hg).1
 obtain ⟨e1, e2⟩ := chain_end t _ _ hg hch
 have hch2 := hch
 rw [tilesT_eq] at hch2
 have hh : t.hd.1 ≤ t.hd.2 := hch2.2.1
 have hbd : t.bd.2 ≤ 1000000000 := by omega
 have hkl : t.kind ≤ 2 := by rcases f3 with ⟨h, _⟩ | ⟨h, _⟩ | ⟨h, _⟩ <;> omega
 have hcT : countT t = 1 + countK t.kids := countT_eq t
 obtain ⟨X, hX⟩ : ∃ X, X = w.alloc (.cells #[.int .i64 (t.kind : Int), .int .i64 (t.hd.1 : Int), .int .i64 (t.hd.2 : Int), .int .i64 (t.bd.1 : Int), .int .i64 (t.bd.2 : Int), .slice ka kn kc, .slice ca cn cc, .int .i64 (t.e.1 : Int), .int .i64 (t.e.2 : Int)] 31) := ⟨_, rfl⟩
 have hBX : Below w.heap.size w X := by rw [hX]; exact (Below.refl _ _).alloc (Nat.le_refl _) _
 have HOX : Hid (X.heap[w.heap.size]? = some (.cells #[.int .i64 (t.kind : Int), .int .i64 (t.hd.1 : Int), .int .i64 (t.hd.2 : Int), .int .i64 (t.bd.1 : Int), .int .i64 (t.bd.2 : Int), .slice ka kn kc, .slice ca cn cc, .int .i64 (t.e.1 : Int), .int .i64 (t.e.2 : Int)] 31 (0, 0))) := by rw [hX]; exact heap_alloc_new w _
 have HzX : Hid (X.heap.size = w.heap.size + 1) := by unfold Hid; rw [hX]; simp
 have hvb := own_ge hrow
 have hvl : ∀ q, v.ownBlock = some q → q < w.heap.size := fun q hq => (hrow.lt q hq).2
 have hzX : w.heap.size < X.heap.size := by have := HzX.out; omega
 have hd0 : Below X.heap.size X X.drew := (Below.refl _ _).drew
 have hS : ∀ W, Below X.heap.size X W → (fun W' : World => W'.cell? ⟨w.heap.size, 0, none⟩ = some (.int .i64 (t.kind : Int)) ∧ W'.cell? ⟨w.heap.size, 1, none⟩ = some (.int .i64 (t.hd.1 : Int)) ∧ W'.cell? ⟨w.heap.size, 2, none⟩ = some (.int .i64 (t.hd.2 : Int)) ∧ W'.cell? ⟨w.heap.size, 3, none⟩ = some (.int .i64 (t.bd.1 : Int)) ∧ W'.cell? ⟨w.heap.size, 4, none⟩ = some (.int .i64 (t.bd.2 : Int))) W := fun W hb => by
  obtain ⟨p0, p1, p2, p3, p4, _⟩ := nine_of_heap ((hb.block _ hzX).trans HOX.out)
  exact ⟨p0, p1, p2, p3, p4⟩
 have hS0 := hS _ hd0
 have HL1 := Lib.hid (fun W => recLong_any t.hd.1 t.hd.2 W hh (by omega))
 have HL2 := Lib.hid (fun W => recLong_any t.bd.1 t.bd.2 W f2 (by omega))
 have HN2 : Hid (∀ (W : World), Below X.heap.size X W → Calls Tryz.prog 17 #[v, .slice (some ⟨W.heap.size, 0, none⟩) 3 3] (W.alloc (.cells #[.int .i64 (t.kind : Int), .int .i64 ((t.hd.2 - t.hd.1 : Nat) : Int), .int .i64 ((t.bd.2 - t.bd.1 : Nat) : Int)] 3)) fun e w' => ∃ u, e = .returned u ∧ rowB base u (xs ++ [t.kind, t.hd.2 - t.hd.1, t.bd.2 - t.bd.1].flatMap numB) w' ∧ Ap v (W.alloc (.cells #[.int .i64 (t.kind : Int), .int .i64 ((t.hd.2 - t.hd.1 : Nat) : Int), .int .i64 ((t.bd.2 - t.bd.1 : Nat) : Int)] 3)) u w') :=
  (fun W (hb' : Below X.heap.size X W) => recAppendNumbers_any base v xs W.heap.size 3 [t.kind, t.hd.2 - t.hd.1, t.bd.2 - t.bd.1] (W.alloc (.cells #[.int .i64 (t.kind : Int), .int .i64 ((t.hd.2 - t.hd.1 : Nat) : Int), .int .i64 ((t.bd.2 - t.bd.1 : Nat) : Int)] 3)) (by have := hb'.size; simp; omega) (((hrow.below hBX).below hb').below (below_new _ _)) (nums_new [t.kind, t.hd.2 - t.hd.1, t.bd.2 - t.bd.1] rfl) (fun e => by have := hvl _ e; have := hb'.size; omega) (fun q hq => by simp at hq; omega) (by simp; omega))
 have HPx : Hid (∀ u W, Ap v X u W → W.heap[w.heap.size]? = some (.cells #[.int .i64 (t.kind : Int), .int .i64 (t.hd.1 : Int), .int .i64 (t.hd.2 : Int), .int .i64 (t.bd.1 : Int), .int .i64 (t.bd.2 : Int), .slice ka kn kc, .slice ca cn cc, .int .i64 (t.e.1 : Int), .int .i64 (t.e.2 : Int)] 31 (0, 0))) := fun u W k => (k.block hzX (fun e => by have := hvl _ e; omega)).trans HOX.out
 have HPt : Hid (putT t = numB t.kind ++ (numB (t.hd.2 - t.hd.1) ++ (numB (t.bd.2 - t.bd.1) ++ (if t.kind = 1 then numB t.kids.length ++ putM t.bd.1 t.e t.kids t.cuts else if t.kind = 2 then putH t.kids else [])))) := putT_eq t
 have HU := Lib.hid hu
 have HIh := Lib.hid ih
 have HG := Lib.hid hg
 have HCh := Lib.hid hch
 have HK := Lib.hid hkat
 have HBX := Lib.hid hBX
 have HVb := Lib.hid hvb
 have F3 := Lib.hid f3
 have HCt := Lib.hid hcT
 have HKn := Lib.hid hkn
 clear f1 hrow hu hg hch hch2 ih hkat hBX hvb hvl f3 e1 e2 hcT hcu ho hkd hkn
 go_enter Tryz.func20, Tryz.ntmps20
 go_upto_region 1 with fail
 rw [← hX]
 clear hX
 refine wp_region_last (fun W' => W'.cell? ⟨w.heap.size, 0, none⟩ = some (.int .i64 (t.kind : Int)) ∧ W'.cell? ⟨w.heap.size, 1, none⟩ = some (.int .i64 (t.hd.1 : Int)) ∧ W'.cell? ⟨w.heap.size, 2, none⟩ = some (.int .i64 (t.hd.2 : Int)) ∧ W'.cell? ⟨w.heap.size, 3, none⟩ = some (.int .i64 (t.bd.1 : Int)) ∧ W'.cell? ⟨w.heap.size, 4, none⟩ = some (.int .i64 (t.bd.2 : Int))) 11 (by kernel_rfl) ?_
 refine wpAnyN_takeE (i := 0) rfl (by kernel_rfl) (by kernel_rfl) (by kernel_rfl) (by kernel_rfl) (fun _ _ _ _ h => h) rfl hS0 ?_
 apply Exists.intro
 refine ⟨fun w hSw => ?_, ?_⟩
 ·obtain ⟨_, _, _, _, _⟩ := hSw
  go_simp
  try rfl
 try simp only [Act.put]
 try simp only [List.setIfInBounds_toArray]
 try simp only [List.set_cons_succ]
 try simp only [List.set_cons_zero]
 refine wpAnyN_takeE (i := 1) rfl (by kernel_rfl) (by kernel_rfl) (by kernel_rfl) (by kernel_rfl) (fun _ _ _ _ h => h) rfl hS0 ?_
 apply Exists.intro
 refine ⟨fun w hSw => ?_, ?_⟩
 ·obtain ⟨_, _, _, _, _⟩ := hSw
  go_simp
  try rfl
 try simp only [Act.put]
 try simp only [List.setIfInBounds_toArray]
 try simp only [List.set_cons_succ]
 try simp only [List.set_cons_zero]
 refine wpAnyN_takeE (i := 2) rfl (by kernel_rfl) (by kernel_rfl) (by kernel_rfl) (by kernel_rfl) (fun _ _ _ _ h => h) rfl hS0 ?_
 apply Exists.intro
 refine ⟨fun w hSw => ?_, ?_⟩
 ·obtain ⟨_, _, _, _, _⟩ := hSw
  go_simp
  try rfl
 try simp only [Act.put]
 try simp only [List.setIfInBounds_toArray]
 try simp only [List.set_cons_succ]
 try simp only [List.set_cons_zero]
 refine wpAnyN_takeE (i := 3) rfl (by kernel_rfl) (by kernel_rfl) (by kernel_rfl) (by kernel_rfl) (fun _ _ _ _ h => h) rfl hS0 ?_
 apply Exists.intro
 refine ⟨fun w hSw => ?_, ?_⟩
 ·obtain ⟨_, _, _, _, _⟩ := hSw
  go_simp
  try rfl
 try simp only [Act.put]
 try simp only [List.setIfInBounds_toArray]
 try simp only [List.set_cons_succ]
 try simp only [List.set_cons_zero]
 refine wpAnyN_takeE (i := 4) rfl (by kernel_rfl) (by kernel_rfl) (by kernel_rfl) (by kernel_rfl) (fun _ _ _ _ h => h) rfl hS0 ?_
 apply Exists.intro
 refine ⟨fun w hSw => ?_, ?_⟩
 ·obtain ⟨_, _, _, _, _⟩ := hSw
  go_simp
  try rfl
 try simp only [Act.put]
 try simp only [List.setIfInBounds_toArray]
 try simp only [List.set_cons_succ]
 try simp only [List.set_cons_zero]
 refine wpAnyN_takeE (i := 6) rfl (by kernel_rfl) (by kernel_rfl) (by kernel_rfl) (by kernel_rfl) (fun _ _ _ _ h => h) rfl hS0 ?_
 apply Exists.intro
 refine ⟨fun w hSw => ?_, ?_⟩
 ·obtain ⟨_, _, _, _, _⟩ := hSw
  go_simp
  try rfl
 try simp only [Act.put]
 try simp only [List.setIfInBounds_toArray]
 try simp only [List.set_cons_succ]
 try simp only [List.set_cons_zero]
 refine wpAnyN_takeE (i := 7) rfl (by kernel_rfl) (by kernel_rfl) (by kernel_rfl) (by kernel_rfl) (fun _ _ _ _ h => h) rfl hS0 ?_
 apply Exists.intro
 refine ⟨fun w hSw => ?_, ?_⟩
 ·obtain ⟨_, _, _, _, _⟩ := hSw
  go_simp
  try rfl
 try simp only [Act.put]
 try simp only [List.setIfInBounds_toArray]
 try simp only [List.set_cons_succ]
 try simp only [List.set_cons_zero]
 refine wpAnyN_one (i := 5) (by kernel_rfl) rfl (fun K hK => ?_)
 go_simp
 go_at_call 42
 with_reducible refine (HL1.out _).mono ?_
 rintro e w8 ⟨rfl, hb8⟩
 replace hb8 := hd0.trans (hb8.mono hd0.size)
 dsimp only
 refine hK.out _ _ (fun _ => hS _ hb8) ?_
 clear hK K
 try simp only [Act.put]
 try simp only [List.setIfInBounds_toArray]
 try simp only [List.set_cons_succ]
 try simp only [List.set_cons_zero]
 refine wpAnyN_one (i := 8) (by kernel_rfl) rfl (fun K hK => ?_)
 go_simp
 go_at_call 42
 with_reducible refine (HL2.out _).mono ?_
 rintro e w9 ⟨rfl, hb9⟩
 replace hb9 := hb8.trans (hb9.mono hb8.size)
 dsimp only
 refine hK.out _ _ (fun _ => hS _ hb9) ?_
 clear hK K
 try simp only [Act.put]
 try simp only [List.setIfInBounds_toArray]
 try simp only [List.set_cons_succ]
 try simp only [List.set_cons_zero]
 refine wpAnyN_one (i := 9) (by kernel_rfl) rfl (fun K hK => ?_)
 go_simp
 refine hK.out _ _ (fun _ => hS _ (hb9.trans ((below_new w9 _).mono hb9.size))) ?_
 clear hK K
 try simp only [Act.put]
 try simp only [List.setIfInBounds_toArray]
 try simp only [List.set_cons_succ]
 try simp only [List.set_cons_zero]
 refine wpAnyN_one (i := 10) (by kernel_rfl) rfl (fun K hK => ?_)
 go_simp
 go_at_call 17
 with_reducible refine (HN2.out w9 hb9).mono ?_
 rintro e w10 ⟨u10, rfl, hr10, ha10⟩
 have hA10 : Ap v X u10 w10 := (Ap.of_below (hb9.trans ((below_new w9 (.cells #[.int .i64 (t.kind : Int), .int .i64 ((t.hd.2 - t.hd.1 : Nat) : Int), .int .i64 ((t.bd.2 - t.bd.1 : Nat) : Int)] 3)).mono hb9.size))).trans ha10
 have hS10 : (fun W' : World => W'.cell? ⟨w.heap.size, 0, none⟩ = some (.int .i64 (t.kind : Int)) ∧ W'.cell? ⟨w.heap.size, 1, none⟩ = some (.int .i64 (t.hd.1 : Int)) ∧ W'.cell? ⟨w.heap.size, 2, none⟩ = some (.int .i64 (t.hd.2 : Int)) ∧ W'.cell? ⟨w.heap.size, 3, none⟩ = some (.int .i64 (t.bd.1 : Int)) ∧ W'.cell? ⟨w.heap.size, 4, none⟩ = some (.int .i64 (t.bd.2 : Int))) w10 := by
  obtain ⟨p0, p1, p2, p3, p4, _⟩ := nine_of_heap (HPx.out _ _ hA10)
  exact ⟨p0, p1, p2, p3, p4⟩
 have HA10 := Lib.hid hA10
 have HR10 := Lib.hid hr10
 clear hr10 ha10 hA10
 dsimp only
 refine hK.out _ _ (fun _ => hS10) ?_
 clear hK K
 try simp only [Act.put]
 try simp only [List.setIfInBounds_toArray]
 try simp only [List.set_cons_succ]
 try simp only [List.set_cons_zero]
 refine wpAnyN_one (i := 11) (by kernel_rfl) rfl (fun K hK => ?_)
 clear hS10 hS0 hS hd0 hb8 hb9
 go_simp
 refine hK.out _ _ (fun hh => absurd rfl hh) ?_
 clear hK K
 try simp only [Act.put]
 try simp only [List.setIfInBounds_toArray]
 try simp only [List.set_cons_succ]
 try simp only [List.set_cons_zero]
 refine wpAnyN_done (by kernel_rfl) ?_ _
 have hfm : [t.kind, t.hd.2 - t.hd.1, t.bd.2 - t.bd.1].flatMap numB = numB t.kind ++ (numB (t.hd.2 - t.hd.1) ++ numB (t.bd.2 - t.bd.1)) := by simp
 have hfl : ([t.kind, t.hd.2 - t.hd.1, t.bd.2 - t.bd.1].flatMap numB).length ≤ 30 := flat_num [t.kind, t.hd.2 - t.hd.1, t.bd.2 - t.bd.1]
 have HFm := Lib.hid hfm
 have HFl := Lib.hid hfl
 have HW10 : Hid (Ap v w u10 w10) := (Ap.of_below HBX.out).trans HA10.out
 obtain ⟨p0, p1, p2, p3, p4, p5, p6, p7, p8⟩ := nine_of_heap (HPx.out _ _ HA10.out)
 clear hfm hfl HL1 HL2 HN2
 rcases F3.out with ⟨k0, k1, k2, k3⟩ | ⟨k0, k1, k2⟩ | ⟨k0, k1, k2, q, k3, k4, k5⟩
 ·have e1 : ((t.kind : Int) == 1) = false := beq_no (by omega)
  have e2 : ((t.kind : Int) == 2) = false := beq_no (by omega)
  have HE : Hid (putT t = numB t.kind ++ (numB (t.hd.2 - t.hd.1) ++ numB (t.bd.2 - t.bd.1))) := by unfold Hid; rw [HPt.out, if_neg (by omega), if_neg (by omega), List.append_nil]
  clear k0 k1 k2 k3
  go_wp2_with fail
  go_ret
  exact ⟨u10, rfl, by have := HR10.out; rw [HFm.out] at this; rw [HE.out]; exact this, HW10.out⟩
 ·have e1 : ((t.kind : Int) == 1) = true := beq_yes (by omega)
  have HE : Hid (putT t = numB t.kind ++ (numB (t.hd.2 - t.hd.1) ++ (numB (t.bd.2 - t.bd.1) ++ (numB t.kids.length ++ putM t.bd.1 t.e t.kids t.cuts)))) := by unfold Hid; rw [HPt.out, if_pos k0]
  have HM := Lib.hid (appendMulti_any base t HG.out bE HCh.out hbE k0 HIh.out u10 _ w10 (t.kind : Int) (t.hd.1 : Int) (t.hd.2 : Int) (t.bd.2 : Int) ka kn kc ca cn cc (Nat.le_trans hb HW10.out.grow.size) HR10.out (tree_ap HU.out HVb.out HW10.out) (by rw [List.length_append]; have := HFl.out; have := HCt.out; omega))
  unfold putPost at HM
  clear k0 k1 k2
  go_wp2_with fail
  with_reducible refine HM.out.mono ?_
  rintro e w11 ⟨u11, rfl, hr11, ha11⟩
  have HR11 := Lib.hid hr11
  have HA11 := Lib.hid (HW10.out.trans ha11)
  clear hr11 ha11
  go_wp2_with fail
  go_ret
  exact ⟨u11, rfl, by have := HR11.out; rw [HFm.out] at this; rw [HE.out]; simpa [List.append_assoc] using this, HA11.out⟩
 ·have e1 : ((t.kind : Int) == 1) = false := beq_no (by omega)
  have e2 : ((t.kind : Int) == 2) = true := beq_yes (by omega)
  have hlk : 0 < t.kids.length := by rw [k3]; simp
  obtain ⟨g, qa, qn, qc, qa2, qn2, qc2, rfl, hg1, hgS, h9, htr⟩ := HK.out 0 hlk
  have hih := HIh.out 0 hlk
  have hq0 : t.kids[0] = q := by simp [k3]
  rw [hq0] at h9 htr hih
  have HE : Hid (putT t = numB t.kind ++ (numB (t.hd.2 - t.hd.1) ++ (numB (t.bd.2 - t.bd.1) ++ putT q))) := by unfold Hid; rw [HPt.out, if_neg (by omega), if_pos k0, k3, putH_one]
  have hbg : w10.heap[g]? = w.heap[g]? := HW10.out.block hg1 (fun e => by have := HVb.out _ e; have : g < base := hgS; omega)
  obtain ⟨x0, x1, x2, x3, x4, x5, x6, x7, x8⟩ := h9.block hbg
  simp only [Nat.zero_mul, Nat.zero_add] at x0 x1 x2 x3 x4 x5 x6 x7 x8
  have hkn1 : kn = 1 := by rw [HKn.out, k3]; rfl
  subst hkn1
  have hcq : countT q ≤ countK t.kids := by rw [k3]; show countT q ≤ countT q + 0; omega
  unfold PT at hih
  have HQ := Lib.hid (hih u10 _ w10 _ (Nat.le_trans hb HW10.out.grow.size) HR10.out (tree_ap htr HVb.out HW10.out) (by rw [List.length_append]; have := HFl.out; have := HCt.out; omega))
  unfold putPost at HQ
  clear k0 k1 k2 k3 k4 k5 hih htr h9 hbg hq0 hlk
  go_wp2_with fail
  with_reducible refine HQ.out.mono ?_
  rintro e w11 ⟨u11, rfl, hr11, ha11⟩
  have HR11 := Lib.hid hr11
  have HA11 := Lib.hid (HW10.out.trans ha11)
  clear hr11 ha11
  go_wp2_with fail
  go_ret
  exact ⟨u11, rfl, by have := HR11.out; rw [HFm.out] at this; rw [HE.out]; simpa [List.append_assoc] using this, HA11.out⟩
theorem chainM_kid : ∀ {ks : List Tr} {cs : List Sp} {a b : Nat}, chainT a b (tilesM ks cs) → goodK ks → ks.length = cs.length → ∀ i, (h : i < ks.length) → ∃ m, chainT ks[i].hd.1 m (tilesT ks[i]) ∧ m ≤ b
 | [], _, _, _, _, _, _, i, h => by simp at h
 | t :: r, [], _, _, _, _, hl, _, _ => by cases hl
 | t :: r, c :: cs, a, b, hc, hg, hl, i, h => by
  rw [tilesM_cons] at hc
  obtain ⟨_, _, h3⟩ := hc
  obtain ⟨m, h4, h5⟩ := chainT_split h3
  unfold goodK at hg
  cases i with
  | zero =>
   have := (chain_end t _ _ hg.1 h4).1
   exact ⟨m, by simp only at h4; rw [this] at h4; exact h4, chainT_le h5⟩
  | succ i =>
   obtain ⟨m', h6, h7⟩ := chainM_kid h5 hg.2 (by simpa using hl) i (by simpa using h)
   exact ⟨m', by simpa using h6, h7⟩
theorem chain_kid {t : Tr} {b : Nat} (hg : goodT t) (hc : chainT t.hd.1 b (tilesT t)) (i : Nat) (h : i < t.kids.length) : goodT t.kids[i] ∧ ∃ m, chainT t.kids[i].hd.1 m (tilesT t.kids[i]) ∧ m ≤ b := by
 obtain ⟨hf, hk⟩ := goodT_open hg
 refine ⟨goodK_get hk i h, ?_⟩
 rw [tilesT_eq] at hc
 obtain ⟨_, _, h3⟩ := hc
 rcases hf.2.2 with ⟨_, k1, _⟩ | ⟨k0, _, k2⟩ | ⟨k0, _, _, q, k3, _, _⟩
 ·rw [k1] at h; simp at h
 ·rw [if_pos k0] at h3
  obtain ⟨_, _, h4⟩ := h3
  obtain ⟨m, h5, h6⟩ := chainT_split h4
  obtain ⟨m', h7, h8⟩ := chainM_kid h5 hk k2 i h
  exact ⟨m', h7, Nat.le_trans h8 (chainT_le h6)⟩
 ·rw [if_neg (by omega), if_pos k0, k3, tilesH_one] at h3
  have hi : i = 0 := by rw [k3] at h; simp at h; exact h
  subst hi
  have hq : t.kids[0] = q := by simp [k3]
  rw [hq]
  have hgq := goodK_get hk 0 h
  rw [hq] at hgq
  have := (chain_end q _ _ hgq h3).1
  rw [this] at h3
  exact ⟨b, h3, Nat.le_refl _⟩
theorem appendTree_any (base : Nat) (n : Nat) : ∀ (t : Tr), SizeOf.sizeOf t ≤ n → goodT t → ∀ bE, chainT t.hd.1 bE (tilesT t) → bE ≤ 1000000000 → PT base t := by
 induction n with
 | zero => intro t ht; cases t; rw [Tr.mk.sizeOf_spec] at ht; omega
 | succ n ih =>
  intro t ht hg bE hc hb
  refine appendTree_step base t hg bE hc hb fun i h => ?_
  obtain ⟨h1, m, h2, h3⟩ := chain_kid hg hc i h
  exact ih t.kids[i] (by have := size_kid (t := t) i h; omega) h1 m h2 (by omega)
end Go.Proofs.YtedminjnnhlknaaGreatDoor
