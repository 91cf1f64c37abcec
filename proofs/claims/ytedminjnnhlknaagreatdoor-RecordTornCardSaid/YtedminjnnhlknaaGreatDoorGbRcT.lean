/- Contracts of package record: a reader's tree. -/
import Derived.Test.YtedminjnnhlknaaGreatDoorGbRcF
import Derived.Test.YtedminjnnhlknaaGreatDoorGbRcR
namespace Go.Proofs.YtedminjnnhlknaaGreatDoor
open Go Go.RowKit
theorem treeP_at (d a : Nat) (s : List UInt8) : treeP (d + 1) a s = (atP 2 s).bind fun k s => (spanP a s).bind fun hd s => (spanP hd.2 s).bind fun bd s =>
  if k = 1 then (mulP (treeP d) hd.2 s).bind fun q s => .ok (.mk 1 hd bd q.1 q.2.1 q.2.2) s
  else if k = 2 then (treeP d hd.2 s).bind fun q s => .ok (.mk 2 hd bd [q] [] (0, 0)) s
  else .ok (leafT hd.1 hd.2 bd.2) s := by
 show (numP s).bind _ = _
 unfold atP
 cases numP s with
 | no e => rfl
 | ok k s1 =>
  show (if 2 < k then _ else _) = (if 2 < k then _ else _ : Rs Nat).bind _
  by_cases hk : 2 < k
  ·rw [if_pos hk, if_pos hk]; rfl
  ·rw [if_neg hk, if_neg hk, restP_eq]
   show _ = (spanP a s1).bind _
   unfold spanP
   cases numP s1 with
   | no e => rfl
   | ok h s2 =>
    show (numP s2).bind _ = ((numP s2).bind _).bind _
    cases numP s2 with
    | no e => rfl
    | ok b s3 => rfl
def treePre (R b off cap : Nat) (l : List UInt8) (w : World) (q : Rs Tr) (u ev : Value) (W : World) : Prop := match q with
 | .ok t r => ev = .nilIface ∧ treeAt (fun k => w.heap.size ≤ k ∧ k ≠ w.heap.size) W t u ∧ At W R b off cap l r
 | .no x => ∃ (z : Nat) (r : List UInt8), ev = fltV (z : Int) (x : Int) ∧ At W R b off cap l r
theorem tree_end {R b off cap : Nat} {l : List UInt8} {q : Rs Tr} {w W : World} {k0 a1 a2 a3 a4 : Int} {ka : Option Addr} {kn kc : Nat} {ca : Option Addr} {cn cc : Nat} {a7 a8 : Int} {ev : Value} (hR : R < w.heap.size) (hg : Gr R w W)
  (hp : treePre R b off cap l w q (.agg #[.int .i64 k0, .int .i64 a1, .int .i64 a2, .int .i64 a3, .int .i64 a4, .slice ka kn kc, .slice ca cn cc, .int .i64 a7, .int .i64 a8]) ev W) : recTreePost R b off cap l q w (.returned (.tuple #[.agg #[.int .i64 k0, .int .i64 a1, .int .i64 a2, .int .i64 a3, .int .i64 a4, .slice ka kn kc, .slice ca cn cc, .int .i64 a7, .int .i64 a8], ev])) (((((((((W.setCell ⟨w.heap.size, 0, none⟩ (.int .i64 k0)).setCell ⟨w.heap.size, 1, none⟩ (.int .i64 a1)).setCell ⟨w.heap.size, 2, none⟩ (.int .i64 a2)).setCell ⟨w.heap.size, 3, none⟩ (.int .i64 a3)).setCell ⟨w.heap.size, 4, none⟩ (.int .i64 a4)).setCell ⟨w.heap.size, 5, none⟩ (.slice ka kn kc)).setCell ⟨w.heap.size, 6, none⟩ (.slice ca cn cc)).setCell ⟨w.heap.size, 7, none⟩ (.int .i64 a7)).setCell ⟨w.heap.size, 8, none⟩ (.int .i64 a8)) := by
 refine ⟨gr_set9 hg (Nat.le_refl _), k0, a1, a2, a3, a4, ka, kn, kc, ca, cn, cc, a7, a8, ev, rfl, ?_⟩
 cases q with
 | no x =>
  obtain ⟨z, r, h1, h2⟩ := hp
  exact ⟨z, r, h1, h2.block (heap_set9 (by omega))⟩
 | ok t r =>
  obtain ⟨h1, h2, h3⟩ := hp
  exact ⟨h1, treeAt.keep (fun k hk _ => ⟨heap_set9 hk.2, hk.1⟩) _ _ h2, h3.block (heap_set9 (by omega))⟩
theorem gr_k3 {R B : Nat} {w W W' : World} (h : Gr R w W) (k : K3 R B none W W') (hB : w.heap.size ≤ B) : Gr R w W' :=
 ⟨k.os.trans h.os, k.tape.trans h.tape, k.output.trans h.output, Nat.le_trans h.size k.size, fun q hq h1 => (k.block q (Nat.lt_of_lt_of_le hq h.size) (fun e => h1 (by rw [e])) (by omega) (by intro e; cases e)).trans (h.block q hq h1)⟩
theorem spanP_bud {f : Nat} {s r : List UInt8} {v : Sp} (h : spanP f s = .ok v r) : v.2 + r.length * 1099511627776 ≤ f + s.length * 1099511627776 := by
 unfold spanP at h
 obtain ⟨n, r', h1, h2⟩ := bind_ok h
 have := (numP_bud h1).1
 cases h2
 simp only
 omega
set_option maxRecDepth 100000 in
set_option maxHeartbeats 16000000 in
theorem recTree_step (w0 : World) (R b off cap : Nat) (l : List UInt8) (hS : Src w0 R b off cap l) (d : Nat) (hd : d ≤ 33)
  (ih : ∀ d', d = d' + 1 → ∀ (f : Nat) (s : List UInt8) (w : World), f + s.length * 1099511627776 ≤ 576460752303423488 → Below w0.heap.size w0 w → At w R b off cap l s → Calls Tryz.prog 45 #[.pointer (some ⟨R, 0, none⟩), .int .i64 (f : Int), .int .i64 ((33 - d' : Nat) : Int)] w (recTreePost R b off cap l (treeP d' f s) w))
  (f : Nat) (s : List UInt8) (w : World) (hbud : f + s.length * 1099511627776 ≤ 576460752303423488) (hw : Below w0.heap.size w0 w) (hat : At w R b off cap l s) :
  Calls Tryz.prog 45 #[.pointer (some ⟨R, 0, none⟩), .int .i64 (f : Int), .int .i64 ((33 - d : Nat) : Int)] w (recTreePost R b off cap l (treeP d f s) w) := by
 have hRl := hat.lt
 have hR0 := hS.base
 obtain ⟨D, hD⟩ : ∃ D : Nat, D = 33 - d := ⟨_, rfl⟩
 rw [← hD]
 obtain ⟨X, hX⟩ : ∃ X, X = w.alloc (partO 0 0 0 0 0 (.slice none 0 0) (.slice none 0 0) 0 0) := ⟨_, rfl⟩
 have hBX : Below w.heap.size w X := by rw [hX]; exact (Below.refl _ _).alloc (Nat.le_refl _) _
 have HOX : Hid (X.heap[w.heap.size]? = some (partO 0 0 0 0 0 (.slice none 0 0) (.slice none 0 0) 0 0)) := by rw [hX]; exact heap_alloc_new w _
 have HzX : Hid (X.heap.size = w.heap.size + 1) := by unfold Hid; rw [hX]; simp
 have hGX : Gr R w X := gr_below' hBX
 have hAX := hat.below hBX
 have HW0 := Lib.hid hw
 have HSr := Lib.hid hS
 have HO : Hid (∀ W, Gr R X W → W.heap[w.heap.size]? = some (partO 0 0 0 0 0 (.slice none 0 0) (.slice none 0 0) 0 0)) := fun W hg => (hg.block w.heap.size (by have := HzX.out; omega) (by intro e; have := Option.some.inj e; omega)).trans HOX.out
 have HGX := Lib.hid hGX
 have HAX := Lib.hid hAX
 have HD := Lib.hid hD
 have HIh := Lib.hid ih
 unfold partO at hX
 clear hat hw hS hGX hAX hBX hD ih
 rcases Nat.eq_zero_or_pos d with hd0 | hd0
 ·subst hd0
  have hgt : (32 : Int) < (D : Int) := by have := HD.out; omega
  have hgd : decide ((32 : Int) < (D : Int)) = true := decide_eq_true hgt
  obtain ⟨k, hk, hm, hs⟩ := HAX.out
  have HF := Lib.hid (fault_any R _ k 11 X hm)
  have HO9 := HOX
  obtain ⟨c0, c1, c2, c3, c4, c5, c6, c7, c8⟩ := part_cells HO9.out
  obtain ⟨f0, f1, f2, f3, f4, f5, f6, f7, f8⟩ := part_frozen HO9.out
  clear hk hm hs
  go_enter Tryz.func45, Tryz.ntmps45
  go_wp2_with fail
  rw [← hX]
  clear hX
  with_reducible refine HF.out.mono ?_
  rintro e w1 ⟨rfl, rfl⟩
  unfold fltV
  go_wp2_with fail
  (try simp only [Exit.inBlock, Exit.then])
  have h9 := row_set9 (a0 := .int .i64 0) (a1 := .int .i64 0) (a2 := .int .i64 0) (a3 := .int .i64 0) (a4 := .int .i64 0) (a5 := .slice none 0 0) (a6 := .slice none 0 0) (a7 := .int .i64 0) (a8 := .int .i64 0) HO9.out
  obtain ⟨g0, g1, g2, g3, g4, g5, g6, g7, g8⟩ := part_cells (k := 0) (a := 0) (b := 0) (c := 0) (d := 0) (ks := .slice none 0 0) (cs := .slice none 0 0) (e := 0) (f := 0) h9
  refine bodyPost_ret (v := .tuple #[.agg #[.int .i64 0, .int .i64 0, .int .i64 0, .int .i64 0, .int .i64 0, .slice none 0 0, .slice none 0 0, .int .i64 0, .int .i64 0], .iface 117 (.agg #[.int .i64 (k : Int), .iface 32 (.int .i64 11)])]) (by simp [results, Tryz.results45, go_sem, g0, g1, g2, g3, g4, g5, g6, g7, g8]) rfl ?_
  exact tree_end hRl HGX.out ⟨k, s, rfl, HAX.out⟩
 ·obtain ⟨d', rfl⟩ : ∃ d', d = d' + 1 := ⟨d - 1, by omega⟩
  have hgt : ¬ (32 : Int) < (D : Int) := by have := HD.out; omega
  have hgd : decide ((32 : Int) < (D : Int)) = false := decide_eq_false hgt
  have HIh2 : Hid (∀ (f : Nat) (s : List UInt8) (w : World), f + s.length * 1099511627776 ≤ 576460752303423488 → Below w0.heap.size w0 w → At w R b off cap l s → Calls Tryz.prog 45 #[.pointer (some ⟨R, 0, none⟩), .int .i64 (f : Int), .int .i64 ((D : Int) + 1)] w (recTreePost R b off cap l (treeP d' f s) w)) := fun f s w h1 h2 h3 => by
   have := HIh.out d' rfl f s w h1 h2 h3
   rw [show ((33 - d' : Nat) : Int) = (D : Int) + 1 by have := HD.out; omega] at this
   exact this
  have hDr : 0 ≤ (D : Int) ∧ (D : Int) ≤ 100 := by have := HD.out; omega
  have HB0 : Hid (∀ W, Gr R X W → Below w0.heap.size w0 W) := fun W hg => below_base HW0.out hR0 (HGX.out.trans hg)
  have HAt := Lib.hid (recAtMost_any w0 R b off cap l HSr.out s X (HB0.out X (Gr.refl _ _)) HAX.out 2 (by decide))
  have h2 : ((2 : Nat) : Int) = 2 := rfl
  rw [h2] at HAt
  have HSp := Lib.hid (fun s' W (hW : Gr R X W) hat' f' (hf' : f' + s'.length * 1099511627776 ≤ 576460752303423488) => recSpan_any w0 R b off cap l HSr.out s' W (HB0.out W hW) hat' f' (by omega))
  have HQ : Hid (treeP (d' + 1) f s = (atP 2 s).bind fun k s => (spanP f s).bind fun hd s => (spanP hd.2 s).bind fun bd s =>
   if k = 1 then (mulP (treeP d') hd.2 s).bind fun q s => .ok (.mk 1 hd bd q.1 q.2.1 q.2.2) s
   else if k = 2 then (treeP d' hd.2 s).bind fun q s => .ok (.mk 2 hd bd [q] [] (0, 0)) s
   else .ok (leafT hd.1 hd.2 bd.2) s) := treeP_at d' f s
  obtain ⟨q, hq⟩ : ∃ q, q = treeP (d' + 1) f s := ⟨_, rfl⟩
  rw [← hq] at HQ ⊢
  clear hq h2 HIh
  unfold numPost at HAt
  unfold spanPost at HSp
  cases hn : atP 2 s with
  | no x =>
   rw [hn] at HAt HQ
   have HQ3 : Hid (q = .no x) := HQ.out
   clear hn HQ HSp
   go_enter Tryz.func45, Tryz.ntmps45
   go_wp2_with fail
   rw [← hX]
   clear hX
   with_reducible refine HAt.out.mono ?_
   rintro e w1 ⟨hg, z, r, rfl, ha⟩
   have HG := Lib.hid (HGX.out.trans hg)
   have HA := Lib.hid ha
   have HO1 := Lib.hid (HO.out w1 hg)
   have HO9 := Lib.hid (HO1.out)
   obtain ⟨c0, c1, c2, c3, c4, c5, c6, c7, c8⟩ := part_cells HO9.out
   obtain ⟨f0, f1, f2, f3, f4, f5, f6, f7, f8⟩ := part_frozen HO9.out
   clear hg ha
   unfold fltV
   go_wp2_with fail
   (try simp only [Exit.inBlock, Exit.then])
   have h9 := row_set9 (a0 := .int .i64 0) (a1 := .int .i64 0) (a2 := .int .i64 0) (a3 := .int .i64 0) (a4 := .int .i64 0) (a5 := .slice none 0 0) (a6 := .slice none 0 0) (a7 := .int .i64 0) (a8 := .int .i64 0) HO9.out
   obtain ⟨g0, g1, g2, g3, g4, g5, g6, g7, g8⟩ := part_cells (k := 0) (a := 0) (b := 0) (c := 0) (d := 0) (ks := .slice none 0 0) (cs := .slice none 0 0) (e := 0) (f := 0) h9
   refine bodyPost_ret (v := .tuple #[.agg #[.int .i64 0, .int .i64 0, .int .i64 0, .int .i64 0, .int .i64 0, .slice none 0 0, .slice none 0 0, .int .i64 0, .int .i64 0], .iface 117 (.agg #[.int .i64 (z : Int), .iface 32 (.int .i64 (x : Int))])]) (by simp [results, Tryz.results45, go_sem, g0, g1, g2, g3, g4, g5, g6, g7, g8]) rfl ?_
   rw [HQ3.out]
   exact tree_end hRl HG.out ⟨z, r, rfl, HA.out⟩
  | ok k s1 =>
   have hkb := atP_ok hn
   have hk2 : k ≤ 2 := hkb.1
   have hb1 : f + s1.length * 1099511627776 ≤ 576460752303423488 := Nat.le_trans (Nat.add_le_add_left (Nat.le_trans (Nat.le_add_left _ _) hkb.2) _) hbud
   rw [hn] at HAt HQ
   have HQ2 : Hid (q = (spanP f s1).bind fun hd s => (spanP hd.2 s).bind fun bd s =>
    if k = 1 then (mulP (treeP d') hd.2 s).bind fun q s => .ok (.mk 1 hd bd q.1 q.2.1 q.2.2) s
    else if k = 2 then (treeP d' hd.2 s).bind fun q s => .ok (.mk 2 hd bd [q] [] (0, 0)) s
    else .ok (leafT hd.1 hd.2 bd.2) s) := HQ.out
   clear hn HQ hkb hbud
   go_enter Tryz.func45, Tryz.ntmps45
   go_wp2_with fail
   rw [← hX]
   with_reducible refine HAt.out.mono ?_
   rintro e w1 ⟨hg1, rfl, ha1⟩
   have HS1 := Lib.hid (HSp.out s1 w1 hg1 ha1 f hb1)
   have HG1 := Lib.hid hg1
   clear hg1 ha1 HAt hX
   cases hs1 : spanP f s1 with
   | no x =>
    rw [hs1] at HS1 HQ2
    have HQ3 : Hid (q = .no x) := HQ2.out
    clear hs1 HQ2
    go_wp2_with fail
    with_reducible refine HS1.out.mono ?_
    rintro e w2 ⟨hg, z, r, u1, u2, rfl, ha⟩
    have hgX := gr_alloc (HG1.out.trans hg) (.cells #[.int .i64 u1, .int .i64 u2] 27)
    have haX := ha.below (below_new w2 (.cells #[.int .i64 u1, .int .i64 u2] 27))
    clear hg ha
    go_upto_region 7 with fail
    obtain ⟨X2, hX2⟩ : ∃ X2, X2 = w2.alloc (.cells #[.int .i64 u1, .int .i64 u2] 27) := ⟨_, rfl⟩
    rw [← hX2] at hgX haX ⊢
    have HG := Lib.hid (HGX.out.trans hgX)
    have HA := Lib.hid haX
    have HO9 := Lib.hid (HO.out X2 hgX)
    obtain ⟨c0, c1, c2, c3, c4, c5, c6, c7, c8⟩ := part_cells HO9.out
    obtain ⟨f0, f1, f2, f3, f4, f5, f6, f7, f8⟩ := part_frozen HO9.out
    clear hX2 hgX haX
    unfold fltV
    go_wp2_with fail
    (try simp only [Exit.inBlock, Exit.then])
    have h9 := row_set9 (a0 := .int .i64 0) (a1 := .int .i64 0) (a2 := .int .i64 0) (a3 := .int .i64 0) (a4 := .int .i64 0) (a5 := .slice none 0 0) (a6 := .slice none 0 0) (a7 := .int .i64 0) (a8 := .int .i64 0) HO9.out
    obtain ⟨g0, g1, g2, g3, g4, g5, g6, g7, g8⟩ := part_cells (k := 0) (a := 0) (b := 0) (c := 0) (d := 0) (ks := .slice none 0 0) (cs := .slice none 0 0) (e := 0) (f := 0) h9
    refine bodyPost_ret (v := .tuple #[.agg #[.int .i64 0, .int .i64 0, .int .i64 0, .int .i64 0, .int .i64 0, .slice none 0 0, .slice none 0 0, .int .i64 0, .int .i64 0], .iface 117 (.agg #[.int .i64 (z : Int), .iface 32 (.int .i64 (x : Int))])]) (by simp [results, Tryz.results45, go_sem, g0, g1, g2, g3, g4, g5, g6, g7, g8]) rfl ?_
    rw [HQ3.out]
    exact tree_end hRl HG.out ⟨z, r, rfl, HA.out⟩
   | ok hd s2 =>
    have hhd := spanP_ok hs1
    have hbd2 := spanP_bud hs1
    rw [hs1] at HS1 HQ2
    obtain ⟨hd1, hd2⟩ := hd
    simp only at HS1 hhd hbd2
    obtain ⟨e1, hh1, _⟩ := hhd
    subst e1
    have hb2 : hd2 + s2.length * 1099511627776 ≤ 576460752303423488 := Nat.le_trans hbd2 hb1
    clear hs1
    go_wp2_with fail
    with_reducible refine HS1.out.mono ?_
    rintro e w2 ⟨hg, rfl, ha⟩
    have hgX := gr_alloc (HG1.out.trans hg) (.cells #[.int .i64 (hd1 : Int), .int .i64 (hd2 : Int)] 27)
    have haX := ha.below (below_new w2 (.cells #[.int .i64 (hd1 : Int), .int .i64 (hd2 : Int)] 27))
    have hz2 := (HG1.out.trans hg).size
    clear hg ha HS1
    go_upto_region 7 with fail
    obtain ⟨X2, hX2⟩ : ∃ X2, X2 = w2.alloc (.cells #[.int .i64 (hd1 : Int), .int .i64 (hd2 : Int)] 27) := ⟨_, rfl⟩
    have HO2 : Hid (X2.heap[w2.heap.size]? = some (.cells #[.int .i64 (hd1 : Int), .int .i64 (hd2 : Int)] 27 (0, 0))) := by rw [hX2]; exact heap_alloc_new w2 _
    have HzX2 : Hid (X2.heap.size = w2.heap.size + 1) := by unfold Hid; rw [hX2]; simp
    rw [← hX2] at hgX haX ⊢
    have HS2 := Lib.hid (HSp.out s2 X2 hgX haX hd2 hb2)
    have HG2 := Lib.hid hgX
    obtain ⟨d0, d1⟩ := cells_of_heap2 HO2.out
    clear hX2 hgX haX
    cases hs2 : spanP hd2 s2 with
    | no x =>
     rw [hs2] at HS2
     have HQ3 : Hid (q = .no x) := by unfold Hid; rw [HQ2.out]; show (spanP hd2 s2).bind _ = _; rw [hs2]; rfl
     clear hs2 HQ2
     go_wp2_with fail
     with_reducible refine HS2.out.mono ?_
     rintro e w3 ⟨hg, z, r, u1, u2, rfl, ha⟩
     have hgX := gr_alloc (HG2.out.trans hg) (.cells #[.int .i64 u1, .int .i64 u2] 27)
     have haX := ha.below (below_new w3 (.cells #[.int .i64 u1, .int .i64 u2] 27))
     clear hg ha
     go_upto_region 10 with fail
     obtain ⟨X3, hX3⟩ : ∃ X3, X3 = w3.alloc (.cells #[.int .i64 u1, .int .i64 u2] 27) := ⟨_, rfl⟩
     rw [← hX3] at hgX haX ⊢
     have HG := Lib.hid (HGX.out.trans hgX)
     have HA := Lib.hid haX
     have HO9 := Lib.hid (HO.out X3 hgX)
     obtain ⟨c0, c1, c2, c3, c4, c5, c6, c7, c8⟩ := part_cells HO9.out
     obtain ⟨f0, f1, f2, f3, f4, f5, f6, f7, f8⟩ := part_frozen HO9.out
     clear hX3 hgX haX
     unfold fltV
     go_wp2_with fail
     (try simp only [Exit.inBlock, Exit.then])
     have h9 := row_set9 (a0 := .int .i64 0) (a1 := .int .i64 0) (a2 := .int .i64 0) (a3 := .int .i64 0) (a4 := .int .i64 0) (a5 := .slice none 0 0) (a6 := .slice none 0 0) (a7 := .int .i64 0) (a8 := .int .i64 0) HO9.out
     obtain ⟨g0, g1, g2, g3, g4, g5, g6, g7, g8⟩ := part_cells (k := 0) (a := 0) (b := 0) (c := 0) (d := 0) (ks := .slice none 0 0) (cs := .slice none 0 0) (e := 0) (f := 0) h9
     refine bodyPost_ret (v := .tuple #[.agg #[.int .i64 0, .int .i64 0, .int .i64 0, .int .i64 0, .int .i64 0, .slice none 0 0, .slice none 0 0, .int .i64 0, .int .i64 0], .iface 117 (.agg #[.int .i64 (z : Int), .iface 32 (.int .i64 (x : Int))])]) (by simp [results, Tryz.results45, go_sem, g0, g1, g2, g3, g4, g5, g6, g7, g8]) rfl ?_
     rw [HQ3.out]
     exact tree_end hRl HG.out ⟨z, r, rfl, HA.out⟩
    | ok bd s3 =>
     have hhb := spanP_ok hs2
     have hbd3 := spanP_bud hs2
     obtain ⟨b1, b2⟩ := bd
     simp only at hhb hbd3
     obtain ⟨e1, hh2, _⟩ := hhb
     subst e1
     have hb3 : b1 + s3.length * 1099511627776 ≤ 576460752303423488 := Nat.le_trans (Nat.le_trans (Nat.add_le_add_right hh2 _) hbd3) hb2
     have HQ3 : Hid (q = if k = 1 then (mulP (treeP d') b1 s3).bind fun q s => .ok (.mk 1 (hd1, b1) (b1, b2) q.1 q.2.1 q.2.2) s
      else if k = 2 then (treeP d' b1 s3).bind fun q s => .ok (.mk 2 (hd1, b1) (b1, b2) [q] [] (0, 0)) s
      else .ok (leafT hd1 b1 b2) s3) := by unfold Hid; rw [HQ2.out]; show (spanP b1 s2).bind _ = _; rw [hs2]; rfl
     rw [hs2] at HS2
     simp only at HS2
     clear hs2 HQ2 HSp
     go_wp2_with fail
     with_reducible refine HS2.out.mono ?_
     rintro e w3 ⟨hg, rfl, ha⟩
     have hg3 := HG2.out.trans hg
     have ho2 := (hg.block w2.heap.size (by have := HzX2.out; omega) (by intro e; have := Option.some.inj e; have := HzX.out; omega)).trans HO2.out
     have hz3 := hg.size
     clear hg HS2 d0 d1
     have ho2a := (Below.heap_alloc w3 (.cells #[.int .i64 (b1 : Int), .int .i64 (b2 : Int)] 27) w2.heap.size (by have := HzX2.out; omega)).trans ho2
     have hb3a := heap_alloc_new w3 (.cells #[.int .i64 (b1 : Int), .int .i64 (b2 : Int)] 27)
     have hB1 := below_new w3 (.cells #[.int .i64 (b1 : Int), .int .i64 (b2 : Int)] 27)
     have hzw : w.heap.size + 1 ≤ w3.heap.size := by have := HzX.out; have := hg3.size; omega
     have hz31 : (w3.alloc (.cells #[.int .i64 (b1 : Int), .int .i64 (b2 : Int)] 27)).heap.size = w3.heap.size + 1 := by simp
     go_upto_region 10 with fail
     obtain ⟨X4, hX4⟩ : ∃ X4, X4 = w3.alloc (.cells #[.int .i64 (b1 : Int), .int .i64 (b2 : Int)] 27) := ⟨_, rfl⟩
     rw [← hX4] at ho2a hb3a hB1 hz31 ⊢
     obtain ⟨d0, d1⟩ := cells_of_heap2 ho2a
     obtain ⟨d2, d3⟩ := cells_of_heap2 hb3a
     have HA4 := Lib.hid (ha.below hB1)
     have HG4 := Lib.hid (hg3.below hB1)
     have HB4 := Lib.hid hb3a
     have Hz31 := Lib.hid hz31
     clear hX4 ha hg3 hB1 ho2 ho2a hb3a hz31
     go_upto_region 13 with fail
     obtain ⟨X3, hX3⟩ : ∃ X3, X3 = X4.alloc (partO k hd1 b1 b1 b2 (.slice none 0 0) (.slice none 0 0) 0 0) := ⟨_, rfl⟩
     have hP3 : X3.heap[X4.heap.size]? = some (partO k hd1 b1 b1 b2 (.slice none 0 0) (.slice none 0 0) 0 0) := by rw [hX3]; exact heap_alloc_new _ _
     have hBX3 : Below X4.heap.size X4 X3 := by rw [hX3]; exact below_new _ _
     have HzX3 : Hid (X3.heap.size = X4.heap.size + 1) := by unfold Hid; rw [hX3]; simp
     have hO3 : X3.heap[w3.heap.size]? = some (.cells #[.int .i64 (b1 : Int), .int .i64 (b2 : Int)] 27 (0, 0)) := (hBX3.block _ (by have := Hz31.out; omega)).trans HB4.out
     unfold partO at hX3
     rw [← hX3]
     have HA3 := Lib.hid (HA4.out.below hBX3)
     have HG3 := Lib.hid (HG4.out.below hBX3)
     have HP3 := Lib.hid hP3
     have HGw : Hid (Gr R w X3) := HGX.out.trans HG3.out
     obtain ⟨B5, hB5⟩ : ∃ B5, B5 = X4.heap.size := ⟨_, rfl⟩
     rw [← hB5] at HP3 ⊢
     have HB5 := Lib.hid hB5
     have hBR : w.heap.size + 1 ≤ B5 := by have := Hz31.out; omega
     have hBz : X3.heap.size = B5 + 1 := by have := HzX3.out; omega
     have HBz := Lib.hid hBz
     clear hX3 hBX3 d0 d1 d2 d3 hP3 hB5 HA4 HG4 hBz
     have hk3 : k = 0 ∨ k = 1 ∨ k = 2 := by omega
     rcases hk3 with rfl | rfl | rfl
     ·have HQ4 : Hid (q = .ok (leafT hd1 b1 b2) s3) := HQ3.out
      obtain ⟨p0, p1, p2, p3, p4, p5, p6, p7, p8⟩ := part_cells HP3.out
      have ho6 := HO.out X3 HG3.out
      have HO9 := Lib.hid ho6
      obtain ⟨c0, c1, c2, c3, c4, c5, c6, c7, c8⟩ := part_cells ho6
      obtain ⟨f0, f1, f2, f3, f4, f5, f6, f7, f8⟩ := part_frozen ho6
      clear ho6 hO3
      go_wp2_with fail
      (try simp only [Exit.inBlock, Exit.then])
      have h9 := row_set9 (a0 := .int .i64 (0 : Int)) (a1 := .int .i64 (hd1 : Int)) (a2 := .int .i64 (b1 : Int)) (a3 := .int .i64 (b1 : Int)) (a4 := .int .i64 (b2 : Int)) (a5 := .slice none 0 0) (a6 := .slice none 0 0) (a7 := .int .i64 (0 : Int)) (a8 := .int .i64 (0 : Int)) HO9.out
      obtain ⟨g0, g1, g2, g3, g4, g5, g6, g7, g8⟩ := part_cells (k := (0 : Int)) (a := (hd1 : Int)) (b := (b1 : Int)) (c := (b1 : Int)) (d := (b2 : Int)) (ks := (.slice none 0 0)) (cs := (.slice none 0 0)) (e := (0 : Int)) (f := (0 : Int)) h9
      refine bodyPost_ret (v := .tuple #[.agg #[.int .i64 (0 : Int), .int .i64 (hd1 : Int), .int .i64 (b1 : Int), .int .i64 (b1 : Int), .int .i64 (b2 : Int), .slice none 0 0, .slice none 0 0, .int .i64 (0 : Int), .int .i64 (0 : Int)], .nilIface]) (by simp [results, Tryz.results45, go_sem, g0, g1, g2, g3, g4, g5, g6, g7, g8]) rfl ?_
      rw [HQ4.out]
      refine tree_end hRl HGw.out ⟨rfl, ?_, HA3.out⟩
      exact leaf_at _ _ hd1 b1 b2
     ·have HQ4 : Hid (q = (mulP (treeP d') b1 s3).bind fun q s => .ok (.mk 1 (hd1, b1) (b1, b2) q.1 q.2.1 q.2.2) s) := HQ3.out
      have HMu := Lib.hid (recMul_any w0 R b off cap l HSr.out (treeP d') (D : Int) hDr (fun a s t r h => (treeP_bud d' a s t r h).1) HIh2.out b1 s3 hb3 B5 (1 : Nat) hd1 b1 b2 X3 (HB0.out X3 HG3.out) HA3.out HP3.out (by omega) (by have := HW0.out.size; omega))
      unfold mulPost at HMu
      clear HQ3 hO3
      go_wp2_with fail
      with_reducible refine HMu.out.mono ?_
      rintro e w4 ⟨hk4, ga, gn, gc, ca, cn, cc, x1, x2, hP4, hout⟩
      have HG4 := Lib.hid (gr_k3 HGw.out hk4 (by omega))
      have ho6 := (hk4.block w.heap.size (by have := HBz.out; omega) (by omega) (by omega) (by intro e; cases e)).trans (HO.out X3 HG3.out)
      have HO9 := Lib.hid ho6
      have HP4 := Lib.hid hP4
      have HK4 := Lib.hid hk4
      obtain ⟨p0, p1, p2, p3, p4, p5, p6, p7, p8⟩ := part_cells hP4
      obtain ⟨c0, c1, c2, c3, c4, c5, c6, c7, c8⟩ := part_cells ho6
      obtain ⟨f0, f1, f2, f3, f4, f5, f6, f7, f8⟩ := part_frozen ho6
      clear ho6 hP4 hk4 HMu
      cases hm : mulP (treeP d') b1 s3 with
      | no x =>
       rw [hm] at hout HQ4
       obtain ⟨z, r, rfl, ha4⟩ := hout
       have HQ5 : Hid (q = .no x) := HQ4.out
       have HA4 := Lib.hid ha4
       clear hm ha4 HQ4
       unfold fltV
       go_wp2_with fail
       (try simp only [Exit.inBlock, Exit.then])
       have h9 := row_set9 (a0 := .int .i64 (1 : Int)) (a1 := .int .i64 (hd1 : Int)) (a2 := .int .i64 (b1 : Int)) (a3 := .int .i64 (b1 : Int)) (a4 := .int .i64 (b2 : Int)) (a5 := .slice ga gn gc) (a6 := .slice ca cn cc) (a7 := .int .i64 (x1 : Int)) (a8 := .int .i64 (x2 : Int)) HO9.out
       obtain ⟨g0, g1, g2, g3, g4, g5, g6, g7, g8⟩ := part_cells (k := (1 : Int)) (a := (hd1 : Int)) (b := (b1 : Int)) (c := (b1 : Int)) (d := (b2 : Int)) (ks := (.slice ga gn gc)) (cs := (.slice ca cn cc)) (e := (x1 : Int)) (f := (x2 : Int)) h9
       refine bodyPost_ret (v := .tuple #[.agg #[.int .i64 (1 : Int), .int .i64 (hd1 : Int), .int .i64 (b1 : Int), .int .i64 (b1 : Int), .int .i64 (b2 : Int), .slice ga gn gc, .slice ca cn cc, .int .i64 (x1 : Int), .int .i64 (x2 : Int)], .iface 117 (.agg #[.int .i64 (z : Int), .iface 32 (.int .i64 (x : Int))])]) (by simp [results, Tryz.results45, go_sem, g0, g1, g2, g3, g4, g5, g6, g7, g8]) rfl ?_
       rw [HQ5.out]
       exact tree_end hRl HG4.out ⟨z, r, rfl, HA4.out⟩
      | ok v r =>
       rw [hm] at hout HQ4
       obtain ⟨rfl, ha4, rfl, rfl, us, hks, hcs, hkk⟩ := hout
       have HQ5 : Hid (q = .ok (.mk 1 (hd1, b1) (b1, b2) v.1 v.2.1 v.2.2) r) := HQ4.out
       have HA4 := Lib.hid ha4
       have HTr : Hid (treeAt (fun k => w.heap.size ≤ k ∧ k ≠ w.heap.size) w4 (.mk 1 (hd1, b1) (b1, b2) v.1 v.2.1 v.2.2) (.agg #[.int .i64 1, .int .i64 (hd1 : Int), .int .i64 (b1 : Int), .int .i64 (b1 : Int), .int .i64 (b2 : Int), .slice ga gn gc, .slice ca cn cc, .int .i64 (v.2.2.1 : Int), .int .i64 (v.2.2.2 : Int)])) := by
        unfold Hid treeAt
        have up : ∀ k, X3.heap.size ≤ k → w.heap.size ≤ k ∧ k ≠ w.heap.size := fun k hk => by have := HBz.out; omega
        exact ⟨ga, gn, gc, ca, cn, cc, us, rfl, ⟨hcs.1, fun a ha => up a (hcs.2 a ha)⟩, ⟨hks.1, fun a ha => up a (hks.2 a ha)⟩, kidsAt.keep (fun k hk _ => ⟨rfl, up k hk⟩) _ _ hkk⟩
       obtain ⟨y1, hy1⟩ : ∃ y1 : Int, y1 = (v.2.2.1 : Int) := ⟨_, rfl⟩
       obtain ⟨y2, hy2⟩ : ∃ y2 : Int, y2 = (v.2.2.2 : Int) := ⟨_, rfl⟩
       rw [← hy1, ← hy2] at HTr HP4
       rw [← hy1] at p7
       rw [← hy2] at p8
       clear hm ha4 HQ4 hks hcs hkk hy1 hy2
       go_wp2_with fail
       (try simp only [Exit.inBlock, Exit.then])
       have h9 := row_set9 (a0 := .int .i64 (1 : Int)) (a1 := .int .i64 (hd1 : Int)) (a2 := .int .i64 (b1 : Int)) (a3 := .int .i64 (b1 : Int)) (a4 := .int .i64 (b2 : Int)) (a5 := .slice ga gn gc) (a6 := .slice ca cn cc) (a7 := .int .i64 (y1 : Int)) (a8 := .int .i64 (y2 : Int)) HO9.out
       obtain ⟨g0, g1, g2, g3, g4, g5, g6, g7, g8⟩ := part_cells (k := (1 : Int)) (a := (hd1 : Int)) (b := (b1 : Int)) (c := (b1 : Int)) (d := (b2 : Int)) (ks := (.slice ga gn gc)) (cs := (.slice ca cn cc)) (e := (y1 : Int)) (f := (y2 : Int)) h9
       refine bodyPost_ret (v := .tuple #[.agg #[.int .i64 (1 : Int), .int .i64 (hd1 : Int), .int .i64 (b1 : Int), .int .i64 (b1 : Int), .int .i64 (b2 : Int), .slice ga gn gc, .slice ca cn cc, .int .i64 (y1 : Int), .int .i64 (y2 : Int)], .nilIface]) (by simp [results, Tryz.results45, go_sem, g0, g1, g2, g3, g4, g5, g6, g7, g8]) rfl ?_
       rw [HQ5.out]
       exact tree_end hRl HG4.out ⟨rfl, HTr.out, HA4.out⟩
     ·have HQ4 : Hid (q = (treeP d' b1 s3).bind fun q s => .ok (.mk 2 (hd1, b1) (b1, b2) [q] [] (0, 0)) s) := HQ3.out
      have HKd := Lib.hid (recKid_any w0 R b off cap l (treeP d') (D : Int) hDr b1 s3 (fun W h1 h2 => HIh2.out b1 s3 W hb3 h1 h2) B5 X3.heap.size (fun _ => True) (2 : Nat) hd1 b1 b1 b2 (.slice none 0 0) 0 0 none 0 0 [] [] X3 (HB0.out X3 HG3.out) HA3.out HP3.out (by have := HBz.out; omega) (by have := HBz.out; omega) (by omega) (Nat.le_refl _) (fun _ _ => trivial) (World.ownsRow_nil _ _ _ _) (kidsAt_nil _ _) (by decide))
      unfold kidPost at HKd
      obtain ⟨d0, d1⟩ := cells_of_heap2 hO3
      clear HQ3 hO3
      go_wp2_with fail
      with_reducible refine HKd.out.mono ?_
      rintro e w4 ⟨hk4', ga, gn, gc, hP4, _, hout⟩
      have hk4 : K3 R B5 none X3 w4 := ⟨hk4'.os, hk4'.tape, hk4'.output, hk4'.size, fun k h1 h2 h3 _ => hk4'.block k h1 h2 h3 (by intro e; cases e)⟩
      have HG4 := Lib.hid (gr_k3 HGw.out hk4 (by omega))
      have ho6 := (hk4.block w.heap.size (by have := HBz.out; omega) (by omega) (by omega) (by intro e; cases e)).trans (HO.out X3 HG3.out)
      have HO9 := Lib.hid ho6
      have HP4 := Lib.hid hP4
      obtain ⟨p0, p1, p2, p3, p4, p5, p6, p7, p8⟩ := part_cells hP4
      obtain ⟨c0, c1, c2, c3, c4, c5, c6, c7, c8⟩ := part_cells ho6
      obtain ⟨f0, f1, f2, f3, f4, f5, f6, f7, f8⟩ := part_frozen ho6
      clear ho6 hP4 hk4 hk4' HKd d0 d1
      cases hm : treeP d' b1 s3 with
      | no x =>
       rw [hm] at hout HQ4
       obtain ⟨z, r, rfl, ha4⟩ := hout
       have HQ5 : Hid (q = .no x) := HQ4.out
       have HA4 := Lib.hid ha4
       clear hm ha4 HQ4
       unfold fltV
       go_wp2_with fail
       (try simp only [Exit.inBlock, Exit.then])
       have h9 := row_set9 (a0 := .int .i64 (2 : Int)) (a1 := .int .i64 (hd1 : Int)) (a2 := .int .i64 (b1 : Int)) (a3 := .int .i64 (b1 : Int)) (a4 := .int .i64 (b2 : Int)) (a5 := .slice ga gn gc) (a6 := .slice none 0 0) (a7 := .int .i64 (0 : Int)) (a8 := .int .i64 (0 : Int)) HO9.out
       obtain ⟨g0, g1, g2, g3, g4, g5, g6, g7, g8⟩ := part_cells (k := (2 : Int)) (a := (hd1 : Int)) (b := (b1 : Int)) (c := (b1 : Int)) (d := (b2 : Int)) (ks := (.slice ga gn gc)) (cs := (.slice none 0 0)) (e := (0 : Int)) (f := (0 : Int)) h9
       refine bodyPost_ret (v := .tuple #[.agg #[.int .i64 (2 : Int), .int .i64 (hd1 : Int), .int .i64 (b1 : Int), .int .i64 (b1 : Int), .int .i64 (b2 : Int), .slice ga gn gc, .slice none 0 0, .int .i64 (0 : Int), .int .i64 (0 : Int)], .iface 117 (.agg #[.int .i64 (z : Int), .iface 32 (.int .i64 (x : Int))])]) (by simp [results, Tryz.results45, go_sem, g0, g1, g2, g3, g4, g5, g6, g7, g8]) rfl ?_
       rw [HQ5.out]
       exact tree_end hRl HG4.out ⟨z, r, rfl, HA4.out⟩
      | ok v r =>
       rw [hm] at hout HQ4
       obtain ⟨rfl, ha4, u, hks, hkk⟩ := hout
       have HQ5 : Hid (q = .ok (.mk 2 (hd1, b1) (b1, b2) [v] [] (0, 0)) r) := HQ4.out
       have HA4 := Lib.hid ha4
       have HTr : Hid (treeAt (fun k => w.heap.size ≤ k ∧ k ≠ w.heap.size) w4 (.mk 2 (hd1, b1) (b1, b2) [v] [] (0, 0)) (.agg #[.int .i64 2, .int .i64 (hd1 : Int), .int .i64 (b1 : Int), .int .i64 (b1 : Int), .int .i64 (b2 : Int), .slice ga gn gc, .slice none 0 0, .int .i64 0, .int .i64 0])) := by
        unfold Hid treeAt
        have up : ∀ k, X3.heap.size ≤ k → w.heap.size ≤ k ∧ k ≠ w.heap.size := fun k hk => by have := HBz.out; omega
        exact ⟨ga, gn, gc, none, 0, 0, [u], rfl, ownS_nil _ _ _ _, own_base0 hks (fun a h1 _ => up a h1), kidsAt.keep (fun k hk _ => ⟨rfl, up k hk.1⟩) _ _ hkk⟩
       clear hm ha4 HQ4 hks hkk
       go_wp2_with fail
       (try simp only [Exit.inBlock, Exit.then])
       have h9 := row_set9 (a0 := .int .i64 (2 : Int)) (a1 := .int .i64 (hd1 : Int)) (a2 := .int .i64 (b1 : Int)) (a3 := .int .i64 (b1 : Int)) (a4 := .int .i64 (b2 : Int)) (a5 := .slice ga gn gc) (a6 := .slice none 0 0) (a7 := .int .i64 (0 : Int)) (a8 := .int .i64 (0 : Int)) HO9.out
       obtain ⟨g0, g1, g2, g3, g4, g5, g6, g7, g8⟩ := part_cells (k := (2 : Int)) (a := (hd1 : Int)) (b := (b1 : Int)) (c := (b1 : Int)) (d := (b2 : Int)) (ks := (.slice ga gn gc)) (cs := (.slice none 0 0)) (e := (0 : Int)) (f := (0 : Int)) h9
       refine bodyPost_ret (v := .tuple #[.agg #[.int .i64 (2 : Int), .int .i64 (hd1 : Int), .int .i64 (b1 : Int), .int .i64 (b1 : Int), .int .i64 (b2 : Int), .slice ga gn gc, .slice none 0 0, .int .i64 (0 : Int), .int .i64 (0 : Int)], .nilIface]) (by simp [results, Tryz.results45, go_sem, g0, g1, g2, g3, g4, g5, g6, g7, g8]) rfl ?_
       rw [HQ5.out]
       exact tree_end hRl HG4.out ⟨rfl, HTr.out, HA4.out⟩
theorem recTree_any (w0 : World) (R b off cap : Nat) (l : List UInt8) (hS : Src w0 R b off cap l) : ∀ (d : Nat), d ≤ 33 → ∀ (f : Nat) (s : List UInt8) (w : World), f + s.length * 1099511627776 ≤ 576460752303423488 → Below w0.heap.size w0 w → At w R b off cap l s →
  Calls Tryz.prog 45 #[.pointer (some ⟨R, 0, none⟩), .int .i64 (f : Int), .int .i64 ((33 - d : Nat) : Int)] w (recTreePost R b off cap l (treeP d f s) w)
 | 0, hd => fun f s w h1 h2 h3 => recTree_step w0 R b off cap l hS 0 hd (fun d' e => by omega) f s w h1 h2 h3
 | d + 1, hd => fun f s w h1 h2 h3 => recTree_step w0 R b off cap l hS (d + 1) hd (fun d' e => by
   obtain rfl : d = d' := by omega
   exact recTree_any w0 R b off cap l hS d (by omega)) f s w h1 h2 h3
def readOut (c : Int) (q : Rs Tr) (u ev : Value) (S : Nat → Prop) (W : World) : Prop := match q with
 | .ok t _ => (c = 0 ∧ ev = .nilIface ∧ treeAt S W t u) ∨ (¬ c = 0 ∧ ∃ z : Nat, ev = fltV (z : Int) c)
 | .no x => ∃ z : Nat, ev = fltV (z : Int) (x : Int)
def readPost (c : Int) (q : Rs Tr) (w : World) (e : Ending) (w' : World) : Prop := Below w.heap.size w w' ∧ ∃ (k0 a1 a2 a3 a4 : Int) (ka : Option Addr) (kn kc : Nat) (ca : Option Addr) (cn cc : Nat) (a7 a8 : Int) (ev : Value),
 e = .returned (.tuple #[.agg #[.int .i64 k0, .int .i64 a1, .int .i64 a2, .int .i64 a3, .int .i64 a4, .slice ka kn kc, .slice ca cn cc, .int .i64 a7, .int .i64 a8], ev]) ∧ readOut c q (.agg #[.int .i64 k0, .int .i64 a1, .int .i64 a2, .int .i64 a3, .int .i64 a4, .slice ka kn kc, .slice ca cn cc, .int .i64 a7, .int .i64 a8]) ev (fun k => w.heap.size ≤ k) w'
theorem read_end {R : Nat} {c : Int} {q : Rs Tr} {w W : World} {k0 a1 a2 a3 a4 : Int} {ka : Option Addr} {kn kc : Nat} {ca : Option Addr} {cn cc : Nat} {a7 a8 : Int} {ev : Value} (hR : w.heap.size ≤ R) (hg : Gr R w W)
  (hp : readOut c q (.agg #[.int .i64 k0, .int .i64 a1, .int .i64 a2, .int .i64 a3, .int .i64 a4, .slice ka kn kc, .slice ca cn cc, .int .i64 a7, .int .i64 a8]) ev (fun k => w.heap.size ≤ k ∧ k ≠ w.heap.size) W) : readPost c q w (.returned (.tuple #[.agg #[.int .i64 k0, .int .i64 a1, .int .i64 a2, .int .i64 a3, .int .i64 a4, .slice ka kn kc, .slice ca cn cc, .int .i64 a7, .int .i64 a8], ev])) (((((((((W.setCell ⟨w.heap.size, 0, none⟩ (.int .i64 k0)).setCell ⟨w.heap.size, 1, none⟩ (.int .i64 a1)).setCell ⟨w.heap.size, 2, none⟩ (.int .i64 a2)).setCell ⟨w.heap.size, 3, none⟩ (.int .i64 a3)).setCell ⟨w.heap.size, 4, none⟩ (.int .i64 a4)).setCell ⟨w.heap.size, 5, none⟩ (.slice ka kn kc)).setCell ⟨w.heap.size, 6, none⟩ (.slice ca cn cc)).setCell ⟨w.heap.size, 7, none⟩ (.int .i64 a7)).setCell ⟨w.heap.size, 8, none⟩ (.int .i64 a8)) := by
 refine ⟨below_base (Below.refl _ _) hR (gr_set9 hg (Nat.le_refl _)), k0, a1, a2, a3, a4, ka, kn, kc, ca, cn, cc, a7, a8, ev, rfl, ?_⟩
 cases q with
 | no x => exact hp
 | ok t r =>
  rcases hp with ⟨h1, h2, h3⟩ | h
  ·exact .inl ⟨h1, h2, treeAt.keep (fun k hk _ => ⟨heap_set9 hk.2, hk.1⟩) _ _ h3⟩
  ·exact .inr h
set_option maxRecDepth 100000 in
set_option maxHeartbeats 8000000 in
theorem recRead_any (c : Int) (mv v : Value) (msg rec : List UInt8) (w : World) (hm : bytesArg w mv msg) (hv : bytesArg w v rec) (hbig : rec.length ≤ 500000)
  (hck : ∀ (t : Tr), readP (treeP 33 0) msg rec = .ok t [] → ∀ (S : Nat → Prop) (W : World) (k0 a1 a2 a3 a4 : Int) (ka : Option Addr) (kn kc : Nat) (ca : Option Addr) (cn cc : Nat) (a7 a8 : Int), treeAt S W t (.agg #[.int .i64 k0, .int .i64 a1, .int .i64 a2, .int .i64 a3, .int .i64 a4, .slice ka kn kc, .slice ca cn cc, .int .i64 a7, .int .i64 a8]) →
   Calls Tryz.prog 16 #[.agg #[.int .i64 k0, .int .i64 a1, .int .i64 a2, .int .i64 a3, .int .i64 a4, .slice ka kn kc, .slice ca cn cc, .int .i64 a7, .int .i64 a8], .int .i64 (msg.length : Int)] W fun e w' => e = .returned (.int .i64 c) ∧ Below W.heap.size W w') :
  Calls Tryz.prog 21 #[mv, v] w (readPost c (readP (treeP 33 0) msg rec) w) := by
 have HMs := Lib.hid hm
 obtain ⟨X, hX⟩ : ∃ X, X = w.alloc (partO 0 0 0 0 0 (.slice none 0 0) (.slice none 0 0) 0 0) := ⟨_, rfl⟩
 have hBX : Below w.heap.size w X := by rw [hX]; exact (Below.refl _ _).alloc (Nat.le_refl _) _
 have HOX : Hid (X.heap[w.heap.size]? = some (partO 0 0 0 0 0 (.slice none 0 0) (.slice none 0 0) 0 0)) := by rw [hX]; exact heap_alloc_new w _
 have HzX : Hid (X.heap.size = w.heap.size + 1) := by unfold Hid; rw [hX]; simp
 have HBX := Lib.hid hBX
 have HOp := Lib.hid (recOpen_any v rec X (hv.below hBX) (by omega))
 have HQ : Hid (readP (treeP 33 0) msg rec = (headP rec).bind fun _ s => endP (bodyP (treeP 33 0) msg.length (crcN msg) s)) := rfl
 obtain ⟨q, hq⟩ : ∃ q, q = readP (treeP 33 0) msg rec := ⟨_, rfl⟩
 rw [← hq] at HQ hck ⊢
 have HCk := Lib.hid hck
 obtain ⟨mo, mc, rfl, -, -, -⟩ := hm
 obtain ⟨L, hL⟩ : ∃ L, L = msg.length := ⟨_, rfl⟩
 have HL := Lib.hid hL
 rw [← hL] at HCk HMs ⊢
 have hlen : Hid ((rec.take (rec.length - 4)).length ≤ 500000) := by unfold Hid; rw [List.length_take]; omega
 obtain ⟨l, hl⟩ : ∃ l, l = rec.take (rec.length - 4) := ⟨_, rfl⟩
 unfold openPost at HOp
 rw [← hl] at hlen HOp
 unfold partO at hX
 clear hq hv hbig hck hL hBX hl
 cases hh : headP rec with
 | no x =>
  rw [hh] at HOp HQ
  have HQ3 : Hid (q = .no x) := HQ.out
  clear HQ hh
  go_enter Tryz.func21, Tryz.ntmps21
  go_wp2_with fail
  rw [← hX]
  clear hX
  with_reducible refine HOp.out.mono ?_
  rintro e w1 ⟨hb, rfl⟩
  have HO9 := Lib.hid ((hb.block w.heap.size (by have := HzX.out; omega)).trans HOX.out)
  have HG : Hid (Gr w.heap.size w w1) := gr_below' (HBX.out.trans (hb.mono HBX.out.size))
  obtain ⟨c0, c1, c2, c3, c4, c5, c6, c7, c8⟩ := part_cells HO9.out
  obtain ⟨f0, f1, f2, f3, f4, f5, f6, f7, f8⟩ := part_frozen HO9.out
  clear hb
  unfold fltV
  go_wp2_with fail
  (try simp only [Exit.inBlock, Exit.then])
  have h9 := row_set9 (a0 := .int .i64 0) (a1 := .int .i64 0) (a2 := .int .i64 0) (a3 := .int .i64 0) (a4 := .int .i64 0) (a5 := .slice none 0 0) (a6 := .slice none 0 0) (a7 := .int .i64 0) (a8 := .int .i64 0) HO9.out
  obtain ⟨g0, g1, g2, g3, g4, g5, g6, g7, g8⟩ := part_cells (k := 0) (a := 0) (b := 0) (c := 0) (d := 0) (ks := .slice none 0 0) (cs := .slice none 0 0) (e := 0) (f := 0) h9
  refine bodyPost_ret (v := .tuple #[.agg #[.int .i64 0, .int .i64 0, .int .i64 0, .int .i64 0, .int .i64 0, .slice none 0 0, .slice none 0 0, .int .i64 0, .int .i64 0], .iface 117 (.agg #[.int .i64 0, .iface 32 (.int .i64 (x : Int))])]) (by simp [results, Tryz.results21, go_sem, g0, g1, g2, g3, g4, g5, g6, g7, g8]) rfl ?_
  exact read_end (Nat.le_refl _) HG.out (by rw [HQ3.out]; exact ⟨0, rfl⟩)
 | ok _ s =>
  rw [hh] at HOp HQ
  have HQ2 : Hid (q = endP (bodyP (treeP 33 0) msg.length (crcN msg) s)) := HQ.out
  clear HQ hh
  go_enter Tryz.func21, Tryz.ntmps21
  go_wp2_with fail
  rw [← hX]
  clear hX
  with_reducible refine HOp.out.mono ?_
  rintro e w1 ⟨hb, R, b, off, cap, rfl, hsrc, hat⟩
  have HS := Lib.hid hsrc
  have HB1 := Lib.hid hb
  have HR : Hid (w.heap.size < R) := by unfold Hid; have := hsrc.base; have := HzX.out; omega
  have HO : Hid (∀ W, Gr R w1 W → W.heap[w.heap.size]? = some (partO 0 0 0 0 0 (.slice none 0 0) (.slice none 0 0) 0 0)) := fun W hg => (hg.block w.heap.size (by have := HzX.out; have := hb.size; omega) (by intro e; have := Option.some.inj e; have := HR.out; omega)).trans ((hb.block w.heap.size (by have := HzX.out; omega)).trans HOX.out)
  have HG1 : Hid (Gr R w w1) := gr_below' (HBX.out.trans (hb.mono HBX.out.size))
  have HMg := Lib.hid (recMessage_any X R b off cap l hsrc s w1 hb hat _ msg (HMs.out.below HBX.out))
  clear hsrc hb hat HOp HMs
  unfold msgPost at HMg
  cases hn : msgP msg.length (crcN msg) s with
  | no x =>
   rw [hn] at HMg
   have HQ3 : Hid (q = .no x) := by unfold Hid; rw [HQ2.out]; unfold bodyP; rw [hn]; rfl
   clear HQ2 hn
   go_wp2_with fail
   with_reducible refine HMg.out.mono ?_
   rintro e w2 ⟨hg, z, r, rfl, ha⟩
   have HO9 := Lib.hid (HO.out w2 hg)
   have HG := Lib.hid (HG1.out.trans hg)
   obtain ⟨c0, c1, c2, c3, c4, c5, c6, c7, c8⟩ := part_cells HO9.out
   obtain ⟨f0, f1, f2, f3, f4, f5, f6, f7, f8⟩ := part_frozen HO9.out
   clear hg ha
   unfold fltV
   go_wp2_with fail
   (try simp only [Exit.inBlock, Exit.then])
   have h9 := row_set9 (a0 := .int .i64 0) (a1 := .int .i64 0) (a2 := .int .i64 0) (a3 := .int .i64 0) (a4 := .int .i64 0) (a5 := .slice none 0 0) (a6 := .slice none 0 0) (a7 := .int .i64 0) (a8 := .int .i64 0) HO9.out
   obtain ⟨g0, g1, g2, g3, g4, g5, g6, g7, g8⟩ := part_cells (k := 0) (a := 0) (b := 0) (c := 0) (d := 0) (ks := .slice none 0 0) (cs := .slice none 0 0) (e := 0) (f := 0) h9
   refine bodyPost_ret (v := .tuple #[.agg #[.int .i64 0, .int .i64 0, .int .i64 0, .int .i64 0, .int .i64 0, .slice none 0 0, .slice none 0 0, .int .i64 0, .int .i64 0], .iface 117 (.agg #[.int .i64 (z : Int), .iface 32 (.int .i64 (x : Int))])]) (by simp [results, Tryz.results21, go_sem, g0, g1, g2, g3, g4, g5, g6, g7, g8]) rfl ?_
   exact read_end (Nat.le_of_lt HR.out) HG.out (by rw [HQ3.out]; exact ⟨z, rfl⟩)
  | ok _ s2 =>
   rw [hn] at HMg
   have HQ3 : Hid (q = endP (treeP 33 0 s2)) := by unfold Hid; rw [HQ2.out]; unfold bodyP; rw [hn]; rfl
   clear HQ2 hn
   go_wp2_with fail
   with_reducible refine HMg.out.mono ?_
   rintro e w2 ⟨hg, rfl, ha⟩
   have hsl : s2.length ≤ 500000 := by obtain ⟨k, _, _, h⟩ := ha; rw [h, List.length_drop]; have := hlen.out; omega
   have hT := recTree_any X R b off cap l HS.out 33 (Nat.le_refl _) 0 s2 w2 (by omega) (below_base HB1.out HS.out.base hg) ha
   rw [show ((0 : Nat) : Int) = 0 from rfl] at hT
   have HT := Lib.hid hT
   have HGm := Lib.hid hg
   clear hg ha hsl hT
   unfold recTreePost at HT
   go_wp2_with fail
   with_reducible refine HT.out.mono ?_
   rintro e w3 ⟨hg, k0, a1, a2, a3, a4, ka, kn, kc, ca, cn, cc, a7, a8, ev, rfl, ho⟩
   have HGt := Lib.hid (HGm.out.trans hg)
   have HZ2 : Hid (w.heap.size < w2.heap.size) := by unfold Hid; have := HzX.out; have := HB1.out.size; have := HGm.out.size; omega
   clear hg HT
   go_upto_region 8 with fail
   obtain ⟨Y, hY⟩ : ∃ Y, Y = w3.alloc (.cells #[.int .i64 k0, .int .i64 a1, .int .i64 a2, .int .i64 a3, .int .i64 a4, .slice ka kn kc, .slice ca cn cc, .int .i64 a7, .int .i64 a8] 31) := ⟨_, rfl⟩
   have HY9 : Hid (Y.heap[w3.heap.size]? = some (.cells #[.int .i64 k0, .int .i64 a1, .int .i64 a2, .int .i64 a3, .int .i64 a4, .slice ka kn kc, .slice ca cn cc, .int .i64 a7, .int .i64 a8] 31 (0, 0))) := by rw [hY]; exact heap_alloc_new w3 _
   have hb3 : Below w3.heap.size w3 Y := by rw [hY]; exact below_new w3 _
   have HYz : Hid (Y.heap.size = w3.heap.size + 1) := by unfold Hid; rw [hY]; simp
   have HG1Y := Lib.hid (HGt.out.below hb3)
   have HGY := Lib.hid (HG1.out.trans HG1Y.out)
   have HOY := Lib.hid (HO.out Y HG1Y.out)
   have HB3 := Lib.hid hb3
   rw [← hY]
   clear hY hb3
   cases hr : treeP 33 0 s2 with
   | no x =>
    rw [hr] at ho
    have HQ4 : Hid (q = .no x) := by unfold Hid; rw [HQ3.out, hr]; rfl
    clear HQ3 hr
    obtain ⟨z, r, rfl, ha⟩ := ho
    have HO9 := HOY
    obtain ⟨c0, c1, c2, c3, c4, c5, c6, c7, c8⟩ := part_cells HO9.out
    obtain ⟨f0, f1, f2, f3, f4, f5, f6, f7, f8⟩ := part_frozen HO9.out
    clear ha
    unfold fltV
    go_wp2_with fail
    (try simp only [Exit.inBlock, Exit.then])
    have h9 := row_set9 (a0 := .int .i64 0) (a1 := .int .i64 0) (a2 := .int .i64 0) (a3 := .int .i64 0) (a4 := .int .i64 0) (a5 := .slice none 0 0) (a6 := .slice none 0 0) (a7 := .int .i64 0) (a8 := .int .i64 0) HO9.out
    obtain ⟨g0, g1, g2, g3, g4, g5, g6, g7, g8⟩ := part_cells (k := 0) (a := 0) (b := 0) (c := 0) (d := 0) (ks := .slice none 0 0) (cs := .slice none 0 0) (e := 0) (f := 0) h9
    refine bodyPost_ret (v := .tuple #[.agg #[.int .i64 0, .int .i64 0, .int .i64 0, .int .i64 0, .int .i64 0, .slice none 0 0, .slice none 0 0, .int .i64 0, .int .i64 0], .iface 117 (.agg #[.int .i64 (z : Int), .iface 32 (.int .i64 (x : Int))])]) (by simp [results, Tryz.results21, go_sem, g0, g1, g2, g3, g4, g5, g6, g7, g8]) rfl ?_
    exact read_end (Nat.le_of_lt HR.out) HGY.out (by rw [HQ4.out]; exact ⟨z, rfl⟩)
   | ok t r =>
    rw [hr] at ho
    obtain ⟨rfl, htr, k, hk, hm, hs⟩ := ho
    have hmY := hm.below HB3.out
    have HM := Lib.hid hmY
    have C0 := BW.cell hmY.c0
    have C1 := BW.cell hmY.c1
    have HTr := Lib.hid htr
    have hll : l.length ≤ 500000 := hlen.out
    obtain ⟨n, hn⟩ : ∃ n, n = l.length := ⟨_, rfl⟩
    rw [← hn] at HM C0 hll
    by_cases hkl : k < n
    ·have HQ4 : Hid (q = .no 12) := by
      unfold Hid
      rw [HQ3.out, hr, hs]
      cases hd : l.drop k with
      | nil => have := congrArg List.length hd; rw [List.length_drop] at this; simp at this; omega
      | cons _ _ => rfl
     have hd1 : (k : Int) < (n : Int) := by omega
     have hdd : decide ((k : Int) < (n : Int)) = true := decide_eq_true hd1
     have hd2 : decide (k < n) = true := decide_eq_true hkl
     clear HQ3 hr htr hk hm hs hn hmY
     go_upto_region 10 with fail
     refine wp_region_below (by kernel_rfl) (by kernel_rfl) ?_
     repeat (go_big_quiet_step (fail))
     refine wpQuiet_nil ?_
     rintro _ ⟨zz, rfl⟩
     have HF := Lib.hid (fault_any R _ k 12 zz.v (HM.out.below zz.h))
     have HO9 := Lib.hid ((zz.h.block w.heap.size (by have := HYz.out; have := HZ2.out; have := HG1Y.out.size; have := HB1.out.size; have := HzX.out; omega)).trans HOY.out)
     have HGz := Lib.hid (HGY.out.below zz.h)
     clear C0 C1
     obtain ⟨c0, c1, c2, c3, c4, c5, c6, c7, c8⟩ := part_cells HO9.out
     obtain ⟨f0, f1, f2, f3, f4, f5, f6, f7, f8⟩ := part_frozen HO9.out
     go_wp2_with fail
     with_reducible refine HF.out.mono ?_
     rintro e w5 ⟨rfl, rfl⟩
     unfold fltV
     go_wp2_with fail
     (try simp only [Exit.inBlock, Exit.then])
     have h9 := row_set9 (a0 := .int .i64 0) (a1 := .int .i64 0) (a2 := .int .i64 0) (a3 := .int .i64 0) (a4 := .int .i64 0) (a5 := .slice none 0 0) (a6 := .slice none 0 0) (a7 := .int .i64 0) (a8 := .int .i64 0) HO9.out
     obtain ⟨g0, g1, g2, g3, g4, g5, g6, g7, g8⟩ := part_cells (k := 0) (a := 0) (b := 0) (c := 0) (d := 0) (ks := .slice none 0 0) (cs := .slice none 0 0) (e := 0) (f := 0) h9
     refine bodyPost_ret (v := .tuple #[.agg #[.int .i64 0, .int .i64 0, .int .i64 0, .int .i64 0, .int .i64 0, .slice none 0 0, .slice none 0 0, .int .i64 0, .int .i64 0], .iface 117 (.agg #[.int .i64 (k : Int), .iface 32 (.int .i64 12)])]) (by simp [results, Tryz.results21, go_sem, g0, g1, g2, g3, g4, g5, g6, g7, g8]) rfl ?_
     exact read_end (Nat.le_of_lt HR.out) HGz.out (by rw [HQ4.out]; exact ⟨k, rfl⟩)
    ·have HQ4 : Hid (q = .ok t []) := by
      unfold Hid
      rw [HQ3.out, hr, hs, List.drop_eq_nil_of_le (by omega)]
      rfl
     have hd1 : ¬ (k : Int) < (n : Int) := by omega
     have hdd : decide ((k : Int) < (n : Int)) = false := decide_eq_false hd1
     have hd2 : decide (k < n) = false := decide_eq_false hkl
     clear HQ3 hr htr hk hm hs hn hmY
     go_upto_region 10 with fail
     refine wp_region_below (by kernel_rfl) (by kernel_rfl) ?_
     repeat (go_big_quiet_step (fail))
     refine wpQuiet_nil ?_
     rintro _ ⟨zz, rfl⟩
     have hwY : w.heap.size < Y.heap.size := by have := HYz.out; have := HZ2.out; have := HG1Y.out.size; have := HB1.out.size; have := HzX.out; omega
     have HOz := Lib.hid ((zz.h.block w.heap.size hwY).trans HOY.out)
     have HYb := Lib.hid ((zz.h.block w3.heap.size (by have := HYz.out; omega)).trans HY9.out)
     have HGz := Lib.hid (HGY.out.below zz.h)
     have HMz := Lib.hid (HM.out.below zz.h)
     have HTz := Lib.hid (treeAt_below HTr.out (HB3.out.trans (zz.h.mono HB3.out.size)))
     have HC := Lib.hid (HCk.out t HQ4.out _ _ _ _ _ _ _ _ _ _ _ _ _ _ _ HTz.out)
     obtain ⟨p0, p1, p2, p3, p4, p5, p6, p7, p8⟩ := nine_of_heap HYb.out
     clear C0 C1 HCk HTr HM
     go_wp2_with fail
     with_reducible refine HC.out.mono ?_
     rintro e w5 ⟨rfl, hb5⟩
     have HO9 := Lib.hid ((hb5.block w.heap.size (Nat.lt_of_lt_of_le hwY zz.h.size)).trans HOz.out)
     have HGe := Lib.hid (HGz.out.below hb5)
     have HMe := Lib.hid (HMz.out.below hb5)
     have hYs : w3.heap.size < zz.v.heap.size := by have := HYz.out; have := zz.h.size; omega
     have HYe := Lib.hid ((hb5.block w3.heap.size hYs).trans HYb.out)
     have HTe := Lib.hid (treeAt_below HTz.out hb5)
     clear hb5 HC HTz HMz HGz HYb p0 p1 p2 p3 p4 p5 p6 p7 p8
     obtain ⟨p0, p1, p2, p3, p4, p5, p6, p7, p8⟩ := nine_of_heap HYe.out
     obtain ⟨c0, c1, c2, c3, c4, c5, c6, c7, c8⟩ := part_cells HO9.out
     obtain ⟨f0, f1, f2, f3, f4, f5, f6, f7, f8⟩ := part_frozen HO9.out
     by_cases hc0 : c = 0
     ·subst hc0
      go_wp2_with fail
      (try simp only [Exit.inBlock, Exit.then])
      have h9 := row_set9 (a0 := .int .i64 k0) (a1 := .int .i64 a1) (a2 := .int .i64 a2) (a3 := .int .i64 a3) (a4 := .int .i64 a4) (a5 := .slice ka kn kc) (a6 := .slice ca cn cc) (a7 := .int .i64 a7) (a8 := .int .i64 a8) HO9.out
      obtain ⟨g0, g1, g2, g3, g4, g5, g6, g7, g8⟩ := part_cells (k := k0) (a := a1) (b := a2) (c := a3) (d := a4) (ks := .slice ka kn kc) (cs := .slice ca cn cc) (e := a7) (f := a8) h9
      refine bodyPost_ret (v := .tuple #[.agg #[.int .i64 k0, .int .i64 a1, .int .i64 a2, .int .i64 a3, .int .i64 a4, .slice ka kn kc, .slice ca cn cc, .int .i64 a7, .int .i64 a8], .nilIface]) (by simp [results, Tryz.results21, go_sem, g0, g1, g2, g3, g4, g5, g6, g7, g8]) rfl ?_
      exact read_end (Nat.le_of_lt HR.out) HGe.out (by rw [HQ4.out]; exact .inl ⟨rfl, rfl, treeAt.keep (fun q hq _ => ⟨rfl, by have := HZ2.out; omega, by have := HZ2.out; omega⟩) _ _ HTe.out⟩)
     ·have q1 : (c != 0) = true := by simpa using hc0
      have HF := Lib.hid (fault_any R _ k c w5 HMe.out)
      have HC0 := Lib.hid hc0
      clear hc0
      go_wp2_with fail
      with_reducible refine HF.out.mono ?_
      rintro e w6 ⟨rfl, rfl⟩
      unfold fltV
      go_wp2_with fail
      (try simp only [Exit.inBlock, Exit.then])
      have h9 := row_set9 (a0 := .int .i64 0) (a1 := .int .i64 0) (a2 := .int .i64 0) (a3 := .int .i64 0) (a4 := .int .i64 0) (a5 := .slice none 0 0) (a6 := .slice none 0 0) (a7 := .int .i64 0) (a8 := .int .i64 0) HO9.out
      obtain ⟨g0, g1, g2, g3, g4, g5, g6, g7, g8⟩ := part_cells (k := 0) (a := 0) (b := 0) (c := 0) (d := 0) (ks := .slice none 0 0) (cs := .slice none 0 0) (e := 0) (f := 0) h9
      refine bodyPost_ret (v := .tuple #[.agg #[.int .i64 0, .int .i64 0, .int .i64 0, .int .i64 0, .int .i64 0, .slice none 0 0, .slice none 0 0, .int .i64 0, .int .i64 0], .iface 117 (.agg #[.int .i64 (k : Int), .iface 32 (.int .i64 c)])]) (by simp [results, Tryz.results21, go_sem, g0, g1, g2, g3, g4, g5, g6, g7, g8]) rfl ?_
      exact read_end (Nat.le_of_lt HR.out) HGe.out (by rw [HQ4.out]; exact .inr ⟨HC0.out, k, rfl⟩)
end Go.Proofs.YtedminjnnhlknaaGreatDoor
