/- Contracts of package record: Get. -/
import Derived.Test.YtedminjnnhlknaaGreatDoorGbRcU
namespace Go.Proofs.YtedminjnnhlknaaGreatDoor
open Go Go.RowKit
def errG (w : World) : Prop := w.cell? ⟨0, 0, none⟩ = some (.iface 191 (.agg #[.pointer (some ⟨9, 61, none⟩)]))
theorem errG.below {w w' : World} (h : errG w) (hb : Below w.heap.size w w') : errG w' := (hb.cell (p := ⟨0, 0, none⟩) (World.block_lt_of_cell? _ _ h)).trans h
def getOut (c : Int) (q : Rs Tr) (u : Value) (code : Int) (S : Nat → Prop) (W : World) : Prop := match q with
 | .ok t _ => (c = 0 ∧ code = 0 ∧ treeAt S W t u) ∨ (¬ c = 0 ∧ code = c)
 | .no x => code = (x : Int)
def getPost (c : Int) (q : Rs Tr) (w : World) (e : Ending) (w' : World) : Prop := Below w.heap.size w w' ∧ ∃ (k0 a1 a2 a3 a4 : Int) (ka : Option Addr) (kn kc : Nat) (ca : Option Addr) (cn cc : Nat) (a7 a8 : Int) (code : Int),
 e = .returned (.tuple #[.agg #[.int .i64 k0, .int .i64 a1, .int .i64 a2, .int .i64 a3, .int .i64 a4, .slice ka kn kc, .slice ca cn cc, .int .i64 a7, .int .i64 a8], .int .i64 code]) ∧ getOut c q (.agg #[.int .i64 k0, .int .i64 a1, .int .i64 a2, .int .i64 a3, .int .i64 a4, .slice ka kn kc, .slice ca cn cc, .int .i64 a7, .int .i64 a8]) code (fun k => w.heap.size ≤ k) w'
theorem read_two {c : Int} {q : Rs Tr} {u ev : Value} {S : Nat → Prop} {W : World} (h : readOut c q u ev S W) : (c = 0 ∧ ev = .nilIface ∧ ∃ t r, q = .ok t r ∧ treeAt S W t u) ∨ ∃ (z : Nat) (y : Int), ev = fltV (z : Int) y ∧ ∀ u S W, getOut c q u y S W := by
 cases q with
 | no x =>
  obtain ⟨z, h⟩ := h
  exact .inr ⟨z, _, h, fun _ _ _ => rfl⟩
 | ok t r =>
  rcases h with ⟨h1, h2, h3⟩ | ⟨h1, z, h2⟩
  ·exact .inl ⟨h1, h2, t, r, rfl, h3⟩
  ·exact .inr ⟨z, c, h2, fun _ _ _ => .inr ⟨h1, rfl⟩⟩
set_option maxRecDepth 100000 in
set_option maxHeartbeats 8000000 in
theorem recGet_any (c : Int) (mv v : Value) (msg rec : List UInt8) (w : World) (hm : bytesArg w mv msg) (hv : bytesArg w v rec) (hbig : rec.length ≤ 500000) (hg : errG w)
  (hck : ∀ (t : Tr), readP (treeP 33 0) msg rec = .ok t [] → ∀ (S : Nat → Prop) (W : World) (k0 a1 a2 a3 a4 : Int) (ka : Option Addr) (kn kc : Nat) (ca : Option Addr) (cn cc : Nat) (a7 a8 : Int), treeAt S W t (.agg #[.int .i64 k0, .int .i64 a1, .int .i64 a2, .int .i64 a3, .int .i64 a4, .slice ka kn kc, .slice ca cn cc, .int .i64 a7, .int .i64 a8]) →
   Calls Tryz.prog 16 #[.agg #[.int .i64 k0, .int .i64 a1, .int .i64 a2, .int .i64 a3, .int .i64 a4, .slice ka kn kc, .slice ca cn cc, .int .i64 a7, .int .i64 a8], .int .i64 (msg.length : Int)] W fun e w' => e = .returned (.int .i64 c) ∧ Below W.heap.size W w') :
  Calls Tryz.prog 9 #[mv, v] w (getPost c (readP (treeP 33 0) msg rec) w) := by
 obtain ⟨X, hX⟩ : ∃ X, X = w.alloc (partO 0 0 0 0 0 (.slice none 0 0) (.slice none 0 0) 0 0) := ⟨_, rfl⟩
 have hBX : Below w.heap.size w X := by rw [hX]; exact (Below.refl _ _).alloc (Nat.le_refl _) _
 have HOX : Hid (X.heap[w.heap.size]? = some (partO 0 0 0 0 0 (.slice none 0 0) (.slice none 0 0) 0 0)) := by rw [hX]; exact heap_alloc_new w _
 have HzX : Hid (X.heap.size = w.heap.size + 1) := by unfold Hid; rw [hX]; simp
 have HBX := Lib.hid hBX
 have HRd := Lib.hid (recRead_any c mv v msg rec X (hm.below hBX) (hv.below hBX) hbig hck)
 have HE := Lib.hid (hg.below hBX)
 obtain ⟨q, hq⟩ : ∃ q, q = readP (treeP 33 0) msg rec := ⟨_, rfl⟩
 rw [← hq] at HRd ⊢
 unfold readPost at HRd
 unfold partO at hX
 clear hq hm hv hbig hck hBX hg
 go_enter Tryz.func9, Tryz.ntmps9
 go_wp2_with fail
 rw [← hX]
 clear hX
 with_reducible refine HRd.out.mono ?_
 rintro e w1 ⟨hb, k0, a1, a2, a3, a4, ka, kn, kc, ca, cn, cc, a7, a8, ev, rfl, ho⟩
 have HB1 := Lib.hid (HBX.out.trans (hb.mono HBX.out.size))
 have HO1 := Lib.hid ((hb.block w.heap.size (by have := HzX.out; omega)).trans HOX.out)
 have HE1 := Lib.hid (HE.out.below hb)
 have HXs : Hid (X.heap.size ≤ w1.heap.size) := hb.size
 clear hb HRd
 go_upto_region 2 with fail
 obtain ⟨Y, hY⟩ : ∃ Y, Y = w1.alloc (.cells #[.int .i64 k0, .int .i64 a1, .int .i64 a2, .int .i64 a3, .int .i64 a4, .slice ka kn kc, .slice ca cn cc, .int .i64 a7, .int .i64 a8] 31) := ⟨_, rfl⟩
 have HY9 : Hid (Y.heap[w1.heap.size]? = some (.cells #[.int .i64 k0, .int .i64 a1, .int .i64 a2, .int .i64 a3, .int .i64 a4, .slice ka kn kc, .slice ca cn cc, .int .i64 a7, .int .i64 a8] 31 (0, 0))) := by rw [hY]; exact heap_alloc_new w1 _
 have hb3 : Below w1.heap.size w1 Y := by rw [hY]; exact below_new w1 _
 have HYz : Hid (Y.heap.size = w1.heap.size + 1) := by unfold Hid; rw [hY]; simp
 have HBY := Lib.hid (HB1.out.trans (hb3.mono HB1.out.size))
 have HOY := Lib.hid ((hb3.block w.heap.size (by have := HzX.out; have := HXs.out; omega)).trans HO1.out)
 have HEY := Lib.hid (HE1.out.below hb3)
 have HB3 := Lib.hid hb3
 rw [← hY]
 clear hY hb3
 rcases read_two ho with ⟨rfl, rfl, t, r, hq, htr⟩ | ⟨z, y, rfl, hout⟩
 ·have HQ := Lib.hid hq
  have HT := Lib.hid (treeAt_below htr HB3.out)
  have HO9 := HOY
  clear ho hq htr
  obtain ⟨p0, p1, p2, p3, p4, p5, p6, p7, p8⟩ := nine_of_heap HY9.out
  obtain ⟨c0, c1, c2, c3, c4, c5, c6, c7, c8⟩ := part_cells HO9.out
  obtain ⟨f0, f1, f2, f3, f4, f5, f6, f7, f8⟩ := part_frozen HO9.out
  go_wp2_with fail
  (try simp only [Exit.inBlock, Exit.then])
  have h9 := row_set9 (a0 := .int .i64 k0) (a1 := .int .i64 a1) (a2 := .int .i64 a2) (a3 := .int .i64 a3) (a4 := .int .i64 a4) (a5 := .slice ka kn kc) (a6 := .slice ca cn cc) (a7 := .int .i64 a7) (a8 := .int .i64 a8) HO9.out
  obtain ⟨g0, g1, g2, g3, g4, g5, g6, g7, g8⟩ := part_cells (k := k0) (a := a1) (b := a2) (c := a3) (d := a4) (ks := .slice ka kn kc) (cs := .slice ca cn cc) (e := a7) (f := a8) h9
  refine bodyPost_ret (v := .tuple #[.agg #[.int .i64 k0, .int .i64 a1, .int .i64 a2, .int .i64 a3, .int .i64 a4, .slice ka kn kc, .slice ca cn cc, .int .i64 a7, .int .i64 a8], .int .i64 0]) (by simp [results, Tryz.results9, go_sem, g0, g1, g2, g3, g4, g5, g6, g7, g8]) rfl ?_
  exact ⟨below_set9 HBY.out (Nat.le_refl _), k0, a1, a2, a3, a4, ka, kn, kc, ca, cn, cc, a7, a8, 0, rfl, by rw [HQ.out]; exact .inl ⟨rfl, rfl, treeAt.keep (fun q hq _ => ⟨heap_set9 (by have := HzX.out; omega), by have := HzX.out; omega⟩) _ _ HT.out⟩⟩
 ·have HOut := Lib.hid hout
  have HN := Lib.hid (numberOf_any (z : Int) y Y HEY.out)
  clear ho hout
  unfold fltV at HN ⊢
  go_wp2_with fail
  with_reducible refine HN.out.mono ?_
  rintro e w5 ⟨rfl, hb5⟩
  have HO9 := Lib.hid ((hb5.block w.heap.size (by have := HzX.out; have := HXs.out; have := HYz.out; omega)).trans HOY.out)
  have HBe := Lib.hid (HBY.out.trans (hb5.mono HBY.out.size))
  clear hb5
  obtain ⟨c0, c1, c2, c3, c4, c5, c6, c7, c8⟩ := part_cells HO9.out
  obtain ⟨f0, f1, f2, f3, f4, f5, f6, f7, f8⟩ := part_frozen HO9.out
  go_wp2_with fail
  (try simp only [Exit.inBlock, Exit.then])
  have h9 := row_set9 (a0 := .int .i64 0) (a1 := .int .i64 0) (a2 := .int .i64 0) (a3 := .int .i64 0) (a4 := .int .i64 0) (a5 := .slice none 0 0) (a6 := .slice none 0 0) (a7 := .int .i64 0) (a8 := .int .i64 0) HO9.out
  obtain ⟨g0, g1, g2, g3, g4, g5, g6, g7, g8⟩ := part_cells (k := 0) (a := 0) (b := 0) (c := 0) (d := 0) (ks := .slice none 0 0) (cs := .slice none 0 0) (e := 0) (f := 0) h9
  refine bodyPost_ret (v := .tuple #[.agg #[.int .i64 0, .int .i64 0, .int .i64 0, .int .i64 0, .int .i64 0, .slice none 0 0, .slice none 0 0, .int .i64 0, .int .i64 0], .int .i64 y]) (by simp [results, Tryz.results9, go_sem, g0, g1, g2, g3, g4, g5, g6, g7, g8]) rfl ?_
  exact ⟨below_set9 HBe.out (Nat.le_refl _), 0, 0, 0, 0, 0, none, 0, 0, none, 0, 0, 0, 0, y, rfl, HOut.out _ _ _⟩
def sizeQ (rec : List UInt8) : Rs Nat := (headP rec).bind fun _ s => numP s
def sizePost (q : Rs Nat) (w : World) (e : Ending) (w' : World) : Prop := Below w.heap.size w w' ∧ match q with
 | .ok n _ => e = .returned (.tuple #[.int .i64 (n : Int), .bool true])
 | .no _ => e = .returned (.tuple #[.int .i64 0, .bool false])
set_option maxRecDepth 100000 in
set_option maxHeartbeats 4000000 in
theorem recSize_any (v : Value) (rec : List UInt8) (w : World) (hv : bytesArg w v rec) (hbig : rec.length ≤ 1000000) : Calls Tryz.prog 14 #[v] w (sizePost (sizeQ rec) w) := by
 have HOp := Lib.hid (recOpen_any v rec w hv hbig)
 have HQ : Hid (sizeQ rec = (headP rec).bind fun _ s => numP s) := rfl
 obtain ⟨q, hq⟩ : ∃ q, q = sizeQ rec := ⟨_, rfl⟩
 obtain ⟨l, hl⟩ : ∃ l, l = rec.take (rec.length - 4) := ⟨_, rfl⟩
 unfold openPost at HOp
 rw [← hl] at HOp
 rw [← hq] at HQ ⊢
 clear hq hl hv hbig
 cases hh : headP rec with
 | no x =>
  rw [hh] at HOp HQ
  have HQ3 : Hid (q = .no x) := HQ.out
  clear HQ hh
  go_enter Tryz.func14, Tryz.ntmps14
  go_wp2_with fail
  with_reducible refine HOp.out.mono ?_
  rintro e w1 ⟨hb, rfl⟩
  have HB := Lib.hid hb
  clear hb
  unfold fltV
  go_wp2_with fail
  go_ret2
  unfold sizePost
  rw [HQ3.out]
  exact ⟨HB.out, rfl⟩
 | ok _ s =>
  rw [hh] at HOp HQ
  have HQ2 : Hid (q = numP s) := HQ.out
  clear HQ hh
  go_enter Tryz.func14, Tryz.ntmps14
  go_wp2_with fail
  with_reducible refine HOp.out.mono ?_
  rintro e w1 ⟨hb, R, b, off, cap, rfl, hsrc, hat⟩
  have HN := Lib.hid (recNumber_any w R b off cap l hsrc s w1 hb hat)
  have HB := Lib.hid hb
  have HR : Hid (w.heap.size ≤ R) := hsrc.base
  unfold numPost at HN
  clear hb hsrc hat HOp
  cases hn : numP s with
  | no x =>
   rw [hn] at HN
   have HQ3 : Hid (q = .no x) := by unfold Hid; rw [HQ2.out, hn]
   clear HQ2 hn
   go_wp2_with fail
   with_reducible refine HN.out.mono ?_
   rintro e w2 ⟨hg, z, r, rfl, ha⟩
   have HB2 := Lib.hid (below_base HB.out HR.out hg)
   clear hg ha
   unfold fltV
   go_wp2_with fail
   refine wp_region_below (by kernel_rfl) (by kernel_rfl) ?_
   repeat (go_big_quiet_step (fail))
   refine wpQuiet_nil ?_
   rintro _ ⟨zz, rfl⟩
   have HB3 := Lib.hid (HB2.out.trans (zz.h.mono HB2.out.size))
   go_wp2_with fail
   go_ret2
   unfold sizePost
   rw [HQ3.out]
   exact ⟨HB3.out, rfl⟩
  | ok n r =>
   rw [hn] at HN
   have HQ3 : Hid (q = .ok n r) := by unfold Hid; rw [HQ2.out, hn]
   clear HQ2 hn
   go_wp2_with fail
   with_reducible refine HN.out.mono ?_
   rintro e w2 ⟨hg, rfl, ha⟩
   have HB2 := Lib.hid (below_base HB.out HR.out hg)
   clear hg ha
   go_wp2_with fail
   refine wp_region_below (by kernel_rfl) (by kernel_rfl) ?_
   repeat (go_big_quiet_step (fail))
   refine wpQuiet_nil ?_
   rintro _ ⟨zz, rfl⟩
   have HB3 := Lib.hid (HB2.out.trans (zz.h.mono HB2.out.size))
   go_wp2_with fail
   go_ret2
   unfold sizePost
   rw [HQ3.out]
   exact ⟨HB3.out, rfl⟩
theorem tree_read (l : List UInt8) (hl : l.length ≤ 100000) : treeP 33 0 (putT (treeS l)) = .ok (treeS l) [] := by
 obtain ⟨h1, h2, h3, h4⟩ := tree_Q l
 have := treeP_put (treeS l) 32 l.length [] h1 (by rw [h2]; exact h4) (by omega) (tree_deep l) (tree_count l)
 rw [h2, List.append_nil] at this
 exact this
theorem putR_len (l : List UInt8) (_ : l.length ≤ 100000) : (putR l (treeS l)).length ≤ 200000 := by
 have h1 := putT_len (treeS l)
 have h2 := tree_count l
 have h3 := numB_len l.length
 unfold putR
 rw [seal_len]
 simp only [coreL, frontL, List.length_cons, List.length_append, sum4_len]
 omega
theorem putOwn_any (v : Value) (l : List UInt8) (u : Value) (w : World) (hv : bytesArg w v l) (hbig : l.length ≤ 100000) (hu : treeAt (fun k => k < w.heap.size) w (treeS l) u) :
  Calls Tryz.prog 8 #[v, u] w fun e w' => ∃ r, e = .returned (.tuple #[r, .int .i64 0]) ∧ bytesArg w' r (putR l (treeS l)) ∧ Below w.heap.size w w' := by
 obtain ⟨h1, h2, h3, h4⟩ := tree_Q l
 refine (put_any v l (treeS l) u w hv hbig h1 (tree_count l) (tree_deep l) h4 hu).mono ?_
 rintro e w' ⟨r, h5, h6, h7⟩
 exact ⟨r, h5, bytesArg_owned h6, h7⟩
theorem getOwn_any (mv v : Value) (l msg : List UInt8) (w : World) (hm : bytesArg w mv msg) (hv : bytesArg w v (putR l (treeS l))) (hbig : l.length ≤ 100000) (hg : errG w) (y : Int)
  (hy : (msg = l ∧ y = 0) ∨ (msg.length ≠ l.length ∧ y = 34)) :
  Calls Tryz.prog 9 #[mv, v] w fun e w' => Below w.heap.size w w' ∧ ∃ (k0 a1 a2 a3 a4 : Int) (ka : Option Addr) (kn kc : Nat) (ca : Option Addr) (cn cc : Nat) (a7 a8 : Int),
   e = .returned (.tuple #[.agg #[.int .i64 k0, .int .i64 a1, .int .i64 a2, .int .i64 a3, .int .i64 a4, .slice ka kn kc, .slice ca cn cc, .int .i64 a7, .int .i64 a8], .int .i64 y]) ∧
   (y = 0 → treeAt (fun k => w.heap.size ≤ k) w' (treeS l) (.agg #[.int .i64 k0, .int .i64 a1, .int .i64 a2, .int .i64 a3, .int .i64 a4, .slice ka kn kc, .slice ca cn cc, .int .i64 a7, .int .i64 a8])) := by
 obtain ⟨h1, h2, h3, h4⟩ := tree_Q l
 have hrd := readP_put (T := treeP 33 0) l msg (treeS l) (by omega) (tree_read l hbig)
 have hlen := putR_len l hbig
 refine (recGet_any 0 mv v msg (putR l (treeS l)) w hm hv (by omega) hg ?_).mono ?_
 ·intro t ht S W k0 a1 a2 a3 a4 ka kn kc ca cn cc a7 a8 hu
  rw [hrd] at ht
  split at ht
  ·next hc =>
   cases ht
   have hx := treeAt_open hu
   obtain ⟨_, _, _, _, _, _, _, he, _, _, _⟩ := hx
   simp only [Value.agg.injEq, Array.mk.injEq, List.cons.injEq, Value.int.injEq] at he
   obtain ⟨-, ⟨-, rfl⟩, -, -, ⟨-, rfl⟩, -⟩ := he
   rw [h2, h3] at hu ⊢
   rw [← hc.1]
   exact check_yes (treeS l) l.length h1 (tree_count l) (tree_deep l) h4 k0 a2 a3 a7 a8 ka ca kn kc cn cc W hu
  ·cases ht
 ·rintro e w' ⟨hb, k0, a1, a2, a3, a4, ka, kn, kc, ca, cn, cc, a7, a8, code, rfl, ho⟩
  rw [hrd] at ho
  rcases hy with ⟨rfl, rfl⟩ | ⟨hne, rfl⟩
  ·rw [if_pos ⟨rfl, rfl⟩] at ho
   rcases ho with ⟨_, rfl, ht⟩ | ⟨h, _⟩
   ·exact ⟨hb, k0, a1, a2, a3, a4, ka, kn, kc, ca, cn, cc, a7, a8, rfl, fun _ => ht⟩
   ·exact absurd rfl h
  ·rw [if_neg (fun h => hne h.1.symm)] at ho
   have : code = 34 := ho
   subst this
   exact ⟨hb, k0, a1, a2, a3, a4, ka, kn, kc, ca, cn, cc, a7, a8, rfl, fun h => by omega⟩
end Go.Proofs.YtedminjnnhlknaaGreatDoor
