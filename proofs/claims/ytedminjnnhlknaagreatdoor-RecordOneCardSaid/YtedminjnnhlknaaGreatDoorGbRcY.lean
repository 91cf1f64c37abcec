/- Contracts of package record: Get. -/
import Derived.Test.YtedminjnnhlknaaGreatDoorGbRcU
import Derived.Test.YtedminjnnhlknaaGreatDoorGbRcN
namespace Go.Proofs.YtedminjnnhlknaaGreatDoor
open Go Go.RowKit

/-- The library's own global: the type error. -/
def errG (w : World) : Prop := w.cell? ⟨0, 0, none⟩ = some (.iface 191 (.agg #[.pointer (some ⟨9, 61, none⟩)]))
theorem errG.below {w w' : World} (h : errG w) (hb : Below w.heap.size w w') : errG w' := (hb.cell (p := ⟨0, 0, none⟩) (World.block_lt_of_cell? _ _ h)).trans h
def getOut (c : Int) (q : Rs Tr) (u : Value) (code : Int) (S : Nat → Prop) (W : World) : Prop := match q with
  | .ok t _ => (c = 0 ∧ code = 0 ∧ treeAt S W t u) ∨ (¬ c = 0 ∧ code = c)
  | .no x => code = (x : Int)
/-- What Get leaves, c being what Check tells of the tree. -/
def getPost (c : Int) (q : Rs Tr) (w : World) (e : Ending) (w' : World) : Prop := Below w.heap.size w w' ∧ ∃ (k0 a1 a2 a3 a4 : Int) (ka : Option Addr) (kn kc : Nat) (ca : Option Addr) (cn cc : Nat) (a7 a8 : Int) (code : Int),
  e = .returned (.tuple #[.agg #[.int .i64 k0, .int .i64 a1, .int .i64 a2, .int .i64 a3, .int .i64 a4, .slice ka kn kc, .slice ca cn cc, .int .i64 a7, .int .i64 a8], .int .i64 code]) ∧ getOut c q (.agg #[.int .i64 k0, .int .i64 a1, .int .i64 a2, .int .i64 a3, .int .i64 a4, .slice ka kn kc, .slice ca cn cc, .int .i64 a7, .int .i64 a8]) code (fun k => w.heap.size ≤ k) w'
theorem read_two {c : Int} {q : Rs Tr} {u ev : Value} {S : Nat → Prop} {W : World} (h : readOut c q u ev S W) : (c = 0 ∧ ev = .nilIface ∧ ∃ t r, q = .ok t r ∧ treeAt S W t u) ∨ ∃ (z : Nat) (y : Int), ev = fltV (z : Int) y ∧ ∀ u S W, getOut c q u y S W := by
  cases q with
  | no x =>
    obtain ⟨z, h⟩ := h
    exact .inr ⟨z, _, h, fun _ _ _ => rfl⟩
  | ok t r =>
    rcases h with ⟨h1, h2, h3⟩ | ⟨h1, z, h2⟩
    · exact .inl ⟨h1, h2, t, r, rfl, h3⟩
    · exact .inr ⟨z, c, h2, fun _ _ _ => .inr ⟨h1, rfl⟩⟩
set_option maxRecDepth 100000 in
set_option maxHeartbeats 8000000 in
theorem recGet_any (c : Int) (mv v : Value) (msg rec : List UInt8) (w : World) (hm : bytesArg w mv msg) (hv : bytesArg w v rec) (hbig : rec.length ≤ 500000) (hg : errG w)
    (hck : ∀ (t : Tr), readP (treeP 33 0) msg rec = .ok t [] → ∀ (S : Nat → Prop) (W : World) (k0 a1 a2 a3 a4 : Int) (ka : Option Addr) (kn kc : Nat) (ca : Option Addr) (cn cc : Nat) (a7 a8 : Int), treeAt S W t (.agg #[.int .i64 k0, .int .i64 a1, .int .i64 a2, .int .i64 a3, .int .i64 a4, .slice ka kn kc, .slice ca cn cc, .int .i64 a7, .int .i64 a8]) →
      Calls Tryz.prog 16 #[.agg #[.int .i64 k0, .int .i64 a1, .int .i64 a2, .int .i64 a3, .int .i64 a4, .slice ka kn kc, .slice ca cn cc, .int .i64 a7, .int .i64 a8], .int .i64 (msg.length : Int)] W fun e w' => e = .returned (.int .i64 c) ∧ Below W.heap.size W w') :
    Calls Tryz.prog 9 #[mv, v] w (getPost c (readP (treeP 33 0) msg rec) w) := by
  obtain ⟨X, hX⟩ : ∃ X, X = w.alloc (partO 0 0 0 0 0 (.slice none 0 0) (.slice none 0 0) 0 0) := ⟨_, rfl⟩
  have hBX : Below w.heap.size w X := by rw [hX]; exact (Below.refl _ _).alloc (Nat.le_refl _) _
  have HOX : Hid (X.heap[w.heap.size]? = some (partO 0 0 0 0 0 (.slice none 0 0) (.slice none 0 0) 0 0)) := by rw [hX]; exact heap_alloc_new w _
  have HzX : Hid (X.heap.size = w.heap.size + 1) := by unfold Hid; rw [hX]; simp
  have HBX := Lib.hid hBX
  have HRd := Lib.hid (recRead_any c mv v msg rec X (hm.below hBX) (hv.below hBX) hbig hck)
  have HE := Lib.hid (hg.below hBX)
  obtain ⟨q, hq⟩ : ∃ q, q = readP (treeP 33 0) msg rec := ⟨_, rfl⟩
  rw [← hq] at HRd ⊢
  unfold readPost at HRd
  unfold partO at hX
  clear hq hm hv hbig hck hBX hg
  go_enter Tryz.func9, Tryz.ntmps9
  go_wp2_with fail
  rw [← hX]
  clear hX
  with_reducible refine HRd.out.mono ?_
  rintro e w1 ⟨hb, k0, a1, a2, a3, a4, ka, kn, kc, ca, cn, cc, a7, a8, ev, rfl, ho⟩
  have HB1 := Lib.hid (HBX.out.trans (hb.mono HBX.out.size))
  have HO1 := Lib.hid ((hb.block w.heap.size (by have := HzX.out; omega)).trans HOX.out)
  have HE1 := Lib.hid (HE.out.below hb)
  have HXs : Hid (X.heap.size ≤ w1.heap.size) := hb.size
  clear hb HRd
  go_upto_region 2 with fail
  obtain ⟨Y, hY⟩ : ∃ Y, Y = w1.alloc (.cells #[.int .i64 k0, .int .i64 a1, .int .i64 a2, .int .i64 a3, .int .i64 a4, .slice ka kn kc, .slice ca cn cc, .int .i64 a7, .int .i64 a8] 31) := ⟨_, rfl⟩
  have HY9 : Hid (Y.heap[w1.heap.size]? = some (.cells #[.int .i64 k0, .int .i64 a1, .int .i64 a2, .int .i64 a3, .int .i64 a4, .slice ka kn kc, .slice ca cn cc, .int .i64 a7, .int .i64 a8] 31 (0, 0))) := by rw [hY]; exact heap_alloc_new w1 _
  have hb3 : Below w1.heap.size w1 Y := by rw [hY]; exact below_new w1 _
  have HYz : Hid (Y.heap.size = w1.heap.size + 1) := by unfold Hid; rw [hY]; simp
  have HBY := Lib.hid (HB1.out.trans (hb3.mono HB1.out.size))
  have HOY := Lib.hid ((hb3.block w.heap.size (by have := HzX.out; have := HXs.out; omega)).trans HO1.out)
  have HEY := Lib.hid (HE1.out.below hb3)
  have HB3 := Lib.hid hb3
  rw [← hY]
  clear hY hb3
  rcases read_two ho with ⟨rfl, rfl, t, r, hq, htr⟩ | ⟨z, y, rfl, hout⟩
  · have HQ := Lib.hid hq
    have HT := Lib.hid (treeAt_below htr HB3.out)
    have HO9 := HOY
    clear ho hq htr
    obtain ⟨p0, p1, p2, p3, p4, p5, p6, p7, p8⟩ := nine_of_heap HY9.out
    obtain ⟨c0, c1, c2, c3, c4, c5, c6, c7, c8⟩ := part_cells HO9.out
    obtain ⟨f0, f1, f2, f3, f4, f5, f6, f7, f8⟩ := part_frozen HO9.out
    go_wp2_with fail
    (try simp only [Exit.inBlock, Exit.then])
    have h9 := row_set9 (a0 := .int .i64 k0) (a1 := .int .i64 a1) (a2 := .int .i64 a2) (a3 := .int .i64 a3) (a4 := .int .i64 a4) (a5 := .slice ka kn kc) (a6 := .slice ca cn cc) (a7 := .int .i64 a7) (a8 := .int .i64 a8) HO9.out
    obtain ⟨g0, g1, g2, g3, g4, g5, g6, g7, g8⟩ := part_cells (k := k0) (a := a1) (b := a2) (c := a3) (d := a4) (ks := .slice ka kn kc) (cs := .slice ca cn cc) (e := a7) (f := a8) h9
    refine bodyPost_ret (v := .tuple #[.agg #[.int .i64 k0, .int .i64 a1, .int .i64 a2, .int .i64 a3, .int .i64 a4, .slice ka kn kc, .slice ca cn cc, .int .i64 a7, .int .i64 a8], .int .i64 0]) (by simp [results, Tryz.results9, go_sem, g0, g1, g2, g3, g4, g5, g6, g7, g8]) rfl ?_
    exact ⟨below_set9 HBY.out (Nat.le_refl _), k0, a1, a2, a3, a4, ka, kn, kc, ca, cn, cc, a7, a8, 0, rfl, by rw [HQ.out]; exact .inl ⟨rfl, rfl, treeAt.keep (fun q hq _ => ⟨heap_set9 (by have := HzX.out; omega), by have := HzX.out; omega⟩) _ _ HT.out⟩⟩
  · have HOut := Lib.hid hout
    have HN := Lib.hid (numberOf_any (z : Int) y Y HEY.out)
    clear ho hout
    unfold fltV at HN ⊢
    go_wp2_with fail
    with_reducible refine HN.out.mono ?_
    rintro e w5 ⟨rfl, hb5⟩
    have HO9 := Lib.hid ((hb5.block w.heap.size (by have := HzX.out; have := HXs.out; have := HYz.out; omega)).trans HOY.out)
    have HBe := Lib.hid (HBY.out.trans (hb5.mono HBY.out.size))
    clear hb5
    obtain ⟨c0, c1, c2, c3, c4, c5, c6, c7, c8⟩ := part_cells HO9.out
    obtain ⟨f0, f1, f2, f3, f4, f5, f6, f7, f8⟩ := part_frozen HO9.out
    go_wp2_with fail
    (try simp only [Exit.inBlock, Exit.then])
    have h9 := row_set9 (a0 := .int .i64 0) (a1 := .int .i64 0) (a2 := .int .i64 0) (a3 := .int .i64 0) (a4 := .int .i64 0) (a5 := .slice none 0 0) (a6 := .slice none 0 0) (a7 := .int .i64 0) (a8 := .int .i64 0) HO9.out
    obtain ⟨g0, g1, g2, g3, g4, g5, g6, g7, g8⟩ := part_cells (k := 0) (a := 0) (b := 0) (c := 0) (d := 0) (ks := .slice none 0 0) (cs := .slice none 0 0) (e := 0) (f := 0) h9
    refine bodyPost_ret (v := .tuple #[.agg #[.int .i64 0, .int .i64 0, .int .i64 0, .int .i64 0, .int .i64 0, .slice none 0 0, .slice none 0 0, .int .i64 0, .int .i64 0], .int .i64 y]) (by simp [results, Tryz.results9, go_sem, g0, g1, g2, g3, g4, g5, g6, g7, g8]) rfl ?_
    exact ⟨below_set9 HBe.out (Nat.le_refl _), 0, 0, 0, 0, 0, none, 0, 0, none, 0, 0, 0, 0, y, rfl, HOut.out _ _ _⟩
end Go.Proofs.YtedminjnnhlknaaGreatDoor

/- Contracts of package record: Size; Put and Get of the trees of Parse. -/
namespace Go.Proofs.YtedminjnnhlknaaGreatDoor
open Go Go.RowKit

def sizeQ (rec : List UInt8) : Rs Nat := (headP rec).bind fun _ s => numP s
def sizePost (q : Rs Nat) (w : World) (e : Ending) (w' : World) : Prop := Below w.heap.size w w' ∧ match q with
  | .ok n _ => e = .returned (.tuple #[.int .i64 (n : Int), .bool true])
  | .no _ => e = .returned (.tuple #[.int .i64 0, .bool false])
set_option maxRecDepth 100000 in
set_option maxHeartbeats 4000000 in
theorem recSize_any (v : Value) (rec : List UInt8) (w : World) (hv : bytesArg w v rec) (hbig : rec.length ≤ 1000000) : Calls Tryz.prog 14 #[v] w (sizePost (sizeQ rec) w) := by
  have HOp := Lib.hid (recOpen_any v rec w hv hbig)
  have HQ : Hid (sizeQ rec = (headP rec).bind fun _ s => numP s) := rfl
  obtain ⟨q, hq⟩ : ∃ q, q = sizeQ rec := ⟨_, rfl⟩
  obtain ⟨l, hl⟩ : ∃ l, l = rec.take (rec.length - 4) := ⟨_, rfl⟩
  unfold openPost at HOp
  rw [← hl] at HOp
  rw [← hq] at HQ ⊢
  clear hq hl hv hbig
  cases hh : headP rec with
  | no x =>
    rw [hh] at HOp HQ
    have HQ3 : Hid (q = .no x) := HQ.out
    clear HQ hh
    go_enter Tryz.func14, Tryz.ntmps14
    go_wp2_with fail
    with_reducible refine HOp.out.mono ?_
    rintro e w1 ⟨hb, rfl⟩
    have HB := Lib.hid hb
    clear hb
    unfold fltV
    go_wp2_with fail
    go_ret2
    unfold sizePost
    rw [HQ3.out]
    exact ⟨HB.out, rfl⟩
  | ok _ s =>
    rw [hh] at HOp HQ
    have HQ2 : Hid (q = numP s) := HQ.out
    clear HQ hh
    go_enter Tryz.func14, Tryz.ntmps14
    go_wp2_with fail
    with_reducible refine HOp.out.mono ?_
    rintro e w1 ⟨hb, R, b, off, cap, rfl, hsrc, hat⟩
    have HN := Lib.hid (recNumber_any w R b off cap l hsrc s w1 hb hat)
    have HB := Lib.hid hb
    have HR : Hid (w.heap.size ≤ R) := hsrc.base
    unfold numPost at HN
    clear hb hsrc hat HOp
    cases hn : numP s with
    | no x =>
      rw [hn] at HN
      have HQ3 : Hid (q = .no x) := by unfold Hid; rw [HQ2.out, hn]
      clear HQ2 hn
      go_wp2_with fail
      with_reducible refine HN.out.mono ?_
      rintro e w2 ⟨hg, z, r, rfl, ha⟩
      have HB2 := Lib.hid (below_base HB.out HR.out hg)
      clear hg ha
      unfold fltV
      go_wp2_with fail
      refine wp_region_below (by kernel_rfl) (by kernel_rfl) ?_
      repeat (go_big_quiet_step (fail))
      refine wpQuiet_nil ?_
      rintro _ ⟨zz, rfl⟩
      have HB3 := Lib.hid (HB2.out.trans (zz.h.mono HB2.out.size))
      go_wp2_with fail
      go_ret2
      unfold sizePost
      rw [HQ3.out]
      exact ⟨HB3.out, rfl⟩
    | ok n r =>
      rw [hn] at HN
      have HQ3 : Hid (q = .ok n r) := by unfold Hid; rw [HQ2.out, hn]
      clear HQ2 hn
      go_wp2_with fail
      with_reducible refine HN.out.mono ?_
      rintro e w2 ⟨hg, rfl, ha⟩
      have HB2 := Lib.hid (below_base HB.out HR.out hg)
      clear hg ha
      go_wp2_with fail
      refine wp_region_below (by kernel_rfl) (by kernel_rfl) ?_
      repeat (go_big_quiet_step (fail))
      refine wpQuiet_nil ?_
      rintro _ ⟨zz, rfl⟩
      have HB3 := Lib.hid (HB2.out.trans (zz.h.mono HB2.out.size))
      go_wp2_with fail
      go_ret2
      unfold sizePost
      rw [HQ3.out]
      exact ⟨HB3.out, rfl⟩
theorem tree_read (l : List UInt8) (hl : l.length ≤ 100000) : treeP 33 0 (putT (treeS l)) = .ok (treeS l) [] := by
  obtain ⟨h1, h2, h3, h4⟩ := tree_Q l
  have := treeP_put (treeS l) 32 l.length [] h1 (by rw [h2]; exact h4) (by omega) (tree_deep l) (tree_count l)
  rw [h2, List.append_nil] at this
  exact this
theorem putR_len (l : List UInt8) (_ : l.length ≤ 100000) : (putR l (treeS l)).length ≤ 200000 := by
  have h1 := putT_len (treeS l)
  have h2 := tree_count l
  have h3 := numB_len l.length
  unfold putR
  rw [seal_len]
  simp only [coreL, frontL, List.length_cons, List.length_append, sum4_len]
  omega
/-- Put of a message's own tree. -/
theorem putOwn_any (v : Value) (l : List UInt8) (u : Value) (w : World) (hv : bytesArg w v l) (hbig : l.length ≤ 100000) (hu : treeAt (fun k => k < w.heap.size) w (treeS l) u) :
    Calls Tryz.prog 8 #[v, u] w fun e w' => ∃ r, e = .returned (.tuple #[r, .int .i64 0]) ∧ bytesArg w' r (putR l (treeS l)) ∧ Below w.heap.size w w' := by
  obtain ⟨h1, h2, h3, h4⟩ := tree_Q l
  refine (put_any v l (treeS l) u w hv hbig h1 (tree_count l) (tree_deep l) h4 hu).mono ?_
  rintro e w' ⟨r, h5, h6, h7⟩
  exact ⟨r, h5, bytesArg_owned h6, h7⟩
/-- Get of a record of a message's own tree: for that message, or for one of another length. -/
theorem getOwn_any (mv v : Value) (l msg : List UInt8) (w : World) (hm : bytesArg w mv msg) (hv : bytesArg w v (putR l (treeS l))) (hbig : l.length ≤ 100000) (hg : errG w) (y : Int)
    (hy : (msg = l ∧ y = 0) ∨ (msg.length ≠ l.length ∧ y = 34)) :
    Calls Tryz.prog 9 #[mv, v] w fun e w' => Below w.heap.size w w' ∧ ∃ (k0 a1 a2 a3 a4 : Int) (ka : Option Addr) (kn kc : Nat) (ca : Option Addr) (cn cc : Nat) (a7 a8 : Int),
      e = .returned (.tuple #[.agg #[.int .i64 k0, .int .i64 a1, .int .i64 a2, .int .i64 a3, .int .i64 a4, .slice ka kn kc, .slice ca cn cc, .int .i64 a7, .int .i64 a8], .int .i64 y]) ∧
      (y = 0 → treeAt (fun k => w.heap.size ≤ k) w' (treeS l) (.agg #[.int .i64 k0, .int .i64 a1, .int .i64 a2, .int .i64 a3, .int .i64 a4, .slice ka kn kc, .slice ca cn cc, .int .i64 a7, .int .i64 a8])) := by
  obtain ⟨h1, h2, h3, h4⟩ := tree_Q l
  have hrd := readP_put (T := treeP 33 0) l msg (treeS l) (by omega) (tree_read l hbig)
  have hlen := putR_len l hbig
  refine (recGet_any 0 mv v msg (putR l (treeS l)) w hm hv (by omega) hg ?_).mono ?_
  · intro t ht S W k0 a1 a2 a3 a4 ka kn kc ca cn cc a7 a8 hu
    rw [hrd] at ht
    split at ht
    · next hc =>
      cases ht
      have hx := treeAt_open hu
      obtain ⟨_, _, _, _, _, _, _, he, _, _, _⟩ := hx
      simp only [Value.agg.injEq, Array.mk.injEq, List.cons.injEq, Value.int.injEq] at he
      obtain ⟨-, ⟨-, rfl⟩, -, -, ⟨-, rfl⟩, -⟩ := he
      rw [h2, h3] at hu ⊢
      rw [← hc.1]
      exact check_yes (treeS l) l.length h1 (tree_count l) (tree_deep l) h4 k0 a2 a3 a7 a8 ka ca kn kc cn cc W hu
    · cases ht
  · rintro e w' ⟨hb, k0, a1, a2, a3, a4, ka, kn, kc, ca, cn, cc, a7, a8, code, rfl, ho⟩
    rw [hrd] at ho
    rcases hy with ⟨rfl, rfl⟩ | ⟨hne, rfl⟩
    · rw [if_pos ⟨rfl, rfl⟩] at ho
      rcases ho with ⟨_, rfl, ht⟩ | ⟨h, _⟩
      · exact ⟨hb, k0, a1, a2, a3, a4, ka, kn, kc, ca, cn, cc, a7, a8, rfl, fun _ => ht⟩
      · exact absurd rfl h
    · rw [if_neg (fun h => hne h.1.symm)] at ho
      have : code = 34 := ho
      subst this
      exact ⟨hb, k0, a1, a2, a3, a4, ka, kn, kc, ca, cn, cc, a7, a8, rfl, fun h => by omega⟩
theorem putR_ne (l m : List UInt8) (hl : l.length ≤ 100000) (hm : m.length ≤ 100000) (hne : l.length ≠ m.length) : putR l (treeS l) ≠ putR m (treeS m) := fun h => by
  have h1 := readP_put (T := treeP 33 0) l l (treeS l) (by omega) (tree_read l hl)
  have h2 := readP_put (T := treeP 33 0) m l (treeS m) (by omega) (tree_read m hm)
  rw [h, h2, if_neg (fun h => hne h.1.symm), if_pos ⟨rfl, rfl⟩] at h1
  cases h1
end Go.Proofs.YtedminjnnhlknaaGreatDoor

/- The example that every statement of record asks first. -/
namespace Go.Proofs.YtedminjnnhlknaaGreatDoor
open Go Go.RowKit

theorem kind_of {S : Nat → Prop} {W : World} {t : Tr} {k0 : Int} {u1 u2 u3 u4 u5 u6 u7 u8 : Value} (h : treeAt S W t (.agg #[.int .i64 k0, u1, u2, u3, u4, u5, u6, u7, u8])) : k0 = (t.kind : Int) := by
  obtain ⟨_, _, _, _, _, _, _, he, _, _, _⟩ := treeAt_open h
  simp only [Value.agg.injEq, Array.mk.injEq, List.cons.injEq, Value.int.injEq] at he
  exact he.1.2
theorem block_lt_of_some {w : World} {k : Nat} {o : Obj} (h : w.heap[k]? = some o) : k < w.heap.size := (Array.getElem?_eq_some_iff.1 h).1
set_option maxRecDepth 100000 in
theorem nil_tree : treeS [] = .mk 0 (0, 0) (0, 0) [] [] (0, 0) := by kernel_rfl
theorem putR_head (l : List UInt8) (t : Tr) : ∃ X, putR l t = 76 :: 66 :: 1 :: X := ⟨_, rfl⟩
theorem nil_len : (putR [] (treeS [])).length = 15 := by
  rw [nil_tree]
  unfold putR
  rw [seal_len]
  simp [coreL, frontL, putT_mk, sum4_len, numB_low]
theorem size_put (l : List UInt8) (t : Tr) (hl : l.length < 1099511627776) : ∃ X, sizeQ (putR l t) = .ok l.length X := by
  unfold sizeQ putR
  rw [headP_seal, (core_head l t).1, if_pos rfl, (core_head l t).2]
  exact ⟨_, numP_put hl _⟩
set_option maxRecDepth 100000 in
set_option maxHeartbeats 8000000 in
theorem awake14_any (w : World) (he : env w) (hg : errG w) : Calls Tryz.prog 6 #[] w fun e w' => e = .returned (.bool true) ∧ Below w.heap.size w w' := by
  have hPa := parse13_any (.slice none 0 0) [] w (bytesArg_nil w) (by decide) he
  rw [show (([] : List UInt8).length : Int) = 0 from rfl] at hPa
  have HPa := Lib.hid hPa
  have HG := Lib.hid hg
  have kc := fun (w : World) (C : Array Value) (n c : Nat) => Lib.run_convert_bytes_const (P := Tryz.prog) w 22 5 C n c Tryz.underlying22 Tryz.underlying5
  clear hPa hg he
  go_enter Tryz.func6, Tryz.ntmps6
  go_wp2_with fail
  with_reducible refine HPa.out.mono ?_
  rintro e w1 ⟨kd, h2, b1, e1, e2, ka, kn, kc1, ca, cn, cc, rfl, ht, hb1⟩
  go_upto_region 2 with fail
  obtain ⟨Y, hY⟩ : ∃ Y, Y = w1.alloc (.cells #[.int .i64 kd, .int .i64 0, .int .i64 h2, .int .i64 b1, .int .i64 0, .slice ka kn kc1, .slice ca cn cc, .int .i64 e1, .int .i64 e2] 31) := ⟨_, rfl⟩
  have hbY : Below w1.heap.size w1 Y := by rw [hY]; exact below_new w1 _
  have HY9 : Hid (Y.heap[w1.heap.size]? = some (.cells #[.int .i64 kd, .int .i64 0, .int .i64 h2, .int .i64 b1, .int .i64 0, .slice ka kn kc1, .slice ca cn cc, .int .i64 e1, .int .i64 e2] 31 (0, 0))) := by rw [hY]; exact heap_alloc_new w1 _
  have HYz : Hid (Y.heap.size = w1.heap.size + 1) := by unfold Hid; rw [hY]; simp
  have HBY := Lib.hid (hb1.trans (hbY.mono hb1.size))
  have htY : treeAt (fun k => k < Y.heap.size) Y (treeS []) (.agg #[.int .i64 kd, .int .i64 0, .int .i64 h2, .int .i64 b1, .int .i64 0, .slice ka kn kc1, .slice ca cn cc, .int .i64 e1, .int .i64 e2]) := treeAt.keep (fun q _ hq => ⟨hbY.block q hq, Nat.lt_of_lt_of_le hq hbY.size⟩) _ _ ht
  have HKd := Lib.hid (kind_of ht)
  have HPu := Lib.hid (putOwn_any (.slice none 0 0) [] _ Y (bytesArg_nil Y) (by decide) htY)
  rw [← hY]
  obtain ⟨p0, p1, p2, p3, p4, p5, p6, p7, p8⟩ := nine_of_heap HY9.out
  clear hY hbY hb1 ht htY HPa
  go_wp2_with fail
  with_reducible refine HPu.out.mono ?_
  rintro e w2 ⟨r, rfl, hr, hb2⟩
  have HB2 := Lib.hid (HBY.out.trans (hb2.mono HBY.out.size))
  have HY2 := Lib.hid ((hb2.block w1.heap.size (by have := HYz.out; omega)).trans HY9.out)
  have HZ2 : Hid (w1.heap.size < w2.heap.size) := by unfold Hid; have := HYz.out; have := hb2.size; omega
  have HR := Lib.hid hr
  have HGe := Lib.hid (getOwn_any (.slice none 0 0) r [] [] w2 (bytesArg_nil w2) hr (by decide) (HG.out.below HB2.out) 0 (.inl ⟨rfl, rfl⟩))
  clear hr hb2 p0 p1 p2 p3 p4 p5 p6 p7 p8 HPu
  go_wp2_with fail
  with_reducible refine HGe.out.mono ?_
  rintro e w3 ⟨hb3, k0, a1, a2, a3, a4, kb, km, kz, cb, cm, cz, a7, a8, rfl, hz⟩
  have hk0 := (kind_of (hz trivial)).trans HKd.out.symm
  subst hk0
  go_upto_region 4 with fail
  obtain ⟨Z, hZ⟩ : ∃ Z, Z = w3.alloc (.cells #[.int .i64 k0, .int .i64 a1, .int .i64 a2, .int .i64 a3, .int .i64 a4, .slice kb km kz, .slice cb cm cz, .int .i64 a7, .int .i64 a8] 31) := ⟨_, rfl⟩
  have hbZ : Below w3.heap.size w3 Z := by rw [hZ]; exact below_new w3 _
  have HZ9 : Hid (Z.heap[w3.heap.size]? = some (.cells #[.int .i64 k0, .int .i64 a1, .int .i64 a2, .int .i64 a3, .int .i64 a4, .slice kb km kz, .slice cb cm cz, .int .i64 a7, .int .i64 a8] 31 (0, 0))) := by rw [hZ]; exact heap_alloc_new w3 _
  have HZz : Hid (Z.heap.size = w3.heap.size + 1) := by unfold Hid; rw [hZ]; simp
  have hb23 := hb3.trans (hbZ.mono hb3.size)
  have HBZ := Lib.hid (HB2.out.trans (hb23.mono HB2.out.size))
  have HYZ := Lib.hid ((hb23.block w1.heap.size HZ2.out).trans HY2.out)
  have HRZ := Lib.hid (HR.out.below hb23)
  have HZ3 : Hid (w1.heap.size < w3.heap.size) := Nat.lt_of_lt_of_le HZ2.out hb3.size
  rw [← hZ]
  clear hZ hb3 hz hb23 hbZ HGe HY2 HR HZ2
  obtain ⟨V, hV⟩ : ∃ V, V = Z.alloc (.cells #[.int .u8 120] 5 (1, 2)) := ⟨_, rfl⟩
  have hbV : Below Z.heap.size Z V := by rw [hV]; exact below_new Z _
  have hxV : bytesArg V (.slice (some ⟨Z.heap.size, 0, none⟩) 1 1) [120] := by rw [hV]; exact (sliceAt_new Z 5 (1, 2) #[.int .u8 120] [120] rfl).arg (cap := 1) (by decide) (by unfold maxLen; decide)
  have HGx := Lib.hid (getOwn_any (.slice (some ⟨Z.heap.size, 0, none⟩) 1 1) r [] [120] V hxV (HRZ.out.below hbV) (by decide) (HG.out.below (HBZ.out.trans (hbV.mono HBZ.out.size))) 34 (.inr ⟨by decide, rfl⟩))
  have HbV := Lib.hid hbV
  have HV := Lib.hid hV
  clear hbV hxV hV
  go_upto_region 5 with (first | (rw [← HV.out]; with_reducible refine HGx.out.mono ?_) | fail)
  rintro e w4 ⟨hb4, k0y, a1y, a2y, a3y, a4y, kby, kmy, kzy, cby, cmy, czy, a7y, a8y, rfl, -⟩
  go_upto_region 5 with fail
  obtain ⟨U, hU⟩ : ∃ U, U = w4.alloc (.cells #[.int .i64 k0y, .int .i64 a1y, .int .i64 a2y, .int .i64 a3y, .int .i64 a4y, .slice kby kmy kzy, .slice cby cmy czy, .int .i64 a7y, .int .i64 a8y] 31) := ⟨_, rfl⟩
  have hbU : Below w4.heap.size w4 U := by rw [hU]; exact below_new w4 _
  have hbZU := HbV.out.trans ((hb4.trans (hbU.mono hb4.size)).mono HbV.out.size)
  have HBU := Lib.hid (HBZ.out.trans (hbZU.mono HBZ.out.size))
  have HYU := Lib.hid ((hbZU.block w1.heap.size (by have := HZ3.out; have := HZz.out; omega)).trans HYZ.out)
  have HZU := Lib.hid ((hbZU.block w3.heap.size (by have := HZz.out; omega)).trans HZ9.out)
  have HRU := Lib.hid (HRZ.out.below hbZU)
  obtain ⟨SX, hSX⟩ := size_put [] (treeS []) (by decide)
  have hSz := recSize_any r _ U HRU.out (by rw [nil_len]; decide)
  rw [hSX] at hSz
  have HSz : Hid (Calls Tryz.prog 14 #[r] U fun e w' => Below U.heap.size U w' ∧ e = .returned (.tuple #[.int .i64 0, .bool true])) := hSz
  rw [← hU]
  clear hU hb4 hbU hbZU hSz hSX HGx kc HbV HV HRZ HYZ HBZ HB2 HZ9
  go_wp2_with fail
  with_reducible refine HSz.out.mono ?_
  rintro e w5 ⟨hb5, rfl⟩
  have HB5 := Lib.hid (HBU.out.trans (hb5.mono HBU.out.size))
  have y1 := nine_of_heap ((hb5.block w1.heap.size (block_lt_of_some HYU.out)).trans HYU.out)
  have y2 := nine_of_heap ((hb5.block w3.heap.size (block_lt_of_some HZU.out)).trans HZU.out)
  obtain ⟨q0, -⟩ := y1
  obtain ⟨s0, -⟩ := y2
  have hr5 := HRU.out.below hb5
  obtain ⟨X, hX⟩ := putR_head [] (treeS [])
  obtain ⟨ro, rcap, rfl, r1, r2, r3⟩ := hr5
  rw [nil_len] at r1 ⊢
  rcases r3 with r3 | ⟨b, off, rfl, _, hc⟩
  · rw [hX] at r3; cases r3
  have hx0 := hc 0 (by rw [nil_len]; decide)
  have hx2 := hc 2 (by rw [nil_len]; decide)
  simp only [hX, List.getElem_cons_zero, List.getElem_cons_succ] at hx0 hx2
  have x0 : w5.cell? ⟨b, off, none⟩ = some (.int .u8 76) := hx0
  have x2 : w5.cell? ⟨b, off + 2, none⟩ = some (.int .u8 1) := hx2
  clear hx0 hx2 hc hX hb5 HSz
  go_wp2_with fail
  go_ret
  exact ⟨rfl, HB5.out⟩
end Go.Proofs.YtedminjnnhlknaaGreatDoor

/- The laws of layer 14 (record): RecordSmall. -/
namespace Go.Proofs.YtedminjnnhlknaaGreatDoor
open Go Go.RowKit

theorem box_new {w : World} {cs : Array Value} {t : TypeId} {l : List UInt8} {u : Value} {S : Nat → Prop} (h : treeAt S w (treeS l) u) :
    treeAt (fun k => k < (w.alloc (.cells cs t)).heap.size) (w.alloc (.cells cs t)) (treeS l) u :=
  treeAt.keep (fun q _ hq => ⟨(below_new w _).block q hq, Nat.lt_of_lt_of_le hq (below_new w _).size⟩) _ _ h
theorem tree_lt {w W : World} {l : List UInt8} {u : Value} (h : treeAt (fun k => k < w.heap.size) w (treeS l) u) (hb : Below w.heap.size w W) : treeAt (fun k => k < W.heap.size) W (treeS l) u :=
  treeAt.keep (fun q hq _ => ⟨hb.block q hq, Nat.lt_of_lt_of_le hq hb.size⟩) _ _ h
set_option maxRecDepth 100000 in
set_option maxHeartbeats 4000000 in
theorem recordSmall_any (v : Value) (l : List UInt8) (n : UInt8) (w : World) (hv : bytesArg w v l) (he : env w) (hg : errG w) :
    Calls Tryz.prog 4 #[v, .int .u8 (n.toNat : Int)] w fun e w' => e = .returned (.bool true) ∧ Below w.heap.size w w' := by
  obtain ⟨i0, hi, hz0, hz1, hz2⟩ := info_parts Tryz.infoB
  have HAw := Lib.hid (awake14_any w he hg)
  have HE := Lib.hid he
  have HG := Lib.hid hg
  have HV := Lib.hid hv
  obtain ⟨ao, cap, rfl, hc, hm, hs⟩ := hv
  have HS : Hid (sliceAt w ao l) := hs
  clear hs he hg
  by_cases hbig : 600 < l.length
  · have hd : (600 : Int) < (l.length : Int) := by omega
    have hdd : decide ((600 : Int) < (l.length : Int)) = true := decide_eq_true hd
    have hd2 : decide (600 < l.length) = true := decide_eq_true hbig
    go_enter Tryz.func4, Tryz.ntmps4
    go_wp2_with fail
    with_reducible refine HAw.out.mono ?_
    rintro e w1 ⟨rfl, hb1⟩
    have HB1 := Lib.hid hb1; clear hb1
    go_wp2_with fail
    go_ret
    exact ⟨rfl, HB1.out⟩
  have hd : ¬ (600 : Int) < (l.length : Int) := by omega
  have hdd : decide ((600 : Int) < (l.length : Int)) = false := decide_eq_false hd
  have hd2 : decide (600 < l.length) = false := decide_eq_false hbig
  obtain ⟨m, hm15, hmm⟩ : ∃ m : Nat, m ≤ 15 ∧ bits .and .u8 (n.toNat : Int) 15 = (m : Int) := ⟨n.toNat &&& 15, Nat.and_le_right, and_u8 n.toNat 15 n.toNat_lt (by decide)⟩
  go_enter Tryz.func4, Tryz.ntmps4
  go_wp2_with fail
  with_reducible refine HAw.out.mono ?_
  rintro e w1 ⟨rfl, hb1⟩
  have HB1 := Lib.hid hb1
  clear hb1 HAw
  go_wp2_with (at_builtin; refine wpList_append_bytes rfl _ _ 22 rfl w1.heap.size 5 i0 Tryz.underlying22 hi hz0 hz1 hz2 _ _ _ rfl (World.ownsRow_nil _ _ _ _) ao cap l rfl (HS.out.below HB1.out) ?c1 ?c2 ?_)
  case c1 => omega
  case c2 => exact Nat.le_refl _
  intro v2 w2 hown2 hgrow2
  have hb2 : Below w1.heap.size w1 w2 := ⟨hgrow2.os, hgrow2.tape, hgrow2.output, hgrow2.size, fun k hk => hgrow2.block k hk (fun e => by cases e)⟩
  have HB2 := Lib.hid (HB1.out.trans (hb2.mono HB1.out.size))
  have HR2 : Hid (rowB w1.heap.size v2 l w2) := by
    unfold Hid rowB
    exact hown2
  have HZ2 : Hid (w1.heap.size ≤ w2.heap.size) := hb2.size
  clear hown2 hgrow2 hb2
  go_wp2_with fail
  go_loopg [6, 7] (m + 1) (fun gg x6 x7 wr => ∃ (k : Nat), k ≤ m + 1 ∧ gg = m + 1 - k ∧ x7 = .int .i64 (k : Int) ∧ Hid (rowB w1.heap.size x6 (l ++ List.replicate k 120) wr) ∧ Hid (Below w.heap.size w wr) ∧ Hid (w1.heap.size ≤ wr.heap.size))
  case atStart => exact ⟨0, by omega, by omega, rfl, (by simpa [Hid] using HR2.out), HB2.out, HZ2.out⟩
  case round =>
    obtain ⟨k, hk, rfl, rfl, HRr, HBr, HZr⟩ := hrel
    by_cases hlt : k < m + 1
    · have hl1 : (k : Int) ≤ (m : Int) := by omega
      have hl2 : decide ((k : Int) ≤ (m : Int)) = true := decide_eq_true hl1
      have hl3 : decide (k ≤ m) = true := decide_eq_true (by omega)
      have hrr := HRr.out
      unfold rowB at hrr
      have HRw := Lib.hid hrr
      have hz : w1.heap.size ≤ wr.heap.size := HZr.out
      obtain ⟨ws, hws⟩ : ∃ ws, ws = l ++ List.replicate k 120 := ⟨_, rfl⟩
      have hle : ws.length ≤ 700 := by rw [hws, List.length_append, List.length_replicate]; omega
      have HWs : Hid (l ++ List.replicate (k + 1) 120 = ws ++ [120]) := by unfold Hid; rw [hws, List.replicate_succ', List.append_assoc]
      rw [← hws] at HRw
      have hvb := Lib.hid (own_ge HRr.out)
      clear hrr hws
      go_wp2_with (at_builtin; refine wpList_append_lies _ rfl _ _ 22 rfl w1.heap.size 5 i0 (.int .u8 0) 1 1 Tryz.underlying22 hi hz0 hz1 hz2 rfl (by decide) _ ws.length (ws.map byteV) rfl (HRw.out.alloc _) ⟨wr.heap.size, 0, none⟩ 1 1 [byteV 120] rfl rfl (cell_one_new wr _ _) (news_one [120]) (by decide) (by unfold maxLen; omega) (by omega) (by simp; omega) _ rfl ?_; intro g13 cap13 w13 hown13 hgrow13 hor13 hlt13)
      have HR3 := Lib.hid (rowB_snoc hown13 rfl)
      have hb13 : Below w1.heap.size wr w13 := ((below_new wr _).mono hz).trans ⟨hgrow13.os, hgrow13.tape, hgrow13.output, hgrow13.size, fun q hq => hgrow13.block q (by simp; omega) (fun e => by have := hvb.out q e.symm; omega)⟩
      have HB13 := Lib.hid (HBr.out.trans (hb13.mono HB1.out.size))
      have HZ13 : Hid (w1.heap.size ≤ w13.heap.size) := Nat.le_trans hz hb13.size
      clear hown13 hgrow13 hor13 hb13
      go_wp2_with fail
      go_roundg (m + 1 - (k + 1))
      case measure => omega
      case rel => exact ⟨k + 1, by omega, rfl, by go_num, by rw [HWs.out]; exact HR3.out, HB13.out, HZ13.out⟩
    · have hl3 : ¬ (k : Int) ≤ (m : Int) := by omega
      have hl4 : decide ((k : Int) ≤ (m : Int)) = false := decide_eq_false hl3
      have hl5 : decide (k ≤ m) = false := decide_eq_false (by omega)
      have hbl : (l ++ List.replicate k 120).length = l.length + k := by rw [List.length_append, List.length_replicate]
      have hk1 : 1 ≤ k := by omega
      obtain ⟨b, hb⟩ : ∃ b, b = l ++ List.replicate k (120 : UInt8) := ⟨_, rfl⟩
      rw [← hb] at HRr hbl
      have hne : l.length ≠ b.length := by omega
      have hbb : b.length ≤ 100000 := by omega
      have hlb : l.length ≤ 100000 := by omega
      have HNe := Lib.hid hne
      have HBb := Lib.hid hbb
      have HLb := Lib.hid hlb
      have hba := bytesArg_owned HRr.out
      obtain ⟨bo, bcap, hbv, -, -, -⟩ := hba
      have HBa : Hid (bytesArg wr (.slice bo b.length bcap) b) := by rw [← hbv]; exact bytesArg_owned HRr.out
      subst hbv
      have HPa := Lib.hid (parse13_any (.slice ao l.length cap) l wr (HV.out.below HBr.out) hlb (HE.out.below HBr.out))
      clear hb hbl hk1 hne hbb hlb hlt hk HRr
      go_wp2_with fail
      with_reducible refine HPa.out.mono ?_
      rintro e w3 ⟨kd, h2, b1, e1, e2, ka, kn, kc, ca, cn, cc, rfl, ht, hb3⟩
      clear HPa
      go_upto_region 13 with fail
      obtain ⟨Y, hY⟩ : ∃ Y, Y = w3.alloc (.cells #[.int .i64 kd, .int .i64 0, .int .i64 h2, .int .i64 b1, .int .i64 (l.length : Int), .slice ka kn kc, .slice ca cn cc, .int .i64 e1, .int .i64 e2] 31) := ⟨_, rfl⟩
      have hbY : Below w3.heap.size w3 Y := by rw [hY]; exact below_new w3 _
      have HY9 : Hid (Y.heap[w3.heap.size]? = some (.cells #[.int .i64 kd, .int .i64 0, .int .i64 h2, .int .i64 b1, .int .i64 (l.length : Int), .slice ka kn kc, .slice ca cn cc, .int .i64 e1, .int .i64 e2] 31 (0, 0))) := by rw [hY]; exact heap_alloc_new w3 _
      have HY3 : Hid (w3.heap.size < Y.heap.size) := by unfold Hid; rw [hY]; simp
      have HTY : Hid (treeAt (fun k => k < Y.heap.size) Y (treeS l) (.agg #[.int .i64 kd, .int .i64 0, .int .i64 h2, .int .i64 b1, .int .i64 (l.length : Int), .slice ka kn kc, .slice ca cn cc, .int .i64 e1, .int .i64 e2])) := by rw [hY]; exact box_new ht
      have hrY := hb3.trans (hbY.mono hb3.size)
      have HBY := Lib.hid (HBr.out.trans (hrY.mono HBr.out.size))
      have HBaY := Lib.hid (HBa.out.below hrY)
      rw [← hY]
      have HPb := Lib.hid (parse13_any (.slice bo b.length bcap) b Y HBaY.out HBb.out (HE.out.below HBY.out))
      clear hY hbY ht hb3 hrY HBa
      go_wp2_with fail
      with_reducible refine HPb.out.mono ?_
      rintro e w4 ⟨kdq, h2q, b1q, e1q, e2q, kaq, knq, kcq, caq, cnq, ccq, rfl, ht, hb4⟩
      clear HPb
      go_upto_region 14 with fail
      obtain ⟨Z, hZ⟩ : ∃ Z, Z = w4.alloc (.cells #[.int .i64 kdq, .int .i64 0, .int .i64 h2q, .int .i64 b1q, .int .i64 (b.length : Int), .slice kaq knq kcq, .slice caq cnq ccq, .int .i64 e1q, .int .i64 e2q] 31) := ⟨_, rfl⟩
      have hbZ : Below w4.heap.size w4 Z := by rw [hZ]; exact below_new w4 _
      have HZ9 : Hid (Z.heap[w4.heap.size]? = some (.cells #[.int .i64 kdq, .int .i64 0, .int .i64 h2q, .int .i64 b1q, .int .i64 (b.length : Int), .slice kaq knq kcq, .slice caq cnq ccq, .int .i64 e1q, .int .i64 e2q] 31 (0, 0))) := by rw [hZ]; exact heap_alloc_new w4 _
      have HZ4 : Hid (w4.heap.size < Z.heap.size) := by unfold Hid; rw [hZ]; simp
      have HTZ : Hid (treeAt (fun k => k < Z.heap.size) Z (treeS b) (.agg #[.int .i64 kdq, .int .i64 0, .int .i64 h2q, .int .i64 b1q, .int .i64 (b.length : Int), .slice kaq knq kcq, .slice caq cnq ccq, .int .i64 e1q, .int .i64 e2q])) := by rw [hZ]; exact box_new ht
      have hYZ := hb4.trans (hbZ.mono hb4.size)
      have HBZ := Lib.hid (HBY.out.trans (hYZ.mono HBY.out.size))
      have HBaZ := Lib.hid (HBaY.out.below hYZ)
      have HYZ9 := Lib.hid ((hYZ.block _ HY3.out).trans HY9.out)
      have HTYZ := Lib.hid (tree_lt HTY.out hYZ)
      rw [← hZ]
      have HPu := Lib.hid (putOwn_any (.slice ao l.length cap) l _ Z (HV.out.below HBZ.out) HLb.out HTYZ.out)
      obtain ⟨p0, p1, p2, p3, p4, p5, p6, p7, p8⟩ := nine_of_heap HYZ9.out
      clear hZ hbZ ht hb4 hYZ HBaY HBY
      go_wp2_with fail
      with_reducible refine HPu.out.mono ?_
      rintro e w5 ⟨r, rfl, hr, hb5⟩
      have HB5 := Lib.hid (HBZ.out.trans (hb5.mono HBZ.out.size))
      have HBa5 := Lib.hid (HBaZ.out.below hb5)
      have HR5 := Lib.hid hr
      have HZ5 := Lib.hid ((hb5.block _ HZ4.out).trans HZ9.out)
      have HPw := Lib.hid (putOwn_any (.slice bo b.length bcap) b _ w5 HBa5.out HBb.out (tree_lt HTZ.out hb5))
      clear p0 p1 p2 p3 p4 p5 p6 p7 p8 hr hb5 HPu HBaZ HTZ HTYZ HTY
      obtain ⟨p0, p1, p2, p3, p4, p5, p6, p7, p8⟩ := nine_of_heap HZ5.out
      go_wp2_with fail
      with_reducible refine HPw.out.mono ?_
      rintro e w6 ⟨s, rfl, hs6, hb6⟩
      have HB6 := Lib.hid (HB5.out.trans (hb6.mono HB5.out.size))
      have HBa6 := Lib.hid (HBa5.out.below hb6)
      have HR6 := Lib.hid (HR5.out.below hb6)
      have HS6 := Lib.hid hs6
      have kr := bytesArg_string HR6.out
      have ks := bytesArg_string HS6.out
      have kn2 : (putR l (treeS l) == putR b (treeS b)) = false := beq_eq_false_iff_ne.2 (putR_ne l b HLb.out HBb.out HNe.out)
      have HGa := Lib.hid (fun W (hb : Below w6.heap.size w6 W) => getOwn_any (.slice bo b.length bcap) r l b W (HBa6.out.below hb) (HR6.out.below hb) HLb.out (HG.out.below (HB6.out.trans (hb.mono HB6.out.size))) 34 (.inr ⟨fun e => HNe.out e.symm, rfl⟩))
      have HGb := Lib.hid (fun W (hb : Below w6.heap.size w6 W) => getOwn_any (.slice ao l.length cap) s b l W (HV.out.below (HB6.out.trans (hb.mono HB6.out.size))) (HS6.out.below hb) HBb.out (HG.out.below (HB6.out.trans (hb.mono HB6.out.size))) 34 (.inr ⟨HNe.out, rfl⟩))
      have HGc := Lib.hid (fun W (hb : Below w6.heap.size w6 W) => getOwn_any (.slice ao l.length cap) r l l W (HV.out.below (HB6.out.trans (hb.mono HB6.out.size))) (HR6.out.below hb) HLb.out (HG.out.below (HB6.out.trans (hb.mono HB6.out.size))) 0 (.inl ⟨rfl, rfl⟩))
      clear p0 p1 p2 p3 p4 p5 p6 p7 p8 hs6 hb6 HPw HZ5 HR5 HBa5 HYZ9
      go_wp2_with fail
      with_reducible refine (HGa.out _ (Below.refl _ _)).mono ?_
      rintro e w7 ⟨hb7, k0, a1, a2, a3, a4, kb, km, kz, cb, cm, cz, a7, a8, rfl, -⟩
      have HB7 : Hid (Below w6.heap.size w6 w7) := hb7
      clear hb7 kr ks kn2 HGa
      go_upto_region 19 with fail
      obtain ⟨U, hU⟩ : ∃ U, U = w7.alloc (.cells #[.int .i64 k0, .int .i64 a1, .int .i64 a2, .int .i64 a3, .int .i64 a4, .slice kb km kz, .slice cb cm cz, .int .i64 a7, .int .i64 a8] 31) := ⟨_, rfl⟩
      have HBU : Hid (Below w6.heap.size w6 U) := by unfold Hid; rw [hU]; exact HB7.out.trans ((below_new w7 _).mono HB7.out.size)
      rw [← hU]
      clear hU HB7
      go_wp2_with fail
      with_reducible refine (HGb.out _ HBU.out).mono ?_
      rintro e w8 ⟨hb8, k0y, a1y, a2y, a3y, a4y, kby, kmy, kzy, cby, cmy, czy, a7y, a8y, rfl, -⟩
      have HB8 : Hid (Below w6.heap.size w6 w8) := HBU.out.trans (hb8.mono HBU.out.size)
      clear hb8 HGb HBU
      go_upto_region 20 with fail
      obtain ⟨U2, hU⟩ : ∃ U, U = w8.alloc (.cells #[.int .i64 k0y, .int .i64 a1y, .int .i64 a2y, .int .i64 a3y, .int .i64 a4y, .slice kby kmy kzy, .slice cby cmy czy, .int .i64 a7y, .int .i64 a8y] 31) := ⟨_, rfl⟩
      have HBU : Hid (Below w6.heap.size w6 U2) := by unfold Hid; rw [hU]; exact HB8.out.trans ((below_new w8 _).mono HB8.out.size)
      rw [← hU]
      clear hU HB8
      go_wp2_with fail
      with_reducible refine (HGc.out _ HBU.out).mono ?_
      rintro e w9 ⟨hb9, k0x, a1x, a2x, a3x, a4x, kbx, kmx, kzx, cbx, cmx, czx, a7x, a8x, rfl, -⟩
      have HB9 : Hid (Below w6.heap.size w6 w9) := HBU.out.trans (hb9.mono HBU.out.size)
      clear hb9 HGc HBU
      go_upto_region 21 with fail
      obtain ⟨U3, hU⟩ : ∃ U, U = w9.alloc (.cells #[.int .i64 k0x, .int .i64 a1x, .int .i64 a2x, .int .i64 a3x, .int .i64 a4x, .slice kbx kmx kzx, .slice cbx cmx czx, .int .i64 a7x, .int .i64 a8x] 31) := ⟨_, rfl⟩
      have HBU : Hid (Below w.heap.size w U3) := by unfold Hid; rw [hU]; exact HB6.out.trans ((HB9.out.trans ((below_new w9 _).mono HB9.out.size)).mono HB6.out.size)
      rw [← hU]
      clear hU HB9
      go_wp2_with fail
      go_ret
      exact ⟨rfl, HBU.out⟩
end Go.Proofs.YtedminjnnhlknaaGreatDoor
