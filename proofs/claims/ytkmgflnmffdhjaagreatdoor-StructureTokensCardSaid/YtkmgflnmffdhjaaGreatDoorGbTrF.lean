/- Contracts of package tree: parted. -/
import Derived.Test.YtkmgflnmffdhjaaGreatDoorGbTrE
import Derived.Deep.RegionHeld3
namespace Go.Proofs.YtkmgflnmffdhjaaGreatDoor
open Go Go.RowKit

/-- A part's value. -/
def partV (kind : Nat) (hd bd : Sp) (ks cs : Value) (e : Sp) : Value :=
  .agg #[.int .i64 (kind : Int), .int .i64 (hd.1 : Int), .int .i64 (hd.2 : Int), .int .i64 (bd.1 : Int), .int .i64 (bd.2 : Int), ks, cs, .int .i64 (e.1 : Int), .int .i64 (e.2 : Int)]
def pdPost (p : Pd) (hd bd : Sp) (w : World) (e : Ending) (w' : World) : Prop :=
  ∃ a n c, e = .returned (partV p.kind hd bd (.slice none 0 0) (.slice a n c) p.e) ∧ w'.ownsRow w.heap.size 25 2 (.slice a n c) p.cuts.length (spCells p.cuts) ∧ Below w.heap.size w w'
def partO (kind hf ht bf bt : Int) (ks cs : Value) (e1 e2 : Int) : Obj :=
  .cells #[.int .i64 kind, .int .i64 hf, .int .i64 ht, .int .i64 bf, .int .i64 bt, ks, cs, .int .i64 e1, .int .i64 e2] 29 (0, 0)
theorem cell_far {W : World} {B j k g : Nat} {u : Value} (h : g ≠ B) : (W.setCell ⟨B, j, none⟩ u).cell? ⟨g, k, none⟩ = W.cell? ⟨g, k, none⟩ := World.cell?_of_block (a := ⟨g, k, none⟩) (Below.heap_setCell _ _ _ _ h)
theorem own_set9 {base size n : Nat} {W : World} {g : Nat} {ty : TypeId} {v : Value} {xs : List Value} {a0 a1 a2 a3 a4 a5 a6 a7 a8 : Value} (h : W.ownsRow base ty size v n xs) (hg : g < base) :
    (((((((((W.setCell ⟨g, 0, none⟩ a0).setCell ⟨g, 1, none⟩ a1).setCell ⟨g, 2, none⟩ a2).setCell ⟨g, 3, none⟩ a3).setCell ⟨g, 4, none⟩ a4).setCell ⟨g, 5, none⟩ a5).setCell ⟨g, 6, none⟩ a6).setCell ⟨g, 7, none⟩ a7).setCell ⟨g, 8, none⟩ a8).ownsRow base ty size v n xs := ownsRow_setCell_below (a := ⟨g, 8, none⟩) (ownsRow_setCell_below (a := ⟨g, 7, none⟩) (ownsRow_setCell_below (a := ⟨g, 6, none⟩) (ownsRow_setCell_below (a := ⟨g, 5, none⟩) (ownsRow_setCell_below (a := ⟨g, 4, none⟩) (ownsRow_setCell_below (a := ⟨g, 3, none⟩) (ownsRow_setCell_below (a := ⟨g, 2, none⟩) (ownsRow_setCell_below (a := ⟨g, 1, none⟩) (ownsRow_setCell_below (a := ⟨g, 0, none⟩) (h) hg a0) hg a1) hg a2) hg a3) hg a4) hg a5) hg a6) hg a7) hg a8
theorem boundS_len {ps : List Prm} {b : List UInt8} (h : boundS ps = some b) : b.length ≤ 70 := by
  unfold boundS at h
  split at h
  · split at h
    · next hk =>
      cases h
      unfold bdOK at hk
      simp at hk
      omega
    · cases h
  · cases h
theorem part_cells {W : World} {B : Nat} {k a b c d e f : Int} {ks cs : Value} (h : W.heap[B]? = some (partO k a b c d ks cs e f)) :
    W.cell? ⟨B, 0, none⟩ = some (.int .i64 k) ∧ W.cell? ⟨B, 1, none⟩ = some (.int .i64 a) ∧ W.cell? ⟨B, 2, none⟩ = some (.int .i64 b) ∧ W.cell? ⟨B, 3, none⟩ = some (.int .i64 c) ∧ W.cell? ⟨B, 4, none⟩ = some (.int .i64 d) ∧
    W.cell? ⟨B, 5, none⟩ = some ks ∧ W.cell? ⟨B, 6, none⟩ = some cs ∧ W.cell? ⟨B, 7, none⟩ = some (.int .i64 e) ∧ W.cell? ⟨B, 8, none⟩ = some (.int .i64 f) := by
  unfold partO at h
  simp [World.cell?, h]
theorem part_frozen {W : World} {B : Nat} {k a b c d e f : Int} {ks cs : Value} (h : W.heap[B]? = some (partO k a b c d ks cs e f)) :
    W.frozen? ⟨B, 0, none⟩ = false ∧ W.frozen? ⟨B, 1, none⟩ = false ∧ W.frozen? ⟨B, 2, none⟩ = false ∧ W.frozen? ⟨B, 3, none⟩ = false ∧ W.frozen? ⟨B, 4, none⟩ = false ∧
    W.frozen? ⟨B, 5, none⟩ = false ∧ W.frozen? ⟨B, 6, none⟩ = false ∧ W.frozen? ⟨B, 7, none⟩ = false ∧ W.frozen? ⟨B, 8, none⟩ = false := by
  unfold partO at h
  simp [World.frozen?, h]
theorem row_set9 {W : World} {g : Nat} {x0 x1 x2 x3 x4 x5 x6 x7 x8 a0 a1 a2 a3 a4 a5 a6 a7 a8 : Value} {t : TypeId} {fr : Nat × Nat} (h : W.heap[g]? = some (.cells #[x0, x1, x2, x3, x4, x5, x6, x7, x8] t fr)) :
    (((((((((W.setCell ⟨g, 0, none⟩ a0).setCell ⟨g, 1, none⟩ a1).setCell ⟨g, 2, none⟩ a2).setCell ⟨g, 3, none⟩ a3).setCell ⟨g, 4, none⟩ a4).setCell ⟨g, 5, none⟩ a5).setCell ⟨g, 6, none⟩ a6).setCell ⟨g, 7, none⟩ a7).setCell ⟨g, 8, none⟩ a8).heap[g]? =
      some (.cells #[a0, a1, a2, a3, a4, a5, a6, a7, a8] t fr) := by
  have h0 : (W.setCell ⟨g, 0, none⟩ a0).heap[g]? = some (.cells #[a0, x1, x2, x3, x4, x5, x6, x7, x8] t fr) := row_set h
  have h1 : ((W.setCell ⟨g, 0, none⟩ a0).setCell ⟨g, 1, none⟩ a1).heap[g]? = some (.cells #[a0, a1, x2, x3, x4, x5, x6, x7, x8] t fr) := row_set h0
  have h2 : (((W.setCell ⟨g, 0, none⟩ a0).setCell ⟨g, 1, none⟩ a1).setCell ⟨g, 2, none⟩ a2).heap[g]? = some (.cells #[a0, a1, a2, x3, x4, x5, x6, x7, x8] t fr) := row_set h1
  have h3 : ((((W.setCell ⟨g, 0, none⟩ a0).setCell ⟨g, 1, none⟩ a1).setCell ⟨g, 2, none⟩ a2).setCell ⟨g, 3, none⟩ a3).heap[g]? = some (.cells #[a0, a1, a2, a3, x4, x5, x6, x7, x8] t fr) := row_set h2
  have h4 : (((((W.setCell ⟨g, 0, none⟩ a0).setCell ⟨g, 1, none⟩ a1).setCell ⟨g, 2, none⟩ a2).setCell ⟨g, 3, none⟩ a3).setCell ⟨g, 4, none⟩ a4).heap[g]? = some (.cells #[a0, a1, a2, a3, a4, x5, x6, x7, x8] t fr) := row_set h3
  have h5 : ((((((W.setCell ⟨g, 0, none⟩ a0).setCell ⟨g, 1, none⟩ a1).setCell ⟨g, 2, none⟩ a2).setCell ⟨g, 3, none⟩ a3).setCell ⟨g, 4, none⟩ a4).setCell ⟨g, 5, none⟩ a5).heap[g]? = some (.cells #[a0, a1, a2, a3, a4, a5, x6, x7, x8] t fr) := row_set h4
  have h6 : (((((((W.setCell ⟨g, 0, none⟩ a0).setCell ⟨g, 1, none⟩ a1).setCell ⟨g, 2, none⟩ a2).setCell ⟨g, 3, none⟩ a3).setCell ⟨g, 4, none⟩ a4).setCell ⟨g, 5, none⟩ a5).setCell ⟨g, 6, none⟩ a6).heap[g]? = some (.cells #[a0, a1, a2, a3, a4, a5, a6, x7, x8] t fr) := row_set h5
  have h7 : ((((((((W.setCell ⟨g, 0, none⟩ a0).setCell ⟨g, 1, none⟩ a1).setCell ⟨g, 2, none⟩ a2).setCell ⟨g, 3, none⟩ a3).setCell ⟨g, 4, none⟩ a4).setCell ⟨g, 5, none⟩ a5).setCell ⟨g, 6, none⟩ a6).setCell ⟨g, 7, none⟩ a7).heap[g]? = some (.cells #[a0, a1, a2, a3, a4, a5, a6, a7, x8] t fr) := row_set h6
  have h8 : (((((((((W.setCell ⟨g, 0, none⟩ a0).setCell ⟨g, 1, none⟩ a1).setCell ⟨g, 2, none⟩ a2).setCell ⟨g, 3, none⟩ a3).setCell ⟨g, 4, none⟩ a4).setCell ⟨g, 5, none⟩ a5).setCell ⟨g, 6, none⟩ a6).setCell ⟨g, 7, none⟩ a7).setCell ⟨g, 8, none⟩ a8).heap[g]? = some (.cells #[a0, a1, a2, a3, a4, a5, a6, a7, a8] t fr) := row_set h7
  exact h8
theorem below_set9 {base : Nat} {w W : World} {g : Nat} {a0 a1 a2 a3 a4 a5 a6 a7 a8 : Value} (h : Below base w W) (hg : base ≤ g) :
    Below base w (((((((((W.setCell ⟨g, 0, none⟩ a0).setCell ⟨g, 1, none⟩ a1).setCell ⟨g, 2, none⟩ a2).setCell ⟨g, 3, none⟩ a3).setCell ⟨g, 4, none⟩ a4).setCell ⟨g, 5, none⟩ a5).setCell ⟨g, 6, none⟩ a6).setCell ⟨g, 7, none⟩ a7).setCell ⟨g, 8, none⟩ a8) :=
  ((((((((h.setCell (p := ⟨g, 0, none⟩) hg _).setCell (p := ⟨g, 1, none⟩) hg _).setCell (p := ⟨g, 2, none⟩) hg _).setCell (p := ⟨g, 3, none⟩) hg _).setCell (p := ⟨g, 4, none⟩) hg _).setCell (p := ⟨g, 5, none⟩) hg _).setCell (p := ⟨g, 6, none⟩) hg _).setCell (p := ⟨g, 7, none⟩) hg _).setCell (p := ⟨g, 8, none⟩) hg _
set_option maxRecDepth 100000 in
set_option maxHeartbeats 4000000 in
theorem parted_any (M : Nat) (v vf vk : Value) (l : List UInt8) (fs : List Fld) (k : Val) (f h t : Nat) (w : World) (hM : w.cell? ⟨M, 0, none⟩ = some v) (hv : bytesArg w v l) (hbig : l.length ≤ 100000) (hf : rowF w vf fs) (hs : shortF fs)
    (hk : valAt w vk k) (hks : small1 k.params) (hfh : h ≤ t) (htl : t ≤ l.length) :
    Calls Tryz.prog 23 #[.pointer (some ⟨M, 0, none⟩), partV 0 (f, h) (h, t) (.slice none 0 0) (.slice none 0 0) (0, 0), vf, vk] w (pdPost (pdS l fs h t k) (f, h) (h, t) w) := by
  have hMl : M < w.heap.size := World.block_lt_of_cell? _ _ hM
  have HBo := Lib.hid (fun W (hb : Below w.heap.size w W) => boundaryOf_any vk k W (hk.below hb) hks)
  have HBa := Lib.hid (fun W (hb : Below w.heap.size w W) => isBare_any M v vf l fs W ((hb.cell (p := ⟨M, 0, none⟩) hMl).trans hM) (bytesArg.below hv hb) (by omega) (hf.below hb) hs)
  have HDe := Lib.hid (fun (b : ByteArray) (hb1 : b.size ≤ 1000) W (hb : Below w.heap.size w W) => delimiters_any v l h t b W (bytesArg.below hv hb) hfh htl (by omega) hb1)
  obtain ⟨ao, cap, rfl, hp⟩ := hk
  obtain ⟨T, hT⟩ : ∃ T : ByteArray, T = ⟨k.type.toArray⟩ := ⟨_, rfl⟩
  obtain ⟨S, hS⟩ : ∃ S : ByteArray, S = ⟨k.sub.toArray⟩ := ⟨_, rfl⟩
  have hTl : T.toList = k.type := by rw [ByteArray.toList_eq, hT]
  have hSl : S.toList = k.sub := by rw [ByteArray.toList_eq, hS]
  have HPd : Hid (pdS l fs h t k = if k.type = mulN then
    (match boundS k.params with
    | some b => ⟨1, (cutsS l (45 :: 45 :: b) t h (linesS l h t)).1, (cutsS l (45 :: 45 :: b) t h (linesS l h t)).2, kidsS (cutsS l (45 :: 45 :: b) t h (linesS l h t)).1 (cutsS l (45 :: 45 :: b) t h (linesS l h t)).2⟩
    | none => noPd)
  else if k.type = msgN ∧ k.sub = rfcN ∧ bareS l fs = true then ⟨2, [], (0, 0), [(h, t)]⟩ else noPd) := rfl
  obtain ⟨p, hpd⟩ : ∃ p, p = pdS l fs h t k := ⟨_, rfl⟩
  rw [← hpd] at HPd ⊢
  have eT : (T.toList == [109, 117, 108, 116, 105, 112, 97, 114, 116]) = (k.type == mulN) := by rw [hTl]; rfl
  have eM : (T.toList == [109, 101, 115, 115, 97, 103, 101]) = (k.type == msgN) := by rw [hTl]; rfl
  have eS : (S.toList == [114, 102, 99, 56, 50, 50]) = (k.sub == rfcN) := by rw [hSl]; rfl
  rw [← hT, ← hS] at HBo ⊢
  unfold partV
  obtain ⟨X, hX⟩ : ∃ X, X = (((w.alloc (partO 0 f h h t (.slice none 0 0) (.slice none 0 0) 0 0)).alloc (.cells #[.string T, .string S, .slice ao k.params.length cap] 60)).alloc (partO 0 0 0 0 0 (.slice none 0 0) (.slice none 0 0) 0 0)).alloc (partO 0 f h h t (.slice none 0 0) (.slice none 0 0) 0 0) := ⟨_, rfl⟩
  have hBX : Below w.heap.size w X := by rw [hX]; exact ((((Below.refl _ _).alloc (Nat.le_refl _) _).alloc (by simp) _).alloc (by simp; omega) _).alloc (by simp; omega) _
  have HBX := Lib.hid hBX
  have hzX : X.heap.size = w.heap.size + 4 := by rw [hX]; simp
  have o5 : X.heap[w.heap.size]? = some (partO 0 f h h t (.slice none 0 0) (.slice none 0 0) 0 0) := by
    rw [hX, Below.heap_alloc _ _ _ (by simp; omega), Below.heap_alloc _ _ _ (by simp; omega), Below.heap_alloc _ _ _ (by simp)]; exact heap_alloc_new w _
  have o7 : X.heap[w.heap.size + 1]? = some (.cells #[.string T, .string S, .slice ao k.params.length cap] 60 (0, 0)) := by
    rw [hX, Below.heap_alloc _ _ _ (by simp), Below.heap_alloc _ _ _ (by simp)]; exact heap_alloc2_new _ _ _
  have o8 : X.heap[w.heap.size + 2]? = some (partO 0 0 0 0 0 (.slice none 0 0) (.slice none 0 0) 0 0) := by
    rw [hX, Below.heap_alloc _ _ _ (by simp)]
    have := heap_alloc_new ((w.alloc (partO 0 f h h t (.slice none 0 0) (.slice none 0 0) 0 0)).alloc (.cells #[.string T, .string S, .slice ao k.params.length cap] 60)) (partO 0 0 0 0 0 (.slice none 0 0) (.slice none 0 0) 0 0)
    simpa using this
  have o9 : X.heap[w.heap.size + 3]? = some (partO 0 f h h t (.slice none 0 0) (.slice none 0 0) 0 0) := by
    rw [hX]
    have := heap_alloc_new (((w.alloc (partO 0 f h h t (.slice none 0 0) (.slice none 0 0) 0 0)).alloc (.cells #[.string T, .string S, .slice ao k.params.length cap] 60)).alloc (partO 0 0 0 0 0 (.slice none 0 0) (.slice none 0 0) 0 0)) (partO 0 f h h t (.slice none 0 0) (.slice none 0 0) 0 0)
    simpa using this
  have O5 := Lib.hid o5
  have O7 := Lib.hid o7
  have O8 := Lib.hid o8
  have O9 := Lib.hid o9
  have HzX := Lib.hid hzX
  clear o5 o7 o8 o9 hBX hzX
  unfold partO at hX
  by_cases hmul : k.type = mulN
  · have eT1 : (T.toList == [109, 117, 108, 116, 105, 112, 97, 114, 116]) = true := by rw [eT, hmul]; rfl
    have HP1 : Hid (p = match boundS k.params with
      | some b => ⟨1, (cutsS l (45 :: 45 :: b) t h (linesS l h t)).1, (cutsS l (45 :: 45 :: b) t h (linesS l h t)).2, kidsS (cutsS l (45 :: 45 :: b) t h (linesS l h t)).1 (cutsS l (45 :: 45 :: b) t h (linesS l h t)).2⟩
      | none => noPd) := by unfold Hid; rw [HPd.out, if_pos hmul]
    clear eT eM eS hT hS hTl hSl HPd hpd hmul hp hv hf hs hks HBa
    go_enter Tryz.func23, Tryz.ntmps23
    go_wp2_with fail
    rw [← hX]
    with_reducible refine (HBo.out _ HBX.out).mono ?_
    rintro e w5 ⟨rfl, hb5⟩
    have hz5 : w.heap.size + 4 ≤ w5.heap.size := by have := hb5.size; have := HzX.out; omega
    have P5 := Lib.hid ((hb5.block _ (by have := HzX.out; omega)).trans O5.out)
    have P7 := Lib.hid ((hb5.block _ (by have := HzX.out; omega)).trans O7.out)
    have P8 := Lib.hid ((hb5.block _ (by have := HzX.out; omega)).trans O8.out)
    have P9 := Lib.hid ((hb5.block _ (by have := HzX.out; omega)).trans O9.out)
    have HB5 : Hid (Below w.heap.size w w5) := HBX.out.trans (hb5.mono HBX.out.size)
    clear hb5 O5 O7 O8 O9 HBo hX HzX HBX X
    cases hbd : boundS k.params with
    | none =>
      have HP2 : Hid (p = noPd) := by unfold Hid; rw [HP1.out, hbd]
      unfold boundV
      obtain ⟨a0, a1, a2, a3, a4, a5, a6, a7, a8⟩ := part_cells P9.out
      obtain ⟨c0, c1, c2, c3, c4, c5, c6, c7, c8⟩ := part_cells P8.out
      obtain ⟨f0, f1, f2, f3, f4, f5, f6, f7, f8⟩ := part_frozen P8.out
      clear hbd HP1 HDe
      go_wp2_with fail
      (try simp only [Exit.inBlock, Exit.then])
      refine bodyPost_ret (results_cell_row (P := Tryz.prog) Tryz.results23 _ _ (w.heap.size + 2) 29 _ (0, 0) _ rfl (row_set9 P8.out) Tryz.underlying29 rfl (by kernel_rfl)) rfl ?_
      exact ⟨none, 0, 0, by rw [HP2.out]; rfl, by rw [HP2.out]; exact World.ownsRow_nil _ _ _ _, below_set9 HB5.out (by omega)⟩
    | some b =>
      have hbl : b.length ≤ 70 := boundS_len hbd
      obtain ⟨bb, hbb⟩ : ∃ bb : ByteArray, bb = ⟨b.toArray⟩ := ⟨_, rfl⟩
      have hbt : bb.data.toList = b := by rw [hbb]
      have hbz : bb.size ≤ 1000 := by rw [← len_toList, hbt]; omega
      have HD5 := Lib.hid (fun W hb => HDe.out bb hbz W hb)
      rw [hbt] at HD5
      have HP2 : Hid (p = ⟨1, (cutsS l (45 :: 45 :: b) t h (linesS l h t)).1, (cutsS l (45 :: 45 :: b) t h (linesS l h t)).2, kidsS (cutsS l (45 :: 45 :: b) t h (linesS l h t)).1 (cutsS l (45 :: 45 :: b) t h (linesS l h t)).2⟩) := by unfold Hid; rw [HP1.out, hbd]
      obtain ⟨cs, hcs⟩ : ∃ cs, cs = cutsS l (45 :: 45 :: b) t h (linesS l h t) := ⟨_, rfl⟩
      rw [← hcs] at HD5 HP2
      unfold cutsPost at HD5
      have hbv : boundV (some b) = .tuple #[.string bb, .bool true] := by rw [hbb]; rfl
      rw [hbv]
      obtain ⟨a0, a1, a2, a3, a4, a5, a6, a7, a8⟩ := part_cells P9.out
      obtain ⟨d0, d1, d2, d3, d4, d5, d6, d7, d8⟩ := part_frozen P9.out
      obtain ⟨c0, c1, c2, c3, c4, c5, c6, c7, c8⟩ := part_cells P8.out
      obtain ⟨f0, f1, f2, f3, f4, f5, f6, f7, f8⟩ := part_frozen P8.out
      obtain ⟨_, _, _, b3, b4, _, _, _, _⟩ := part_cells P5.out
      have hM5 : w5.cell? ⟨M, 0, none⟩ = some v := (HB5.out.cell (p := ⟨M, 0, none⟩) hMl).trans hM
      clear hbd HP1 HDe hbl hbb hbt hbz hbv hcs
      go_upto_region 6 with fail
      obtain ⟨X9, hX9⟩ : ∃ X9, X9 = w5.setCell ⟨w.heap.size + 1 + 1 + 1, 0, none⟩ (.int .i64 1) := ⟨_, rfl⟩
      have n5 : w5.heap[w.heap.size + 3]? = some (partO 0 f h h t (.slice none 0 0) (.slice none 0 0) 0 0) := P9.out
      unfold partO at n5
      have N9 : Hid (X9.heap[w.heap.size + 3]? = some (partO 1 f h h t (.slice none 0 0) (.slice none 0 0) 0 0)) := by rw [hX9]; exact row_set n5
      have N5 : Hid (X9.heap[w.heap.size]? = some (partO 0 f h h t (.slice none 0 0) (.slice none 0 0) 0 0)) := by rw [hX9]; exact (Below.heap_setCell _ _ _ _ (by simp; omega)).trans P5.out
      have N8 : Hid (X9.heap[w.heap.size + 2]? = some (partO 0 0 0 0 0 (.slice none 0 0) (.slice none 0 0) 0 0)) := by rw [hX9]; exact (Below.heap_setCell _ _ _ _ (by simp)).trans P8.out
      have HB9 : Hid (Below w.heap.size w X9) := by rw [hX9]; exact HB5.out.setCell (p := ⟨w.heap.size + 1 + 1 + 1, 0, none⟩) (by simp; omega) _
      have hz9 : w.heap.size + 4 ≤ X9.heap.size := by rw [hX9]; simp [World.setCell]; omega
      clear a0 a1 a2 a3 a4 a5 a6 a7 a8 d0 d1 d2 d3 d4 d5 d6 d7 d8 c0 c1 c2 c3 c4 c5 c6 c7 c8 f0 f1 f2 f3 f4 f5 f6 f7 f8 b3 b4 hM5 n5 P5 P7 P8 P9 HB5
      rw [← hX9]
      clear hX9
      obtain ⟨_, _, _, b3, b4, _, _, _, _⟩ := part_cells N5.out
      have hM9 : X9.cell? ⟨M, 0, none⟩ = some v := (HB9.out.cell (p := ⟨M, 0, none⟩) hMl).trans hM
      obtain ⟨a0, a1, a2, a3, a4, a5, a6, a7, a8⟩ := part_cells N9.out
      obtain ⟨d0, d1, d2, d3, d4, d5, d6, d7, d8⟩ := part_frozen N9.out
      have HKp : Hid (∀ W, Below X9.heap.size X9 W → W.cell? ⟨M, 0, none⟩ = some v ∧ W.cell? ⟨w.heap.size, 3, none⟩ = some (.int .i64 (h : Int)) ∧ W.cell? ⟨w.heap.size, 4, none⟩ = some (.int .i64 (t : Int))) := fun W hb =>
        ⟨(hb.cell (p := ⟨M, 0, none⟩) (show M < X9.heap.size by omega)).trans hM9, (hb.cell (p := ⟨w.heap.size, 3, none⟩) (show w.heap.size < X9.heap.size by omega)).trans b3, (hb.cell (p := ⟨w.heap.size, 4, none⟩) (show w.heap.size < X9.heap.size by omega)).trans b4⟩
      have hd0 : Below X9.heap.size X9 X9.drew := (Below.refl _ _).drew
      go_region_held3 (fun W' => W'.cell? ⟨M, 0, none⟩ = some v ∧ W'.cell? ⟨w.heap.size, 3, none⟩ = some (.int .i64 (h : Int)) ∧ W'.cell? ⟨w.heap.size, 4, none⟩ = some (.int .i64 (t : Int))) (first | exact HKp.out _ (by assumption) | (refine ⟨?_, ?_, ?_⟩ <;> (repeat (with_reducible refine (cell_far (by omega)).trans ?_)) <;> first | exact hS6.1 | exact hS6.2.1 | exact hS6.2.2)) (first | (go_at_call 44; with_reducible refine (HD5.out _ (HB9.out.drew)).mono ?_; rintro e w6 ⟨u, rfl, hown, hb6⟩; obtain ⟨ua, un, uc, rfl⟩ := own_slice hown; have hbk := hd0.trans (hb6.mono hd0.size); have n9 := (hbk.block (w.heap.size + 3) (by omega)).trans N9.out; have N96 := Lib.hid n9; have N86 := Lib.hid ((hbk.block (w.heap.size + 2) (by omega)).trans N8.out); obtain ⟨y0, y1, y2, y3, y4, y5, y6, y7, y8⟩ := part_cells n9; obtain ⟨z0, z1, z2, z3, z4, z5, z6, z7, z8⟩ := part_frozen n9; have hS6 := HKp.out _ hbk))
      obtain ⟨c0, c1, c2, c3, c4, c5, c6, c7, c8⟩ := part_cells N86.out
      obtain ⟨f0, f1, f2, f3, f4, f5, f6, f7, f8⟩ := part_frozen N86.out
      clear hS6 z0 z1 z2 z3 z4 z5 z6 z7 z8
      have HB6 := Lib.hid (HB9.out.drew.trans (hb6.mono HB9.out.size))
      have HO6 := Lib.hid hown
      clear hb6 hown hbk
      go_wp2_with fail
      have hzz : w.heap.size + 3 < X9.drew.heap.size := by show w.heap.size + 3 < X9.heap.size; omega
      have e8 := (Below.heap_setCell ((w6.setCell ⟨w.heap.size + 1 + 1 + 1, 6, none⟩ (.slice ua un uc)).setCell ⟨w.heap.size + 1 + 1 + 1, 7, none⟩ (.int .i64 (cs.2.1 : Int))) ⟨w.heap.size + 1 + 1 + 1, 8, none⟩ (.int .i64 (cs.2.2 : Int)) (w.heap.size + 2) (by simp)).trans ((Below.heap_setCell (w6.setCell ⟨w.heap.size + 1 + 1 + 1, 6, none⟩ (.slice ua un uc)) ⟨w.heap.size + 1 + 1 + 1, 7, none⟩ (.int .i64 (cs.2.1 : Int)) (w.heap.size + 2) (by simp)).trans ((Below.heap_setCell w6 ⟨w.heap.size + 1 + 1 + 1, 6, none⟩ (.slice ua un uc) (w.heap.size + 2) (by simp)).trans N86.out))
      unfold partO at e8
      (try simp only [Exit.inBlock, Exit.then])
      refine bodyPost_ret (results_cell_row (P := Tryz.prog) Tryz.results23 _ _ (w.heap.size + 2) 29 _ (0, 0) _ rfl (row_set9 e8) Tryz.underlying29 rfl (by kernel_rfl)) rfl ?_
      have hw := own_set9 (g := w.heap.size + 2) (a0 := .int .i64 1) (a1 := .int .i64 (f : Int)) (a2 := .int .i64 (h : Int)) (a3 := .int .i64 (h : Int)) (a4 := .int .i64 (t : Int)) (a5 := .slice none 0 0) (a6 := .slice ua un uc) (a7 := .int .i64 (cs.2.1 : Int)) (a8 := .int .i64 (cs.2.2 : Int))
        (ownsRow_setCell_below (a := ⟨w.heap.size + 1 + 1 + 1, 8, none⟩) (ownsRow_setCell_below (a := ⟨w.heap.size + 1 + 1 + 1, 7, none⟩) (ownsRow_setCell_below (a := ⟨w.heap.size + 1 + 1 + 1, 6, none⟩) HO6.out hzz (.slice ua un uc)) hzz (.int .i64 (cs.2.1 : Int))) hzz (.int .i64 (cs.2.2 : Int))) (by omega)
      refine ⟨ua, un, uc, by rw [HP2.out]; rfl, by rw [HP2.out]; exact own_base2 hw (show w.heap.size ≤ X9.heap.size by omega), below_set9 (((HB6.out.setCell (p := ⟨w.heap.size + 1 + 1 + 1, 6, none⟩) (by simp; omega) _).setCell (p := ⟨w.heap.size + 1 + 1 + 1, 7, none⟩) (by simp; omega) _).setCell (p := ⟨w.heap.size + 1 + 1 + 1, 8, none⟩) (by simp; omega) _) (by omega)⟩
  · have eT0 : (T.toList == [109, 117, 108, 116, 105, 112, 97, 114, 116]) = false := by rw [eT]; simpa using hmul
    have HP1 : Hid (p = if k.type = msgN ∧ k.sub = rfcN ∧ bareS l fs = true then ⟨2, [], (0, 0), [(h, t)]⟩ else noPd) := by unfold Hid; rw [HPd.out, if_neg hmul]
    obtain ⟨a0, a1, a2, a3, a4, a5, a6, a7, a8⟩ := part_cells O9.out
    obtain ⟨c0, c1, c2, c3, c4, c5, c6, c7, c8⟩ := part_cells O8.out
    obtain ⟨f0, f1, f2, f3, f4, f5, f6, f7, f8⟩ := part_frozen O8.out
    have r0 : X.cell? ⟨w.heap.size + 1, 0, none⟩ = some (.string T) := by simp [World.cell?, O7.out]
    have r1 : X.cell? ⟨w.heap.size + 1, 1, none⟩ = some (.string S) := by simp [World.cell?, O7.out]
    clear eT hT hS hTl hSl HPd hpd hmul hp hv hf hs hks HBo HDe
    by_cases hmsg : k.type = msgN
    · have eM1 : (T.toList == [109, 101, 115, 115, 97, 103, 101]) = true := by rw [eM, hmsg]; rfl
      by_cases hrfc : k.sub = rfcN
      · have eS1 : (S.toList == [114, 102, 99, 56, 50, 50]) = true := by rw [eS, hrfc]; rfl
        clear eM eS
        go_enter Tryz.func23, Tryz.ntmps23
        go_wp2_with fail
        rw [← hX]
        with_reducible refine (HBa.out _ HBX.out).mono ?_
        rintro e w5 ⟨rfl, hb5⟩
        have hz5 : w.heap.size + 4 ≤ w5.heap.size := by have := hb5.size; have := HzX.out; omega
        have P8 := Lib.hid ((hb5.block _ (by have := HzX.out; omega)).trans O8.out)
        have P9 := Lib.hid ((hb5.block _ (by have := HzX.out; omega)).trans O9.out)
        have HB5 : Hid (Below w.heap.size w w5) := HBX.out.trans (hb5.mono HBX.out.size)
        clear a0 a1 a2 a3 a4 a5 a6 a7 a8 c0 c1 c2 c3 c4 c5 c6 c7 c8 f0 f1 f2 f3 f4 f5 f6 f7 f8 r0 r1
        clear hb5 O5 O7 O8 O9 HBa hX HzX HBX X
        obtain ⟨a0, a1, a2, a3, a4, a5, a6, a7, a8⟩ := part_cells P9.out
        obtain ⟨d0, d1, d2, d3, d4, d5, d6, d7, d8⟩ := part_frozen P9.out
        obtain ⟨c0, c1, c2, c3, c4, c5, c6, c7, c8⟩ := part_cells P8.out
        obtain ⟨f0, f1, f2, f3, f4, f5, f6, f7, f8⟩ := part_frozen P8.out
        cases hba : bareS l fs with
        | true =>
          have HP2 : Hid (p = ⟨2, [], (0, 0), [(h, t)]⟩) := by unfold Hid; rw [HP1.out, if_pos ⟨hmsg, hrfc, hba⟩]
          clear hba
          go_wp2_with fail
          have e8 := (Below.heap_setCell w5 ⟨w.heap.size + 1 + 1 + 1, 0, none⟩ (.int .i64 2) (w.heap.size + 2) (by simp)).trans P8.out
          unfold partO at e8
          (try simp only [Exit.inBlock, Exit.then])
          refine bodyPost_ret (results_cell_row (P := Tryz.prog) Tryz.results23 _ _ (w.heap.size + 2) 29 _ (0, 0) _ rfl (row_set9 e8) Tryz.underlying29 rfl (by kernel_rfl)) rfl ?_
          exact ⟨none, 0, 0, by rw [HP2.out]; rfl, by rw [HP2.out]; exact World.ownsRow_nil _ _ _ _, below_set9 (HB5.out.setCell (p := ⟨w.heap.size + 1 + 1 + 1, 0, none⟩) (by simp; omega) _) (by omega)⟩
        | false =>
          have HP2 : Hid (p = noPd) := by unfold Hid; rw [HP1.out, if_neg (by rintro ⟨_, _, h3⟩; rw [hba] at h3; cases h3)]
          clear hba
          go_wp2_with fail
          (try simp only [Exit.inBlock, Exit.then])
          refine bodyPost_ret (results_cell_row (P := Tryz.prog) Tryz.results23 _ _ (w.heap.size + 2) 29 _ (0, 0) _ rfl (row_set9 P8.out) Tryz.underlying29 rfl (by kernel_rfl)) rfl ?_
          exact ⟨none, 0, 0, by rw [HP2.out]; rfl, by rw [HP2.out]; exact World.ownsRow_nil _ _ _ _, below_set9 HB5.out (by omega)⟩
      · have eS1 : (S.toList == [114, 102, 99, 56, 50, 50]) = false := by rw [eS]; simpa using hrfc
        have HP2 : Hid (p = noPd) := by unfold Hid; rw [HP1.out, if_neg (by rintro ⟨_, h2, _⟩; exact hrfc h2)]
        clear eM eS hrfc
        go_enter Tryz.func23, Tryz.ntmps23
        go_upto_region 10 with fail
        rw [← hX]
        clear hX
        go_wp2_with fail
        (try simp only [Exit.inBlock, Exit.then])
        refine bodyPost_ret (results_cell_row (P := Tryz.prog) Tryz.results23 _ _ (w.heap.size + 2) 29 _ (0, 0) _ rfl (row_set9 O8.out) Tryz.underlying29 rfl (by kernel_rfl)) rfl ?_
        exact ⟨none, 0, 0, by rw [HP2.out]; rfl, by rw [HP2.out]; exact World.ownsRow_nil _ _ _ _, below_set9 HBX.out (by omega)⟩
    · have eM1 : (T.toList == [109, 101, 115, 115, 97, 103, 101]) = false := by rw [eM]; simpa using hmsg
      have HP2 : Hid (p = noPd) := by unfold Hid; rw [HP1.out, if_neg (by rintro ⟨h1, _, _⟩; exact hmsg h1)]
      clear eM eS hmsg
      go_enter Tryz.func23, Tryz.ntmps23
      go_upto_region 10 with fail
      rw [← hX]
      clear hX
      go_wp2_with fail
      (try simp only [Exit.inBlock, Exit.then])
      refine bodyPost_ret (results_cell_row (P := Tryz.prog) Tryz.results23 _ _ (w.heap.size + 2) 29 _ (0, 0) _ rfl (row_set9 O8.out) Tryz.underlying29 rfl (by kernel_rfl)) rfl ?_
      exact ⟨none, 0, 0, by rw [HP2.out]; rfl, by rw [HP2.out]; exact World.ownsRow_nil _ _ _ _, below_set9 HBX.out (by omega)⟩
end Go.Proofs.YtkmgflnmffdhjaaGreatDoor
