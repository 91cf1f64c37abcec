/- Contracts of package tree: parted. -/
import Derived.Test.YteallnjbpikhhaaGreatDoorGbTrE
import Derived.Deep.RegionHeld3
import Derived.Test.YteallnjbpikhhaaGreatDoorGbTiM
import Derived.Test.YteallnjbpikhhaaGreatDoorKit2
import Derived.Deep.RegionHeldLaw
namespace Go.Proofs.YteallnjbpikhhaaGreatDoor
open Go Go.RowKit

/-- A part's value. -/
def partV (kind : Nat) (hd bd : Sp) (ks cs : Value) (e : Sp) : Value :=
  .agg #[.int .i64 (kind : Int), .int .i64 (hd.1 : Int), .int .i64 (hd.2 : Int), .int .i64 (bd.1 : Int), .int .i64 (bd.2 : Int), ks, cs, .int .i64 (e.1 : Int), .int .i64 (e.2 : Int)]
def pdPost (p : Pd) (hd bd : Sp) (w : World) (e : Ending) (w' : World) : Prop :=
  ∃ a n c, e = .returned (partV p.kind hd bd (.slice none 0 0) (.slice a n c) p.e) ∧ w'.ownsRow w.heap.size 28 2 (.slice a n c) p.cuts.length (spCells p.cuts) ∧ Below w.heap.size w w'
def partO (kind hf ht bf bt : Int) (ks cs : Value) (e1 e2 : Int) : Obj :=
  .cells #[.int .i64 kind, .int .i64 hf, .int .i64 ht, .int .i64 bf, .int .i64 bt, ks, cs, .int .i64 e1, .int .i64 e2] 32 (0, 0)
theorem cell_far {W : World} {B j k g : Nat} {u : Value} (h : g ≠ B) : (W.setCell ⟨B, j, none⟩ u).cell? ⟨g, k, none⟩ = W.cell? ⟨g, k, none⟩ := World.cell?_of_block (a := ⟨g, k, none⟩) (Below.heap_setCell _ _ _ _ h)
theorem own_set9 {base size n : Nat} {W : World} {g : Nat} {ty : TypeId} {v : Value} {xs : List Value} {a0 a1 a2 a3 a4 a5 a6 a7 a8 : Value} (h : W.ownsRow base ty size v n xs) (hg : g < base) :
    (((((((((W.setCell ⟨g, 0, none⟩ a0).setCell ⟨g, 1, none⟩ a1).setCell ⟨g, 2, none⟩ a2).setCell ⟨g, 3, none⟩ a3).setCell ⟨g, 4, none⟩ a4).setCell ⟨g, 5, none⟩ a5).setCell ⟨g, 6, none⟩ a6).setCell ⟨g, 7, none⟩ a7).setCell ⟨g, 8, none⟩ a8).ownsRow base ty size v n xs := ownsRow_setCell_below (a := ⟨g, 8, none⟩) (ownsRow_setCell_below (a := ⟨g, 7, none⟩) (ownsRow_setCell_below (a := ⟨g, 6, none⟩) (ownsRow_setCell_below (a := ⟨g, 5, none⟩) (ownsRow_setCell_below (a := ⟨g, 4, none⟩) (ownsRow_setCell_below (a := ⟨g, 3, none⟩) (ownsRow_setCell_below (a := ⟨g, 2, none⟩) (ownsRow_setCell_below (a := ⟨g, 1, none⟩) (ownsRow_setCell_below (a := ⟨g, 0, none⟩) (h) hg a0) hg a1) hg a2) hg a3) hg a4) hg a5) hg a6) hg a7) hg a8
theorem boundS_len {ps : List Prm} {b : List UInt8} (h : boundS ps = some b) : b.length ≤ 70 := by
  unfold boundS at h
  split at h
  · split at h
    · next hk =>
      cases h
      unfold bdOK at hk
      simp at hk
      omega
    · cases h
  · cases h
theorem part_cells {W : World} {B : Nat} {k a b c d e f : Int} {ks cs : Value} (h : W.heap[B]? = some (partO k a b c d ks cs e f)) :
    W.cell? ⟨B, 0, none⟩ = some (.int .i64 k) ∧ W.cell? ⟨B, 1, none⟩ = some (.int .i64 a) ∧ W.cell? ⟨B, 2, none⟩ = some (.int .i64 b) ∧ W.cell? ⟨B, 3, none⟩ = some (.int .i64 c) ∧ W.cell? ⟨B, 4, none⟩ = some (.int .i64 d) ∧
    W.cell? ⟨B, 5, none⟩ = some ks ∧ W.cell? ⟨B, 6, none⟩ = some cs ∧ W.cell? ⟨B, 7, none⟩ = some (.int .i64 e) ∧ W.cell? ⟨B, 8, none⟩ = some (.int .i64 f) := by
  unfold partO at h
  simp [World.cell?, h]
theorem part_frozen {W : World} {B : Nat} {k a b c d e f : Int} {ks cs : Value} (h : W.heap[B]? = some (partO k a b c d ks cs e f)) :
    W.frozen? ⟨B, 0, none⟩ = false ∧ W.frozen? ⟨B, 1, none⟩ = false ∧ W.frozen? ⟨B, 2, none⟩ = false ∧ W.frozen? ⟨B, 3, none⟩ = false ∧ W.frozen? ⟨B, 4, none⟩ = false ∧
    W.frozen? ⟨B, 5, none⟩ = false ∧ W.frozen? ⟨B, 6, none⟩ = false ∧ W.frozen? ⟨B, 7, none⟩ = false ∧ W.frozen? ⟨B, 8, none⟩ = false := by
  unfold partO at h
  simp [World.frozen?, h]
theorem row_set9 {W : World} {g : Nat} {x0 x1 x2 x3 x4 x5 x6 x7 x8 a0 a1 a2 a3 a4 a5 a6 a7 a8 : Value} {t : TypeId} {fr : Nat × Nat} (h : W.heap[g]? = some (.cells #[x0, x1, x2, x3, x4, x5, x6, x7, x8] t fr)) :
    (((((((((W.setCell ⟨g, 0, none⟩ a0).setCell ⟨g, 1, none⟩ a1).setCell ⟨g, 2, none⟩ a2).setCell ⟨g, 3, none⟩ a3).setCell ⟨g, 4, none⟩ a4).setCell ⟨g, 5, none⟩ a5).setCell ⟨g, 6, none⟩ a6).setCell ⟨g, 7, none⟩ a7).setCell ⟨g, 8, none⟩ a8).heap[g]? =
      some (.cells #[a0, a1, a2, a3, a4, a5, a6, a7, a8] t fr) := by
  have h0 : (W.setCell ⟨g, 0, none⟩ a0).heap[g]? = some (.cells #[a0, x1, x2, x3, x4, x5, x6, x7, x8] t fr) := row_set h
  have h1 : ((W.setCell ⟨g, 0, none⟩ a0).setCell ⟨g, 1, none⟩ a1).heap[g]? = some (.cells #[a0, a1, x2, x3, x4, x5, x6, x7, x8] t fr) := row_set h0
  have h2 : (((W.setCell ⟨g, 0, none⟩ a0).setCell ⟨g, 1, none⟩ a1).setCell ⟨g, 2, none⟩ a2).heap[g]? = some (.cells #[a0, a1, a2, x3, x4, x5, x6, x7, x8] t fr) := row_set h1
  have h3 : ((((W.setCell ⟨g, 0, none⟩ a0).setCell ⟨g, 1, none⟩ a1).setCell ⟨g, 2, none⟩ a2).setCell ⟨g, 3, none⟩ a3).heap[g]? = some (.cells #[a0, a1, a2, a3, x4, x5, x6, x7, x8] t fr) := row_set h2
  have h4 : (((((W.setCell ⟨g, 0, none⟩ a0).setCell ⟨g, 1, none⟩ a1).setCell ⟨g, 2, none⟩ a2).setCell ⟨g, 3, none⟩ a3).setCell ⟨g, 4, none⟩ a4).heap[g]? = some (.cells #[a0, a1, a2, a3, a4, x5, x6, x7, x8] t fr) := row_set h3
  have h5 : ((((((W.setCell ⟨g, 0, none⟩ a0).setCell ⟨g, 1, none⟩ a1).setCell ⟨g, 2, none⟩ a2).setCell ⟨g, 3, none⟩ a3).setCell ⟨g, 4, none⟩ a4).setCell ⟨g, 5, none⟩ a5).heap[g]? = some (.cells #[a0, a1, a2, a3, a4, a5, x6, x7, x8] t fr) := row_set h4
  have h6 : (((((((W.setCell ⟨g, 0, none⟩ a0).setCell ⟨g, 1, none⟩ a1).setCell ⟨g, 2, none⟩ a2).setCell ⟨g, 3, none⟩ a3).setCell ⟨g, 4, none⟩ a4).setCell ⟨g, 5, none⟩ a5).setCell ⟨g, 6, none⟩ a6).heap[g]? = some (.cells #[a0, a1, a2, a3, a4, a5, a6, x7, x8] t fr) := row_set h5
  have h7 : ((((((((W.setCell ⟨g, 0, none⟩ a0).setCell ⟨g, 1, none⟩ a1).setCell ⟨g, 2, none⟩ a2).setCell ⟨g, 3, none⟩ a3).setCell ⟨g, 4, none⟩ a4).setCell ⟨g, 5, none⟩ a5).setCell ⟨g, 6, none⟩ a6).setCell ⟨g, 7, none⟩ a7).heap[g]? = some (.cells #[a0, a1, a2, a3, a4, a5, a6, a7, x8] t fr) := row_set h6
  have h8 : (((((((((W.setCell ⟨g, 0, none⟩ a0).setCell ⟨g, 1, none⟩ a1).setCell ⟨g, 2, none⟩ a2).setCell ⟨g, 3, none⟩ a3).setCell ⟨g, 4, none⟩ a4).setCell ⟨g, 5, none⟩ a5).setCell ⟨g, 6, none⟩ a6).setCell ⟨g, 7, none⟩ a7).setCell ⟨g, 8, none⟩ a8).heap[g]? = some (.cells #[a0, a1, a2, a3, a4, a5, a6, a7, a8] t fr) := row_set h7
  exact h8
theorem below_set9 {base : Nat} {w W : World} {g : Nat} {a0 a1 a2 a3 a4 a5 a6 a7 a8 : Value} (h : Below base w W) (hg : base ≤ g) :
    Below base w (((((((((W.setCell ⟨g, 0, none⟩ a0).setCell ⟨g, 1, none⟩ a1).setCell ⟨g, 2, none⟩ a2).setCell ⟨g, 3, none⟩ a3).setCell ⟨g, 4, none⟩ a4).setCell ⟨g, 5, none⟩ a5).setCell ⟨g, 6, none⟩ a6).setCell ⟨g, 7, none⟩ a7).setCell ⟨g, 8, none⟩ a8) :=
  ((((((((h.setCell (p := ⟨g, 0, none⟩) hg _).setCell (p := ⟨g, 1, none⟩) hg _).setCell (p := ⟨g, 2, none⟩) hg _).setCell (p := ⟨g, 3, none⟩) hg _).setCell (p := ⟨g, 4, none⟩) hg _).setCell (p := ⟨g, 5, none⟩) hg _).setCell (p := ⟨g, 6, none⟩) hg _).setCell (p := ⟨g, 7, none⟩) hg _).setCell (p := ⟨g, 8, none⟩) hg _
set_option maxRecDepth 100000 in
set_option maxHeartbeats 4000000 in
theorem parted_any (M : Nat) (v vf vk : Value) (l : List UInt8) (fs : List Fld) (k : Val) (f h t : Nat) (w : World) (hM : w.cell? ⟨M, 0, none⟩ = some v) (hv : bytesArg w v l) (hbig : l.length ≤ 100000) (hf : rowF w vf fs) (hs : shortF fs)
    (hk : valAt w vk k) (hks : small1 k.params) (hfh : h ≤ t) (htl : t ≤ l.length) :
    Calls Tryz.prog 27 #[.pointer (some ⟨M, 0, none⟩), partV 0 (f, h) (h, t) (.slice none 0 0) (.slice none 0 0) (0, 0), vf, vk] w (pdPost (pdS l fs h t k) (f, h) (h, t) w) := by
  have hMl : M < w.heap.size := World.block_lt_of_cell? _ _ hM
  have HBo := Lib.hid (fun W (hb : Below w.heap.size w W) => boundaryOf_any vk k W (hk.below hb) hks)
  have HBa := Lib.hid (fun W (hb : Below w.heap.size w W) => isBare_any M v vf l fs W ((hb.cell (p := ⟨M, 0, none⟩) hMl).trans hM) (bytesArg.below hv hb) (by omega) (hf.below hb) hs)
  have HDe := Lib.hid (fun (b : ByteArray) (hb1 : b.size ≤ 1000) W (hb : Below w.heap.size w W) => delimiters_any v l h t b W (bytesArg.below hv hb) hfh htl (by omega) hb1)
  obtain ⟨ao, cap, rfl, hp⟩ := hk
  obtain ⟨T, hT⟩ : ∃ T : ByteArray, T = ⟨k.type.toArray⟩ := ⟨_, rfl⟩
  obtain ⟨S, hS⟩ : ∃ S : ByteArray, S = ⟨k.sub.toArray⟩ := ⟨_, rfl⟩
  have hTl : T.toList = k.type := by rw [ByteArray.toList_eq, hT]
  have hSl : S.toList = k.sub := by rw [ByteArray.toList_eq, hS]
  have HPd : Hid (pdS l fs h t k = if k.type = mulN then
    (match boundS k.params with
    | some b => ⟨1, (cutsS l (45 :: 45 :: b) t h (linesS l h t)).1, (cutsS l (45 :: 45 :: b) t h (linesS l h t)).2, kidsS (cutsS l (45 :: 45 :: b) t h (linesS l h t)).1 (cutsS l (45 :: 45 :: b) t h (linesS l h t)).2⟩
    | none => noPd)
  else if k.type = msgN ∧ k.sub = rfcN ∧ bareS l fs = true then ⟨2, [], (0, 0), [(h, t)]⟩ else noPd) := rfl
  obtain ⟨p, hpd⟩ : ∃ p, p = pdS l fs h t k := ⟨_, rfl⟩
  rw [← hpd] at HPd ⊢
  have eT : (T.toList == [109, 117, 108, 116, 105, 112, 97, 114, 116]) = (k.type == mulN) := by rw [hTl]; rfl
  have eM : (T.toList == [109, 101, 115, 115, 97, 103, 101]) = (k.type == msgN) := by rw [hTl]; rfl
  have eS : (S.toList == [114, 102, 99, 56, 50, 50]) = (k.sub == rfcN) := by rw [hSl]; rfl
  rw [← hT, ← hS] at HBo ⊢
  unfold partV
  obtain ⟨X, hX⟩ : ∃ X, X = (((w.alloc (partO 0 f h h t (.slice none 0 0) (.slice none 0 0) 0 0)).alloc (.cells #[.string T, .string S, .slice ao k.params.length cap] 70)).alloc (partO 0 0 0 0 0 (.slice none 0 0) (.slice none 0 0) 0 0)).alloc (partO 0 f h h t (.slice none 0 0) (.slice none 0 0) 0 0) := ⟨_, rfl⟩
  have hBX : Below w.heap.size w X := by rw [hX]; exact ((((Below.refl _ _).alloc (Nat.le_refl _) _).alloc (by simp) _).alloc (by simp; omega) _).alloc (by simp; omega) _
  have HBX := Lib.hid hBX
  have hzX : X.heap.size = w.heap.size + 4 := by rw [hX]; simp
  have o5 : X.heap[w.heap.size]? = some (partO 0 f h h t (.slice none 0 0) (.slice none 0 0) 0 0) := by
    rw [hX, Below.heap_alloc _ _ _ (by simp; omega), Below.heap_alloc _ _ _ (by simp; omega), Below.heap_alloc _ _ _ (by simp)]; exact heap_alloc_new w _
  have o7 : X.heap[w.heap.size + 1]? = some (.cells #[.string T, .string S, .slice ao k.params.length cap] 70 (0, 0)) := by
    rw [hX, Below.heap_alloc _ _ _ (by simp), Below.heap_alloc _ _ _ (by simp)]; exact heap_alloc2_new _ _ _
  have o8 : X.heap[w.heap.size + 2]? = some (partO 0 0 0 0 0 (.slice none 0 0) (.slice none 0 0) 0 0) := by
    rw [hX, Below.heap_alloc _ _ _ (by simp)]
    have := heap_alloc_new ((w.alloc (partO 0 f h h t (.slice none 0 0) (.slice none 0 0) 0 0)).alloc (.cells #[.string T, .string S, .slice ao k.params.length cap] 70)) (partO 0 0 0 0 0 (.slice none 0 0) (.slice none 0 0) 0 0)
    simpa using this
  have o9 : X.heap[w.heap.size + 3]? = some (partO 0 f h h t (.slice none 0 0) (.slice none 0 0) 0 0) := by
    rw [hX]
    have := heap_alloc_new (((w.alloc (partO 0 f h h t (.slice none 0 0) (.slice none 0 0) 0 0)).alloc (.cells #[.string T, .string S, .slice ao k.params.length cap] 70)).alloc (partO 0 0 0 0 0 (.slice none 0 0) (.slice none 0 0) 0 0)) (partO 0 f h h t (.slice none 0 0) (.slice none 0 0) 0 0)
    simpa using this
  have O5 := Lib.hid o5
  have O7 := Lib.hid o7
  have O8 := Lib.hid o8
  have O9 := Lib.hid o9
  have HzX := Lib.hid hzX
  clear o5 o7 o8 o9 hBX hzX
  unfold partO at hX
  by_cases hmul : k.type = mulN
  · have eT1 : (T.toList == [109, 117, 108, 116, 105, 112, 97, 114, 116]) = true := by rw [eT, hmul]; rfl
    have HP1 : Hid (p = match boundS k.params with
      | some b => ⟨1, (cutsS l (45 :: 45 :: b) t h (linesS l h t)).1, (cutsS l (45 :: 45 :: b) t h (linesS l h t)).2, kidsS (cutsS l (45 :: 45 :: b) t h (linesS l h t)).1 (cutsS l (45 :: 45 :: b) t h (linesS l h t)).2⟩
      | none => noPd) := by unfold Hid; rw [HPd.out, if_pos hmul]
    clear eT eM eS hT hS hTl hSl HPd hpd hmul hp hv hf hs hks HBa
    go_enter Tryz.func27, Tryz.ntmps27
    go_wp2_with fail
    rw [← hX]
    with_reducible refine (HBo.out _ HBX.out).mono ?_
    rintro e w5 ⟨rfl, hb5⟩
    have hz5 : w.heap.size + 4 ≤ w5.heap.size := by have := hb5.size; have := HzX.out; omega
    have P5 := Lib.hid ((hb5.block _ (by have := HzX.out; omega)).trans O5.out)
    have P7 := Lib.hid ((hb5.block _ (by have := HzX.out; omega)).trans O7.out)
    have P8 := Lib.hid ((hb5.block _ (by have := HzX.out; omega)).trans O8.out)
    have P9 := Lib.hid ((hb5.block _ (by have := HzX.out; omega)).trans O9.out)
    have HB5 : Hid (Below w.heap.size w w5) := HBX.out.trans (hb5.mono HBX.out.size)
    clear hb5 O5 O7 O8 O9 HBo hX HzX HBX X
    cases hbd : boundS k.params with
    | none =>
      have HP2 : Hid (p = noPd) := by unfold Hid; rw [HP1.out, hbd]
      unfold boundV
      obtain ⟨a0, a1, a2, a3, a4, a5, a6, a7, a8⟩ := part_cells P9.out
      obtain ⟨c0, c1, c2, c3, c4, c5, c6, c7, c8⟩ := part_cells P8.out
      obtain ⟨f0, f1, f2, f3, f4, f5, f6, f7, f8⟩ := part_frozen P8.out
      clear hbd HP1 HDe
      go_wp2_with fail
      (try simp only [Exit.inBlock, Exit.then])
      refine bodyPost_ret (results_cell_row (P := Tryz.prog) Tryz.results27 _ _ (w.heap.size + 2) 32 _ (0, 0) _ rfl (row_set9 P8.out) Tryz.underlying32 rfl (by kernel_rfl)) rfl ?_
      exact ⟨none, 0, 0, by rw [HP2.out]; rfl, by rw [HP2.out]; exact World.ownsRow_nil _ _ _ _, below_set9 HB5.out (by omega)⟩
    | some b =>
      have hbl : b.length ≤ 70 := boundS_len hbd
      obtain ⟨bb, hbb⟩ : ∃ bb : ByteArray, bb = ⟨b.toArray⟩ := ⟨_, rfl⟩
      have hbt : bb.data.toList = b := by rw [hbb]
      have hbz : bb.size ≤ 1000 := by rw [← len_toList, hbt]; omega
      have HD5 := Lib.hid (fun W hb => HDe.out bb hbz W hb)
      rw [hbt] at HD5
      have HP2 : Hid (p = ⟨1, (cutsS l (45 :: 45 :: b) t h (linesS l h t)).1, (cutsS l (45 :: 45 :: b) t h (linesS l h t)).2, kidsS (cutsS l (45 :: 45 :: b) t h (linesS l h t)).1 (cutsS l (45 :: 45 :: b) t h (linesS l h t)).2⟩) := by unfold Hid; rw [HP1.out, hbd]
      obtain ⟨cs, hcs⟩ : ∃ cs, cs = cutsS l (45 :: 45 :: b) t h (linesS l h t) := ⟨_, rfl⟩
      rw [← hcs] at HD5 HP2
      unfold cutsPost at HD5
      have hbv : boundV (some b) = .tuple #[.string bb, .bool true] := by rw [hbb]; rfl
      rw [hbv]
      obtain ⟨a0, a1, a2, a3, a4, a5, a6, a7, a8⟩ := part_cells P9.out
      obtain ⟨d0, d1, d2, d3, d4, d5, d6, d7, d8⟩ := part_frozen P9.out
      obtain ⟨c0, c1, c2, c3, c4, c5, c6, c7, c8⟩ := part_cells P8.out
      obtain ⟨f0, f1, f2, f3, f4, f5, f6, f7, f8⟩ := part_frozen P8.out
      obtain ⟨_, _, _, b3, b4, _, _, _, _⟩ := part_cells P5.out
      have hM5 : w5.cell? ⟨M, 0, none⟩ = some v := (HB5.out.cell (p := ⟨M, 0, none⟩) hMl).trans hM
      clear hbd HP1 HDe hbl hbb hbt hbz hbv hcs
      go_upto_region 6 with fail
      obtain ⟨X9, hX9⟩ : ∃ X9, X9 = w5.setCell ⟨w.heap.size + 1 + 1 + 1, 0, none⟩ (.int .i64 1) := ⟨_, rfl⟩
      have n5 : w5.heap[w.heap.size + 3]? = some (partO 0 f h h t (.slice none 0 0) (.slice none 0 0) 0 0) := P9.out
      unfold partO at n5
      have N9 : Hid (X9.heap[w.heap.size + 3]? = some (partO 1 f h h t (.slice none 0 0) (.slice none 0 0) 0 0)) := by rw [hX9]; exact row_set n5
      have N5 : Hid (X9.heap[w.heap.size]? = some (partO 0 f h h t (.slice none 0 0) (.slice none 0 0) 0 0)) := by rw [hX9]; exact (Below.heap_setCell _ _ _ _ (by simp; omega)).trans P5.out
      have N8 : Hid (X9.heap[w.heap.size + 2]? = some (partO 0 0 0 0 0 (.slice none 0 0) (.slice none 0 0) 0 0)) := by rw [hX9]; exact (Below.heap_setCell _ _ _ _ (by simp)).trans P8.out
      have HB9 : Hid (Below w.heap.size w X9) := by rw [hX9]; exact HB5.out.setCell (p := ⟨w.heap.size + 1 + 1 + 1, 0, none⟩) (by simp; omega) _
      have hz9 : w.heap.size + 4 ≤ X9.heap.size := by rw [hX9]; simp [World.setCell]; omega
      clear a0 a1 a2 a3 a4 a5 a6 a7 a8 d0 d1 d2 d3 d4 d5 d6 d7 d8 c0 c1 c2 c3 c4 c5 c6 c7 c8 f0 f1 f2 f3 f4 f5 f6 f7 f8 b3 b4 hM5 n5 P5 P7 P8 P9 HB5
      rw [← hX9]
      clear hX9
      obtain ⟨_, _, _, b3, b4, _, _, _, _⟩ := part_cells N5.out
      have hM9 : X9.cell? ⟨M, 0, none⟩ = some v := (HB9.out.cell (p := ⟨M, 0, none⟩) hMl).trans hM
      obtain ⟨a0, a1, a2, a3, a4, a5, a6, a7, a8⟩ := part_cells N9.out
      obtain ⟨d0, d1, d2, d3, d4, d5, d6, d7, d8⟩ := part_frozen N9.out
      have HKp : Hid (∀ W, Below X9.heap.size X9 W → W.cell? ⟨M, 0, none⟩ = some v ∧ W.cell? ⟨w.heap.size, 3, none⟩ = some (.int .i64 (h : Int)) ∧ W.cell? ⟨w.heap.size, 4, none⟩ = some (.int .i64 (t : Int))) := fun W hb =>
        ⟨(hb.cell (p := ⟨M, 0, none⟩) (show M < X9.heap.size by omega)).trans hM9, (hb.cell (p := ⟨w.heap.size, 3, none⟩) (show w.heap.size < X9.heap.size by omega)).trans b3, (hb.cell (p := ⟨w.heap.size, 4, none⟩) (show w.heap.size < X9.heap.size by omega)).trans b4⟩
      have hd0 : Below X9.heap.size X9 X9.drew := (Below.refl _ _).drew
      go_region_held3 (fun W' => W'.cell? ⟨M, 0, none⟩ = some v ∧ W'.cell? ⟨w.heap.size, 3, none⟩ = some (.int .i64 (h : Int)) ∧ W'.cell? ⟨w.heap.size, 4, none⟩ = some (.int .i64 (t : Int))) (first | exact HKp.out _ (by assumption) | (refine ⟨?_, ?_, ?_⟩ <;> (repeat (with_reducible refine (cell_far (by omega)).trans ?_)) <;> first | exact hS6.1 | exact hS6.2.1 | exact hS6.2.2)) (first | (go_at_call 45; with_reducible refine (HD5.out _ (HB9.out.drew)).mono ?_; rintro e w6 ⟨u, rfl, hown, hb6⟩; obtain ⟨ua, un, uc, rfl⟩ := own_slice hown; have hbk := hd0.trans (hb6.mono hd0.size); have n9 := (hbk.block (w.heap.size + 3) (by omega)).trans N9.out; have N96 := Lib.hid n9; have N86 := Lib.hid ((hbk.block (w.heap.size + 2) (by omega)).trans N8.out); obtain ⟨y0, y1, y2, y3, y4, y5, y6, y7, y8⟩ := part_cells n9; obtain ⟨z0, z1, z2, z3, z4, z5, z6, z7, z8⟩ := part_frozen n9; have hS6 := HKp.out _ hbk))
      obtain ⟨c0, c1, c2, c3, c4, c5, c6, c7, c8⟩ := part_cells N86.out
      obtain ⟨f0, f1, f2, f3, f4, f5, f6, f7, f8⟩ := part_frozen N86.out
      clear hS6 z0 z1 z2 z3 z4 z5 z6 z7 z8
      have HB6 := Lib.hid (HB9.out.drew.trans (hb6.mono HB9.out.size))
      have HO6 := Lib.hid hown
      clear hb6 hown hbk
      go_wp2_with fail
      have hzz : w.heap.size + 3 < X9.drew.heap.size := by show w.heap.size + 3 < X9.heap.size; omega
      have e8 := (Below.heap_setCell ((w6.setCell ⟨w.heap.size + 1 + 1 + 1, 6, none⟩ (.slice ua un uc)).setCell ⟨w.heap.size + 1 + 1 + 1, 7, none⟩ (.int .i64 (cs.2.1 : Int))) ⟨w.heap.size + 1 + 1 + 1, 8, none⟩ (.int .i64 (cs.2.2 : Int)) (w.heap.size + 2) (by simp)).trans ((Below.heap_setCell (w6.setCell ⟨w.heap.size + 1 + 1 + 1, 6, none⟩ (.slice ua un uc)) ⟨w.heap.size + 1 + 1 + 1, 7, none⟩ (.int .i64 (cs.2.1 : Int)) (w.heap.size + 2) (by simp)).trans ((Below.heap_setCell w6 ⟨w.heap.size + 1 + 1 + 1, 6, none⟩ (.slice ua un uc) (w.heap.size + 2) (by simp)).trans N86.out))
      unfold partO at e8
      (try simp only [Exit.inBlock, Exit.then])
      refine bodyPost_ret (results_cell_row (P := Tryz.prog) Tryz.results27 _ _ (w.heap.size + 2) 32 _ (0, 0) _ rfl (row_set9 e8) Tryz.underlying32 rfl (by kernel_rfl)) rfl ?_
      have hw := own_set9 (g := w.heap.size + 2) (a0 := .int .i64 1) (a1 := .int .i64 (f : Int)) (a2 := .int .i64 (h : Int)) (a3 := .int .i64 (h : Int)) (a4 := .int .i64 (t : Int)) (a5 := .slice none 0 0) (a6 := .slice ua un uc) (a7 := .int .i64 (cs.2.1 : Int)) (a8 := .int .i64 (cs.2.2 : Int))
        (ownsRow_setCell_below (a := ⟨w.heap.size + 1 + 1 + 1, 8, none⟩) (ownsRow_setCell_below (a := ⟨w.heap.size + 1 + 1 + 1, 7, none⟩) (ownsRow_setCell_below (a := ⟨w.heap.size + 1 + 1 + 1, 6, none⟩) HO6.out hzz (.slice ua un uc)) hzz (.int .i64 (cs.2.1 : Int))) hzz (.int .i64 (cs.2.2 : Int))) (by omega)
      refine ⟨ua, un, uc, by rw [HP2.out]; rfl, by rw [HP2.out]; exact own_base2 hw (show w.heap.size ≤ X9.heap.size by omega), below_set9 (((HB6.out.setCell (p := ⟨w.heap.size + 1 + 1 + 1, 6, none⟩) (by simp; omega) _).setCell (p := ⟨w.heap.size + 1 + 1 + 1, 7, none⟩) (by simp; omega) _).setCell (p := ⟨w.heap.size + 1 + 1 + 1, 8, none⟩) (by simp; omega) _) (by omega)⟩
  · have eT0 : (T.toList == [109, 117, 108, 116, 105, 112, 97, 114, 116]) = false := by rw [eT]; simpa using hmul
    have HP1 : Hid (p = if k.type = msgN ∧ k.sub = rfcN ∧ bareS l fs = true then ⟨2, [], (0, 0), [(h, t)]⟩ else noPd) := by unfold Hid; rw [HPd.out, if_neg hmul]
    obtain ⟨a0, a1, a2, a3, a4, a5, a6, a7, a8⟩ := part_cells O9.out
    obtain ⟨c0, c1, c2, c3, c4, c5, c6, c7, c8⟩ := part_cells O8.out
    obtain ⟨f0, f1, f2, f3, f4, f5, f6, f7, f8⟩ := part_frozen O8.out
    have r0 : X.cell? ⟨w.heap.size + 1, 0, none⟩ = some (.string T) := by simp [World.cell?, O7.out]
    have r1 : X.cell? ⟨w.heap.size + 1, 1, none⟩ = some (.string S) := by simp [World.cell?, O7.out]
    clear eT hT hS hTl hSl HPd hpd hmul hp hv hf hs hks HBo HDe
    by_cases hmsg : k.type = msgN
    · have eM1 : (T.toList == [109, 101, 115, 115, 97, 103, 101]) = true := by rw [eM, hmsg]; rfl
      by_cases hrfc : k.sub = rfcN
      · have eS1 : (S.toList == [114, 102, 99, 56, 50, 50]) = true := by rw [eS, hrfc]; rfl
        clear eM eS
        go_enter Tryz.func27, Tryz.ntmps27
        go_wp2_with fail
        rw [← hX]
        with_reducible refine (HBa.out _ HBX.out).mono ?_
        rintro e w5 ⟨rfl, hb5⟩
        have hz5 : w.heap.size + 4 ≤ w5.heap.size := by have := hb5.size; have := HzX.out; omega
        have P8 := Lib.hid ((hb5.block _ (by have := HzX.out; omega)).trans O8.out)
        have P9 := Lib.hid ((hb5.block _ (by have := HzX.out; omega)).trans O9.out)
        have HB5 : Hid (Below w.heap.size w w5) := HBX.out.trans (hb5.mono HBX.out.size)
        clear a0 a1 a2 a3 a4 a5 a6 a7 a8 c0 c1 c2 c3 c4 c5 c6 c7 c8 f0 f1 f2 f3 f4 f5 f6 f7 f8 r0 r1
        clear hb5 O5 O7 O8 O9 HBa hX HzX HBX X
        obtain ⟨a0, a1, a2, a3, a4, a5, a6, a7, a8⟩ := part_cells P9.out
        obtain ⟨d0, d1, d2, d3, d4, d5, d6, d7, d8⟩ := part_frozen P9.out
        obtain ⟨c0, c1, c2, c3, c4, c5, c6, c7, c8⟩ := part_cells P8.out
        obtain ⟨f0, f1, f2, f3, f4, f5, f6, f7, f8⟩ := part_frozen P8.out
        cases hba : bareS l fs with
        | true =>
          have HP2 : Hid (p = ⟨2, [], (0, 0), [(h, t)]⟩) := by unfold Hid; rw [HP1.out, if_pos ⟨hmsg, hrfc, hba⟩]
          clear hba
          go_wp2_with fail
          have e8 := (Below.heap_setCell w5 ⟨w.heap.size + 1 + 1 + 1, 0, none⟩ (.int .i64 2) (w.heap.size + 2) (by simp)).trans P8.out
          unfold partO at e8
          (try simp only [Exit.inBlock, Exit.then])
          refine bodyPost_ret (results_cell_row (P := Tryz.prog) Tryz.results27 _ _ (w.heap.size + 2) 32 _ (0, 0) _ rfl (row_set9 e8) Tryz.underlying32 rfl (by kernel_rfl)) rfl ?_
          exact ⟨none, 0, 0, by rw [HP2.out]; rfl, by rw [HP2.out]; exact World.ownsRow_nil _ _ _ _, below_set9 (HB5.out.setCell (p := ⟨w.heap.size + 1 + 1 + 1, 0, none⟩) (by simp; omega) _) (by omega)⟩
        | false =>
          have HP2 : Hid (p = noPd) := by unfold Hid; rw [HP1.out, if_neg (by rintro ⟨_, _, h3⟩; rw [hba] at h3; cases h3)]
          clear hba
          go_wp2_with fail
          (try simp only [Exit.inBlock, Exit.then])
          refine bodyPost_ret (results_cell_row (P := Tryz.prog) Tryz.results27 _ _ (w.heap.size + 2) 32 _ (0, 0) _ rfl (row_set9 P8.out) Tryz.underlying32 rfl (by kernel_rfl)) rfl ?_
          exact ⟨none, 0, 0, by rw [HP2.out]; rfl, by rw [HP2.out]; exact World.ownsRow_nil _ _ _ _, below_set9 HB5.out (by omega)⟩
      · have eS1 : (S.toList == [114, 102, 99, 56, 50, 50]) = false := by rw [eS]; simpa using hrfc
        have HP2 : Hid (p = noPd) := by unfold Hid; rw [HP1.out, if_neg (by rintro ⟨_, h2, _⟩; exact hrfc h2)]
        clear eM eS hrfc
        go_enter Tryz.func27, Tryz.ntmps27
        go_upto_region 10 with fail
        rw [← hX]
        clear hX
        go_wp2_with fail
        (try simp only [Exit.inBlock, Exit.then])
        refine bodyPost_ret (results_cell_row (P := Tryz.prog) Tryz.results27 _ _ (w.heap.size + 2) 32 _ (0, 0) _ rfl (row_set9 O8.out) Tryz.underlying32 rfl (by kernel_rfl)) rfl ?_
        exact ⟨none, 0, 0, by rw [HP2.out]; rfl, by rw [HP2.out]; exact World.ownsRow_nil _ _ _ _, below_set9 HBX.out (by omega)⟩
    · have eM1 : (T.toList == [109, 101, 115, 115, 97, 103, 101]) = false := by rw [eM]; simpa using hmsg
      have HP2 : Hid (p = noPd) := by unfold Hid; rw [HP1.out, if_neg (by rintro ⟨h1, _, _⟩; exact hmsg h1)]
      clear eM eS hmsg
      go_enter Tryz.func27, Tryz.ntmps27
      go_upto_region 10 with fail
      rw [← hX]
      clear hX
      go_wp2_with fail
      (try simp only [Exit.inBlock, Exit.then])
      refine bodyPost_ret (results_cell_row (P := Tryz.prog) Tryz.results27 _ _ (w.heap.size + 2) 32 _ (0, 0) _ rfl (row_set9 O8.out) Tryz.underlying32 rfl (by kernel_rfl)) rfl ?_
      exact ⟨none, 0, 0, by rw [HP2.out]; rfl, by rw [HP2.out]; exact World.ownsRow_nil _ _ _ _, below_set9 HBX.out (by omega)⟩
end Go.Proofs.YteallnjbpikhhaaGreatDoor

/- A tree of parts in memory. -/
namespace Go.Proofs.YteallnjbpikhhaaGreatDoor
open Go Go.RowKit

def partCells : Value → List Value | .agg cs => cs.toList | _ => []
/-- A row of the call's own, in a block of which S holds. -/
def ownS (S : Nat → Prop) (W : World) (ty : TypeId) (size : Nat) (v : Value) (n : Nat) (xs : List Value) : Prop := W.ownsRow 0 ty size v n xs ∧ ∀ a, v.ownBlock = some a → S a
theorem ownS.keep {S S' : Nat → Prop} {W W' : World} {ty : TypeId} {size : Nat} {v : Value} {n : Nat} {xs : List Value} (h : ownS S W ty size v n xs) (hk : ∀ k, S k → k < W.heap.size → W'.heap[k]? = W.heap[k]? ∧ S' k) : ownS S' W' ty size v n xs := by
  obtain ⟨ho, hS⟩ := h
  have hlt := ho.lt
  refine ⟨⟨ho.1, ?_⟩, fun a ha => (hk a (hS a ha) (hlt a ha).2).2⟩
  rcases ho.2 with h2 | ⟨g, cap, cur, rfl, hg, hh, r⟩
  · exact .inl h2
  · have hgo : (Value.slice (some ⟨g, 0, none⟩) n cap).ownBlock = some g := rfl
    exact .inr ⟨g, cap, cur, rfl, hg, (hk g (hS g hgo) (hlt g hgo).2).1.trans hh, r⟩
mutual
def treeAt (S : Nat → Prop) (W : World) : Tr → Value → Prop
  | .mk k hd bd ks cs e, u => ∃ ka kn kc ca cn cc us, u = partV k hd bd (.slice ka kn kc) (.slice ca cn cc) e ∧ ownS S W 28 2 (.slice ca cn cc) cs.length (spCells cs) ∧
      ownS S W 32 9 (.slice ka kn kc) us.length (us.flatMap partCells) ∧ kidsAt S W ks us
def kidsAt (S : Nat → Prop) (W : World) : List Tr → List Value → Prop
  | [], us => us = []
  | t :: r, us => ∃ u us', us = u :: us' ∧ treeAt S W t u ∧ kidsAt S W r us'
end
mutual
theorem treeAt.keep {S S' : Nat → Prop} {W W' : World} (hk : ∀ k, S k → k < W.heap.size → W'.heap[k]? = W.heap[k]? ∧ S' k) : ∀ (t : Tr) (u : Value), treeAt S W t u → treeAt S' W' t u
  | .mk k hd bd ks cs e, u, h => by
    unfold treeAt at h ⊢
    obtain ⟨ka, kn, kc, ca, cn, cc, us, h1, h2, h3, h4⟩ := h
    exact ⟨ka, kn, kc, ca, cn, cc, us, h1, h2.keep hk, h3.keep hk, kidsAt.keep hk ks us h4⟩
theorem kidsAt.keep {S S' : Nat → Prop} {W W' : World} (hk : ∀ k, S k → k < W.heap.size → W'.heap[k]? = W.heap[k]? ∧ S' k) : ∀ (ts : List Tr) (us : List Value), kidsAt S W ts us → kidsAt S' W' ts us
  | [], us, h => by
    unfold kidsAt at h ⊢
    exact h
  | t :: r, us, h => by
    unfold kidsAt at h ⊢
    obtain ⟨u, us', h1, h2, h3⟩ := h
    exact ⟨u, us', h1, treeAt.keep hk t u h2, kidsAt.keep hk r us' h3⟩
end
theorem kidsAt_nil (S : Nat → Prop) (W : World) : kidsAt S W [] [] := by unfold kidsAt; rfl
theorem kidsAt_snoc {S : Nat → Prop} {W : World} : ∀ {ts : List Tr} {us : List Value} {t : Tr} {u : Value}, kidsAt S W ts us → treeAt S W t u → kidsAt S W (ts ++ [t]) (us ++ [u])
  | [], us, t, u, h, ht => by
    unfold kidsAt at h
    subst h
    show kidsAt S W [t] [u]
    unfold kidsAt
    exact ⟨u, [], rfl, ht, kidsAt_nil _ _⟩
  | x :: r, us, t, u, h, ht => by
    unfold kidsAt at h
    obtain ⟨v, us', rfl, h2, h3⟩ := h
    show kidsAt S W (x :: (r ++ [t])) (v :: (us' ++ [u]))
    unfold kidsAt
    exact ⟨v, us' ++ [u], rfl, h2, kidsAt_snoc h3 ht⟩
theorem kidsAt_len {S : Nat → Prop} {W : World} : ∀ {ts : List Tr} {us : List Value}, kidsAt S W ts us → us.length = ts.length
  | [], us, h => by
    unfold kidsAt at h
    subst h
    rfl
  | t :: r, us, h => by
    unfold kidsAt at h
    obtain ⟨u, us', rfl, _, h3⟩ := h
    simp [kidsAt_len h3]
theorem treeAt_part {S : Nat → Prop} {W : World} {t : Tr} {u : Value} (h : treeAt S W t u) : ∃ ka kn kc ca cn cc, u = partV t.kind t.hd t.bd (.slice ka kn kc) (.slice ca cn cc) t.e := by
  cases t
  unfold treeAt at h
  obtain ⟨ka, kn, kc, ca, cn, cc, us, h1, _⟩ := h
  exact ⟨ka, kn, kc, ca, cn, cc, h1⟩
theorem ownS_nil (S : Nat → Prop) (W : World) (ty : TypeId) (size : Nat) : ownS S W ty size (.slice none 0 0) 0 [] := ⟨World.ownsRow_nil _ _ _ _, fun a h => by cases h⟩
theorem leaf_at (S : Nat → Prop) (W : World) (f h t : Nat) : treeAt S W (leafT f h t) (partV 0 (f, h) (h, t) (.slice none 0 0) (.slice none 0 0) (0, 0)) := by
  unfold leafT treeAt
  exact ⟨none, 0, 0, none, 0, 0, [], rfl, ownS_nil _ _ _ _, ownS_nil _ _ _ _, kidsAt_nil _ _⟩
theorem own_base0 {S : Nat → Prop} {W : World} {base : Nat} {ty : TypeId} {size : Nat} {v : Value} {n : Nat} {xs : List Value} (h : W.ownsRow base ty size v n xs) (hS : ∀ a, base ≤ a → a < W.heap.size → S a) : ownS S W ty size v n xs :=
  ⟨own_base2 h (Nat.zero_le _), fun a ha => hS a (h.lt a ha).1 (h.lt a ha).2⟩
/-- The maker's block. -/
structure Mk (W : World) (M : Nat) (v : Value) (c : Nat) : Prop where
  c0 : W.cell? ⟨M, 0, none⟩ = some v
  c1 : W.cell? ⟨M, 1, none⟩ = some (.int .i64 (c : Int))
  f1 : W.frozen? ⟨M, 1, none⟩ = false
theorem Mk.lt {W : World} {M : Nat} {v : Value} {c : Nat} (h : Mk W M v c) : M < W.heap.size := World.block_lt_of_cell? _ _ h.c0
theorem Mk.block {W W' : World} {M : Nat} {v : Value} {c : Nat} (h : Mk W M v c) (hb : W'.heap[M]? = W.heap[M]?) : Mk W' M v c :=
  ⟨(World.cell?_of_block (a := ⟨M, 0, none⟩) hb).trans h.c0, (World.cell?_of_block (a := ⟨M, 1, none⟩) hb).trans h.c1, (World.frozen?_of_block (a := ⟨M, 1, none⟩) hb).trans h.f1⟩
theorem Mk.below {W W' : World} {M : Nat} {v : Value} {c : Nat} (h : Mk W M v c) (hb : Below W.heap.size W W') : Mk W' M v c := h.block (hb.block M h.lt)
theorem Mk.set {W : World} {M : Nat} {v : Value} {c : Nat} (h : Mk W M v c) (j : Nat) : Mk (W.setCell ⟨M, 1, none⟩ (.int .i64 (j : Int))) M v j :=
  ⟨(World.cell?_setCell_other _ ⟨M, 1, none⟩ ⟨M, 0, none⟩ _ (by simp)).trans h.c0, World.cell?_setCell_same _ _ _ h.c1, (World.frozen?_setCell _ _ _ _).trans h.f1⟩
theorem Mk.far {W : World} {M : Nat} {v : Value} {c : Nat} (h : Mk W M v c) {p : Addr} (hp : M ≠ p.block) (u : Value) : Mk (W.setCell p u) M v c := h.block (Below.heap_setCell _ _ _ _ hp)
/-- What an entity's call leaves. -/
def entPost (M : Nat) (v : Value) (r : Tr × Nat) (w : World) (e : Ending) (w' : World) : Prop :=
  ∃ u, e = .returned u ∧ treeAt (fun k => w.heap.size ≤ k) w' r.1 u ∧ Gr M w w' ∧ Mk w' M v r.2
theorem gr_below {M : Nat} {w0 w w' : World} (h : Below w0.heap.size w0 w) (hM : w0.heap.size ≤ M) (hg : Gr M w w') : Below w0.heap.size w0 w' := h.grown hg h.size (fun k hk => by cases hk; exact hM)
theorem below_gr {M : Nat} {w w' : World} (h : Below w.heap.size w w') : Gr M w w' := (Gr.refl M w).below h
theorem mk_set9 {M : Nat} {v : Value} {c : Nat} {W : World} {g : Nat} {a0 a1 a2 a3 a4 a5 a6 a7 a8 : Value} (h : Mk W M v c) (hg : M ≠ g) :
    Mk (((((((((W.setCell ⟨g, 0, none⟩ a0).setCell ⟨g, 1, none⟩ a1).setCell ⟨g, 2, none⟩ a2).setCell ⟨g, 3, none⟩ a3).setCell ⟨g, 4, none⟩ a4).setCell ⟨g, 5, none⟩ a5).setCell ⟨g, 6, none⟩ a6).setCell ⟨g, 7, none⟩ a7).setCell ⟨g, 8, none⟩ a8) M v c :=
  ((((((((h.far (p := ⟨g, 0, none⟩) hg _).far (p := ⟨g, 1, none⟩) hg _).far (p := ⟨g, 2, none⟩) hg _).far (p := ⟨g, 3, none⟩) hg _).far (p := ⟨g, 4, none⟩) hg _).far (p := ⟨g, 5, none⟩) hg _).far (p := ⟨g, 6, none⟩) hg _).far (p := ⟨g, 7, none⟩) hg _).far (p := ⟨g, 8, none⟩) hg _
theorem leaf_end {M : Nat} {v : Value} {c : Nat} {w X : World} {B : Nat} (f h t : Nat) (hB : w.heap.size ≤ B) (hMB : M ≠ B) (hb : Below w.heap.size w X) (hm : Mk X M v c) :
    entPost M v (leafT f h t, c) w (.returned (partV 0 (f, h) (h, t) (.slice none 0 0) (.slice none 0 0) (0, 0))) (((((((((X.setCell ⟨B, 0, none⟩ (.int .i64 0)).setCell ⟨B, 1, none⟩ (.int .i64 (f : Int))).setCell ⟨B, 2, none⟩ (.int .i64 (h : Int))).setCell ⟨B, 3, none⟩ (.int .i64 (h : Int))).setCell ⟨B, 4, none⟩ (.int .i64 (t : Int))).setCell ⟨B, 5, none⟩ (.slice none 0 0)).setCell ⟨B, 6, none⟩ (.slice none 0 0)).setCell ⟨B, 7, none⟩ (.int .i64 0)).setCell ⟨B, 8, none⟩ (.int .i64 0)) :=
  ⟨_, rfl, leaf_at _ _ f h t, below_gr (below_set9 hb hB), mk_set9 hm hMB⟩
theorem treeAt_agg {S : Nat → Prop} {W : World} {t : Tr} {u : Value} (h : treeAt S W t u) : ∃ ka kn kc ca cn cc, u = .agg #[.int .i64 (t.kind : Int), .int .i64 (t.hd.1 : Int), .int .i64 (t.hd.2 : Int), .int .i64 (t.bd.1 : Int), .int .i64 (t.bd.2 : Int), .slice ka kn kc, .slice ca cn cc, .int .i64 (t.e.1 : Int), .int .i64 (t.e.2 : Int)] := by
  obtain ⟨ka, kn, kc, ca, cn, cc, h⟩ := treeAt_part h
  exact ⟨ka, kn, kc, ca, cn, cc, h⟩
theorem Tryz.infoPt : (Tryz.prog.info? 32).map (fun i => (i.zero, i.size, i.bytes)) = some (some (.agg #[.int .i64 0, .int .i64 0, .int .i64 0, .int .i64 0, .int .i64 0, .slice none 0 0, .slice none 0 0, .int .i64 0, .int .i64 0]), 9, 104) := by kernel_rfl
/-- All that lay lies, but for two blocks. -/
structure K2 (M P : Nat) (W W' : World) : Prop where
  os : W'.os = W.os
  tape : W'.tape = W.tape
  output : W'.output = W.output
  size : W.heap.size ≤ W'.heap.size
  block : ∀ k, k < W.heap.size → k ≠ M → k ≠ P → W'.heap[k]? = W.heap[k]?
theorem K2.refl (M P : Nat) (W : World) : K2 M P W W := ⟨rfl, rfl, rfl, Nat.le_refl _, fun _ _ _ _ => rfl⟩
theorem K2.below {M P : Nat} {W W' W'' : World} (h : K2 M P W W') (hb : Below W'.heap.size W' W'') : K2 M P W W'' :=
  ⟨hb.os.trans h.os, hb.tape.trans h.tape, hb.output.trans h.output, Nat.le_trans h.size hb.size, fun k hk h1 h2 => (hb.block k (Nat.lt_of_lt_of_le hk h.size)).trans (h.block k hk h1 h2)⟩
theorem K2.gr {M P : Nat} {W W' W'' : World} (h : K2 M P W W') (hg : Gr M W' W'') : K2 M P W W'' :=
  ⟨hg.os.trans h.os, hg.tape.trans h.tape, hg.output.trans h.output, Nat.le_trans h.size hg.size, fun k hk h1 h2 => (hg.block k (Nat.lt_of_lt_of_le hk h.size) (fun e => h1 (Option.some.inj e))).trans (h.block k hk h1 h2)⟩
theorem K2.grM {M P : Nat} {W W' W'' : World} (h : K2 M P W W') (hg : W'.grownBy W'' (some M)) : K2 M P W W'' := h.gr hg
theorem K2.grown {M P : Nat} {W W' W'' : World} {row : Option Nat} (h : K2 M P W W') (hg : W'.grownBy W'' row) (hr : ∀ k, row = some k → W.heap.size ≤ k) : K2 M P W W'' :=
  ⟨hg.os.trans h.os, hg.tape.trans h.tape, hg.output.trans h.output, Nat.le_trans h.size hg.size, fun k hk h1 h2 => (hg.block k (Nat.lt_of_lt_of_le hk h.size) (fun e => by have := hr k e.symm; omega)).trans (h.block k hk h1 h2)⟩
theorem K2.set {M P : Nat} {W W' : World} (h : K2 M P W W') (j : Nat) (u : Value) : K2 M P W (W'.setCell ⟨P, j, none⟩ u) :=
  ⟨h.os, h.tape, h.output, by rw [size_set]; exact h.size, fun k hk h1 h2 => (Below.heap_setCell _ _ _ _ h2).trans (h.block k hk h1 h2)⟩
theorem K2.to {M P : Nat} {w W W' : World} (h : K2 M P W W') (hb : Gr M w W) (hP : w.heap.size ≤ P) : Gr M w W' :=
  ⟨h.os.trans hb.os, h.tape.trans hb.tape, h.output.trans hb.output, Nat.le_trans hb.size h.size, fun k hk h1 => (h.block k (Nat.lt_of_lt_of_le hk hb.size) (fun e => h1 (by rw [e])) (by omega)).trans (hb.block k hk h1)⟩
theorem K2.trans {M P : Nat} {a b c : World} (h : K2 M P a b) (k : K2 M P b c) : K2 M P a c :=
  ⟨k.os.trans h.os, k.tape.trans h.tape, k.output.trans h.output, Nat.le_trans h.size k.size, fun q hq h1 h2 => (k.block q (Nat.lt_of_lt_of_le hq h.size) h1 h2).trans (h.block q hq h1 h2)⟩
theorem K2.base {M P : Nat} {w0 W W' : World} (h : K2 M P W W') (hb : Below w0.heap.size w0 W) (hM : w0.heap.size ≤ M) (hP : w0.heap.size ≤ P) : Below w0.heap.size w0 W' :=
  ⟨h.os.trans hb.os, h.tape.trans hb.tape, h.output.trans hb.output, Nat.le_trans hb.size h.size, fun k hk => (h.block k (Nat.lt_of_lt_of_le hk hb.size) (by omega) (by omega)).trans (hb.block k hk)⟩
theorem own_k2 {M P base size n : Nat} {W W' : World} {ty : TypeId} {v : Value} {xs : List Value} (h : W.ownsRow base ty size v n xs) (k : K2 M P W W') (hM : M < base) (hP : P < base) : W'.ownsRow base ty size v n xs := by
  have hlt := h.lt
  refine ⟨h.1, ?_⟩
  rcases h.2 with h2 | ⟨g, cap, cur, rfl, hg, hh, r⟩
  · exact .inl h2
  · have hgo : (Value.slice (some ⟨g, 0, none⟩) n cap).ownBlock = some g := rfl
    exact .inr ⟨g, cap, cur, rfl, hg, (k.block g (hlt g hgo).2 (by omega) (by omega)).trans hh, r⟩
theorem gr_set {M : Nat} {w W : World} {p : Addr} (h : Gr M w W) (hp : w.heap.size ≤ p.block) (u : Value) : Gr M w (W.setCell p u) :=
  ⟨h.os, h.tape, h.output, by rw [size_set]; exact h.size, fun k hk h1 => (Below.heap_setCell _ _ _ _ (by omega)).trans (h.block k hk h1)⟩
theorem gr_set9 {M : Nat} {w W : World} {g : Nat} {a0 a1 a2 a3 a4 a5 a6 a7 a8 : Value} (h : Gr M w W) (hg : w.heap.size ≤ g) :
    Gr M w (((((((((W.setCell ⟨g, 0, none⟩ a0).setCell ⟨g, 1, none⟩ a1).setCell ⟨g, 2, none⟩ a2).setCell ⟨g, 3, none⟩ a3).setCell ⟨g, 4, none⟩ a4).setCell ⟨g, 5, none⟩ a5).setCell ⟨g, 6, none⟩ a6).setCell ⟨g, 7, none⟩ a7).setCell ⟨g, 8, none⟩ a8) :=
  gr_set (gr_set (gr_set (gr_set (gr_set (gr_set (gr_set (gr_set (gr_set h hg _) hg _) hg _) hg _) hg _) hg _) hg _) hg _) hg _
theorem heap_set9 {W : World} {g q : Nat} {a0 a1 a2 a3 a4 a5 a6 a7 a8 : Value} (hq : q ≠ g) :
    (((((((((W.setCell ⟨g, 0, none⟩ a0).setCell ⟨g, 1, none⟩ a1).setCell ⟨g, 2, none⟩ a2).setCell ⟨g, 3, none⟩ a3).setCell ⟨g, 4, none⟩ a4).setCell ⟨g, 5, none⟩ a5).setCell ⟨g, 6, none⟩ a6).setCell ⟨g, 7, none⟩ a7).setCell ⟨g, 8, none⟩ a8).heap[q]? = W.heap[q]? := by
  rw [Below.heap_setCell _ _ _ _ hq, Below.heap_setCell _ _ _ _ hq, Below.heap_setCell _ _ _ _ hq, Below.heap_setCell _ _ _ _ hq, Below.heap_setCell _ _ _ _ hq, Below.heap_setCell _ _ _ _ hq, Below.heap_setCell _ _ _ _ hq, Below.heap_setCell _ _ _ _ hq, Below.heap_setCell _ _ _ _ hq]
end Go.Proofs.YteallnjbpikhhaaGreatDoor

/- A law of my own, of no function: a region that draws its order and ends in one operation that waits for all that it must: what the loads read need hold only ahead of that one. (After the library's walk with a held condition; here the last operation may break it.) -/
namespace Go.Proofs.YteallnjbpikhhaaGreatDoor
open Go Go.RowKit
section
variable {P : Program} {ops : Array Oper} {Q : Exit → Act → World → Prop} {md : Region.Mode} {S : World → Prop} {n : Nat}
/-- Whatever order is picked from here on, and S holds behind every operation but the last. -/
def wpAnyN (P : Program) (md : Region.Mode) (ops : Array Oper) (Q : Exit → Act → World → Prop) (S : World → Prop) (n : Nat) : Nat → Array Bool → Act → World → Prop
  | 0, listed, a, w => Region.ready md ops listed = [] ∧ Q .normal a w
  | fuel + 1, listed, a, w =>
    (Region.ready md ops listed = [] → Q .normal a w) ∧
    ∀ i ∈ Region.ready md ops listed, wpOp P ops Q i (fun a' w' => (i ≠ n → S w') ∧ wpAnyN P md ops Q S n fuel (listed.setIfInBounds i true) a' w') a w
theorem wpAny_of_last : ∀ (fuel : Nat) (listed : Array Bool) (a : Act) (w : World), wpAnyN P md ops Q S n fuel listed a w → wpAny P md ops Q fuel listed a w
  | 0, _, _, _, h => h
  | fuel + 1, _, _, _, h => ⟨h.1, fun i hi => wpOp_mono (fun a' w' h' => wpAny_of_last fuel _ a' w' h'.2) (h.2 i hi)⟩
/-- The last operation waits for this one. -/
def lastWaits (md : Region.Mode) (ops : Array Oper) (n i : Nat) : Bool :=
  match ops[n]? with
  | some o => o.after.toList.any fun e => Region.binds md e && e.on == i
  | none => true
theorem last_not {i : Nat} {listed : Array Bool} (hl : lastWaits md ops n i = true) (hun : listed.getD i true = false) : n ∉ Region.ready md ops listed := by
  intro hr
  obtain ⟨_, o, ho, hall⟩ := mem_ready.1 hr
  unfold lastWaits at hl
  rw [ho] at hl
  obtain ⟨e, he, hb⟩ := List.any_eq_true.1 hl
  simp only [Bool.and_eq_true, beq_iff_eq] at hb
  have h1 := hall e (by simpa using he) hb.1
  rw [hb.2] at h1
  rcases Nat.lt_or_ge i listed.size with h' | h'
  · simp [h'] at hun h1; rw [hun] at h1; cases h1
  · simp [Array.getElem?_eq_none h'] at h1
theorem wpAnyN_first {i : Nat} {oi : Oper} {v : Value} (hi : ops[i]? = some oi) (hsel : ∀ (j : Nat) (o : Oper) cs b, ops[j]? = some o → o.op ≠ .select cs b)
    (hQ : ∀ c a w, Q (.panic c) (a.put oi.dst v) w → Q (.panic c) a w) (hl : lastWaits md ops n i = true) :
    ∀ (fuel : Nat) (listed : Array Bool) (a : Act) (w : World),
      (∀ j oj, ops[j]? = some oj → j ≠ i → listed.getD j true = false → (∀ e ∈ oj.after, Region.binds md e = true → e.on ≠ i) → oi.apart ops oj = true) →
      i ∈ Region.ready md ops listed → YieldsIf P ops S oi v a → S w →
      wpAnyN P md ops Q S n fuel (listed.setIfInBounds i true) (a.put oi.dst v) w → wpAnyN P md ops Q S n (fuel + 1) listed a w := by
  intro fuel
  induction fuel with
  | zero =>
    intro listed a w _ hr hy hS H
    refine ⟨fun h => (by rw [h] at hr; cases hr), fun j hj => ?_⟩
    by_cases hji : j = i
    · subst hji; exact hy.wpOp hi hS ⟨fun _ => hS, H⟩
    · have := ready_mono hj hji
      rw [H.1] at this
      cases this
  | succ fuel ih =>
    intro listed a w hfree hr hy hS H
    refine ⟨fun h => (by rw [h] at hr; cases hr), fun j hj => ?_⟩
    by_cases hji : j = i
    · subst hji; exact hy.wpOp hi hS ⟨fun _ => hS, H⟩
    · have h1 := H.2 j (ready_mono hj hji)
      obtain ⟨hjun, oj, hoj, hall⟩ := mem_ready.1 hj
      have hjn : j ≠ n := fun e => last_not hl (mem_ready.1 hr).1 (e ▸ hj)
      have hnot : ∀ e ∈ oj.after, Region.binds md e = true → e.on ≠ i := fun e he hb heq => by
        have h1 := hall e he hb
        have h0 := (mem_ready.1 hr).1
        rw [heq] at h1
        rcases Nat.lt_or_ge i listed.size with h' | h'
        · simp [h'] at h0 h1; rw [h0] at h1; cases h1
        · simp [Array.getElem?_eq_none h'] at h1
      have h2 := wpOp_putIf hoj (hfree j oj hoj hji hjun hnot) (fun cs b => hsel i oi cs b hi) (fun cs b => hsel j oj cs b hoj) hQ hy h1
      have hfree' : ∀ k ok, ops[k]? = some ok → k ≠ i → (listed.setIfInBounds j true).getD k true = false →
          (∀ e ∈ ok.after, Region.binds md e = true → e.on ≠ i) → oi.apart ops ok = true := fun k ok hk hki hun hno => by
        refine hfree k ok hk hki ?_ hno
        by_cases hjk : j = k
        · subst hjk; exact hjun
        · rw [getD_set_ne true hjk] at hun; exact hun
      refine wpOp_mono (fun a' w' h3 => ⟨h3.2.1, ih (listed.setIfInBounds j true) a' w' hfree' (ready_mono hr (Ne.symm hji)) h3.1 (h3.2.1 hjn) ?_⟩) h2
      rw [Array.setIfInBounds_comm _ _ hji]
      exact h3.2.2
theorem wpAnyN_take {i : Nat} {oi : Oper} {v : Value} {fuel : Nat} {listed : Array Bool} {a : Act} {w : World} (hi : ops[i]? = some oi)
    (hs : Region.noSelect ops = true) (hf : Region.free md ops listed i = true) (hr : (Region.ready md ops listed).contains i = true) (hl : lastWaits md ops n i = true)
    (hQ : ∀ c a w, Q (.panic c) (a.put oi.dst v) w → Q (.panic c) a w) (hy : YieldsIf P ops S oi v a) (hS : S w)
    (h : wpAnyN P md ops Q S n fuel (listed.setIfInBounds i true) (a.put oi.dst v) w) : wpAnyN P md ops Q S n (fuel + 1) listed a w :=
  wpAnyN_first hi (Region.noSelect_spec hs) hQ hl fuel listed a w (Region.free_spec hi hf) (by simpa using hr) hy hS h
theorem wpAnyN_takeE {i : Nat} {oi : Oper} {fuel : Nat} {listed : Array Bool} {a : Act} {w : World} (hi : ops[i]? = some oi)
    (hs : Region.noSelect ops = true) (hf : Region.free md ops listed i = true) (hr : (Region.ready md ops listed).contains i = true) (hl : lastWaits md ops n i = true)
    (hQ : ∀ v c a w, Q (.panic c) (a.put oi.dst v) w → Q (.panic c) a w) (hw : Region.wanted oi (yielded ops a.tmps) = true) (hS : S w)
    (h : ∃ v, (∀ w, S w → (execOp a.eval oi).run P w = .ok (.value v) w) ∧ wpAnyN P md ops Q S n fuel (listed.setIfInBounds i true) (a.put oi.dst v) w) : wpAnyN P md ops Q S n (fuel + 1) listed a w :=
  let ⟨v, h1, h2⟩ := h
  wpAnyN_take hi hs hf hr hl (hQ v) (.inl ⟨hw, h1⟩) hS h2
theorem wpAnyN_one {fuel : Nat} {listed : Array Bool} {a : Act} {w : World} {i : Nat} {o : Oper} (hr : Region.ready md ops listed = [i]) (ho : ops[i]? = some o)
    (h : ∀ K' : Act → World → Prop, Shut (∀ a w, (i ≠ n → S w) → wpAnyN P md ops Q S n fuel (listed.setIfInBounds i true) a w → K' a w) → if Region.wanted o (yielded ops a.tmps) = true then Oper.wp P o a w K' Q else K' (a.put o.dst undef) w) :
    wpAnyN P md ops Q S n (fuel + 1) listed a w := by
  refine ⟨fun h0 => (by rw [hr] at h0; cases h0), fun j hj => ?_⟩
  rw [hr] at hj
  obtain rfl : j = i := by simpa using hj
  exact wpOp_step ho (fun K' hK => h K' (fun a w hS hW => hK a w ⟨hS, hW⟩))
theorem wpAnyN_done {listed : Array Bool} {a : Act} {w : World} (hr : Region.ready md ops listed = []) (h : Q .normal a w) : ∀ fuel, wpAnyN P md ops Q S n fuel listed a w
  | 0 => ⟨hr, h⟩
  | _ + 1 => ⟨fun _ => h, by rw [hr]; simp⟩
theorem wp_region_last {id : Nat} {a : Act} {w : World} (S : World → Prop) (n : Nat) (hm : P.follows .mixedOrders = true)
    (h : wpAnyN P .any ops Q S n ops.size (Array.replicate ops.size false) a w.drew) : (Code.region id ops true).wp P Q a w := wp_region_any hm (wpAny_of_last _ _ _ _ h)
end
end Go.Proofs.YteallnjbpikhhaaGreatDoor
