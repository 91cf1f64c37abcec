/- Layer 20: StructureKinds. -/
import Derived.Test.YtkmgflnmffdhjaaGreatDoorGbStR
import Derived.Test.YtkmgflnmffdhjaaGreatDoorGbParX
namespace Go.Proofs.YtkmgflnmffdhjaaGreatDoor
open Go Go.RowKit

/-- Of each kid of a row it is so. -/
def kidK (vb : Value) (w0 : World) (ka : Option Addr) (ts : List Tr) : Prop := ∀ i, (h : i < ts.length) → ∃ g a n c a2 n2 c2, ka = some ⟨g, 0, none⟩ ∧ g < w0.heap.size ∧ nineAt w0 g i ts[i] (.slice a n c) (.slice a2 n2 c2) ∧
  ∀ W', Below w0.heap.size w0 W' → Calls Tryz.prog 10 #[vb, .agg #[.int .i64 (ts[i].kind : Int), .int .i64 (ts[i].hd.1 : Int), .int .i64 (ts[i].hd.2 : Int), .int .i64 (ts[i].bd.1 : Int), .int .i64 (ts[i].bd.2 : Int), .slice a n c, .slice a2 n2 c2, .int .i64 (ts[i].e.1 : Int), .int .i64 (ts[i].e.2 : Int)]] W'
    fun e w' => e = .returned (.bool true) ∧ Below W'.heap.size W' w'
theorem part_below {H : Nat} {W W' : World} {k a b c d e f : Int} {ks cs : Value} (hb : Below W.heap.size W W') (h : W.heap[H]? = some (partO k a b c d ks cs e f)) : W'.heap[H]? = some (partO k a b c d ks cs e f) :=
  (hb.block H (Array.getElem?_eq_some_iff.1 h).1).trans h
set_option maxRecDepth 100000 in
set_option maxHeartbeats 4000000 in
theorem kinds_step (ao : Option Addr) (cap : Nat) (l : List UInt8) (w : World) (ts : List Tr) (kd h1 h2 : Nat) (b1 b2 e1 e2 : Int) (ka ca : Option Addr) (kc cn cc : Nat)
    (hv : bytesArg w (.slice ao l.length cap) l) (hbig : l.length ≤ 1500) (he : env w) (hft : h1 ≤ h2) (htl : h2 ≤ l.length) (hk : kidK (.slice ao l.length cap) w ka ts) (hn : ts.length ≤ 1000000000) :
    Calls Tryz.prog 10 #[.slice ao l.length cap, .agg #[.int .i64 (kd : Int), .int .i64 (h1 : Int), .int .i64 (h2 : Int), .int .i64 b1, .int .i64 b2, .slice ka ts.length kc, .slice ca cn cc, .int .i64 e1, .int .i64 e2]] w
      fun e w' => e = .returned (.bool true) ∧ Below w.heap.size w w' := by
  have HA := Lib.hid hk
  obtain ⟨X, hX⟩ : ∃ X, X = w.alloc (partO kd h1 h2 b1 b2 (.slice ka ts.length kc) (.slice ca cn cc) e1 e2) := ⟨_, rfl⟩
  have HP : Hid (X.heap[w.heap.size]? = some (partO kd h1 h2 b1 b2 (.slice ka ts.length kc) (.slice ca cn cc) e1 e2)) := by rw [hX]; exact heap_alloc_new w _
  have HBX : Hid (Below w.heap.size w X) := by rw [hX]; exact (Below.refl _ _).alloc (Nat.le_refl _) _
  have HKd := Lib.hid (kind_any ao cap l kd h1 h2 b1 b2 e1 e2 ka ca ts.length kc cn cc X (hv.below HBX.out) hbig hft htl (he.below HBX.out))
  unfold kindV at HKd
  obtain ⟨i1, i2, i3, i4⟩ := kind_is l (fsOf l h1 h2) kd
  obtain ⟨kk, hkk⟩ : ∃ kk, kk = kindS l (fsOf l h1 h2) kd := ⟨_, rfl⟩
  rw [← hkk] at HKd i1 i2 i3 i4
  obtain ⟨K0, hK0⟩ : ∃ A : ByteArray, A = ⟨kk.1.toArray⟩ := ⟨_, rfl⟩
  obtain ⟨K1, hK1⟩ : ∃ A : ByteArray, A = ⟨kk.2.1.toArray⟩ := ⟨_, rfl⟩
  obtain ⟨K2, hK2⟩ : ∃ A : ByteArray, A = ⟨kk.2.2.toArray⟩ := ⟨_, rfl⟩
  rw [← hK0, ← hK1, ← hK2] at HKd
  have t0 : K0.toList = kk.1 := by rw [ByteArray.toList_eq, hK0]
  have t1 : K1.toList = kk.2.1 := by rw [ByteArray.toList_eq, hK1]
  have eM : (K0.toList == [109, 117, 108, 116, 105, 112, 97, 114, 116]) = (kk.1 == mulN) := by rw [t0]; rfl
  have eG : (K0.toList == [109, 101, 115, 115, 97, 103, 101]) = (kk.1 == msgN) := by rw [t0]; rfl
  have eR : (K1.toList == [114, 102, 99, 56, 50, 50]) = (kk.2.1 == rfcN) := by rw [t1]; rfl
  have z0 : (K0.toList == []) = false := by rw [t0]; exact beq_eq_false_iff_ne.2 i3
  have z1 : (K1.toList == []) = false := by rw [t1]; exact beq_eq_false_iff_ne.2 i4
  have z2 : K0.toList.isEmpty = false := by rw [t0]; cases h : kk.1 with | nil => exact absurd h i3 | cons _ _ => rfl
  have z3 : K1.toList.isEmpty = false := by rw [t1]; cases h : kk.2.1 with | nil => exact absurd h i4 | cons _ _ => rfl
  have d1 : ((kd : Int) == 1) = (kk.1 == mulN) := by
    refine Bool.eq_iff_iff.2 ?_
    rw [beq_iff_eq, beq_iff_eq, i1]
    omega
  have d2 : ((kd : Int) == 2) = (kk.1 == msgN && kk.2.1 == rfcN) := by
    refine Bool.eq_iff_iff.2 ?_
    rw [beq_iff_eq, Bool.and_eq_true, beq_iff_eq, beq_iff_eq, i2]
    omega
  generalize (kk.1 == mulN) = p at eM d1
  generalize (kk.1 == msgN) = q at eG d2
  generalize (kk.2.1 == rfcN) = r at eR d2
  have HBx2 := Lib.hid HBX.out.size
  unfold partO at hX
  have HX := Lib.hid hX
  have hHX : w.heap.size < X.heap.size := (Array.getElem?_eq_some_iff.1 HP.out).1
  clear hX hk hv he hkk hK0 hK1 hK2 t0 t1 i1 i2 i3 i4
  obtain ⟨H, hH⟩ : ∃ H, H = w.heap.size := ⟨_, rfl⟩
  rw [← hH] at HP hHX
  have HHw := Lib.hid hH
  clear hH
  cases p <;> cases q <;> cases r <;>
  · simp only [Bool.and_self, Bool.and_false, Bool.and_true] at d2
    go_enter Tryz.func10, Tryz.ntmps10
    go_upto_region 1 with fail
    rw [← HX.out, ← HHw.out]
    obtain ⟨p0, p1, p2, p3, p4, p5, p6, p7, p8⟩ := part_cells HP.out
    go_wp2_with fail
    with_reducible refine HKd.out.mono ?_
    rintro e w1 ⟨rfl, hb1⟩
    have HB1 := Lib.hid hb1
    have HP1 := Lib.hid (part_below hb1 HP.out)
    clear p0 p1 p2 p3 p4 p5 p6 p7 p8 hb1
    obtain ⟨p0, p1, p2, p3, p4, p5, p6, p7, p8⟩ := part_cells HP1.out
    go_wp2_with fail
    clear p0 p1 p2 p3 p4 p5 p6 p7 p8
    go_loopg [10] ts.length (fun g xi wr => ∃ (i : Nat), i ≤ ts.length ∧ g = ts.length - i ∧ xi = .int .i64 (i : Int) ∧ Hid (Below X.heap.size X wr))
    case atStart => exact ⟨0, Nat.zero_le _, by omega, rfl, HB1.out⟩
    case round =>
      obtain ⟨i, hi, rfl, rfl, HB⟩ := hrel
      have HPr := Lib.hid (part_below HB.out HP.out)
      obtain ⟨p0, p1, p2, p3, p4, p5, p6, p7, p8⟩ := part_cells HPr.out
      by_cases hlt : i < ts.length
      · obtain ⟨g, a, n, c, a2, n2, c2, rfl, hg, h9, hcall⟩ := HA.out i hlt
        have HBw := Lib.hid (HBX.out.trans (HB.out.mono HBX.out.size))
        obtain ⟨q0, q1, q2, q3, q4, q5, q6, q7, q8⟩ := h9.block (HBw.out.block g hg)
        have HCl := Lib.hid (hcall wr HBw.out)
        obtain ⟨tk, htk⟩ : ∃ tk, tk = ts[i] := ⟨_, rfl⟩
        rw [← htk] at q0 q1 q2 q3 q4 q7 q8 HCl
        clear htk hcall h9
        go_wp2_with fail
        with_reducible refine HCl.out.mono ?_
        rintro e w5 ⟨rfl, hb5⟩
        have HB5 := Lib.hid (HB.out.trans (hb5.mono HB.out.size))
        clear hb5 HCl q0 q1 q2 q3 q4 q5 q6 q7 q8 p0 p1 p2 p3 p4 p5 p6 p7 p8
        go_wp2_with fail
        go_roundg (ts.length - (i + 1))
        case measure => omega
        case rel => exact ⟨i + 1, by omega, rfl, by go_num, HB5.out⟩
      · obtain rfl : i = ts.length := by omega
        go_wp2_with fail
        go_ret
        exact ⟨rfl, HBX.out.trans (HB.out.mono HBX.out.size)⟩
theorem kinds_any (ao : Option Addr) (cap : Nat) (l : List UInt8) (hbig : l.length ≤ 1500) (n : Nat) : ∀ (t : Tr), SizeOf.sizeOf t ≤ n → ∀ (S : Nat → Prop) (w : World) (u : Value), treeAt S w t u → okT l.length t → countT t ≤ 1000000000 → bytesArg w (.slice ao l.length cap) l → env w →
    Calls Tryz.prog 10 #[.slice ao l.length cap, u] w fun e w' => e = .returned (.bool true) ∧ Below w.heap.size w w' := by
  induction n with
  | zero => intro t ht; cases t; rw [Tr.mk.sizeOf_spec] at ht; omega
  | succ n ih =>
    intro t ht S w u hu hok hcb hv he
    obtain ⟨ka, kn, kc, ca, cn, cc, us, rfl, _, ho, hk⟩ := treeAt_open hu
    obtain ⟨rfl, _, _, hka⟩ := kids_at ho hk
    have hc := countT_pos t
    obtain ⟨⟨o1, o2, o3, o4⟩, o5⟩ := okT_open hok
    refine kinds_step ao cap l w t.kids t.kind t.hd.1 t.hd.2 t.bd.1 t.bd.2 t.e.1 t.e.2 ka ca kc cn cc hv hbig he o1 (by omega) ?_ (by omega)
    intro i h
    obtain ⟨g, a, m, c, a2, m2, c2, h1, h2, _, h3, h4⟩ := hka i h
    refine ⟨g, a, m, c, a2, m2, c2, h1, h2, h3, fun W' hb => ?_⟩
    refine ih t.kids[i] (by have := size_kid i h; omega) S W' _ (treeAt.keep (fun q hS hq => ⟨hb.block q hq, hS⟩) _ _ h4) (okK_mem o5 _ (List.getElem_mem h)) ?_ (hv.below hb) (he.below hb)
    have h5 := countK_drop t.kids i h
    have h6 := countK_le t.kids i
    have h7 := countT_eq t
    omega
set_option maxRecDepth 100000 in
set_option maxHeartbeats 2000000 in
theorem structureKinds_any (v : Value) (l : List UInt8) (w : World) (hv : bytesArg w v l) (he : env w) :
    Calls Tryz.prog 5 #[v] w fun e w' => e = .returned (.bool true) ∧ Below w.heap.size w w' := by
  have HE := Lib.hid he
  have HAw := Lib.hid (awake20_any w he)
  have HV := Lib.hid hv
  obtain ⟨ao, cap, rfl, hc, hm, hs⟩ := hv
  unfold maxLen at hm
  clear hs he
  by_cases hbig : l.length ≤ 1000
  · have hlt : ¬ (1000 : Int) < (l.length : Int) := by omega
    have HPa := Lib.hid (fun W h h2 => treeParse_any (.slice ao l.length cap) l W h (by omega) h2)
    unfold treePost at HPa
    have hok := tree_okT l
    have hcb := tree_count l
    obtain ⟨t, ht⟩ : ∃ t, t = treeS l := ⟨_, rfl⟩
    rw [← ht] at HPa hok hcb
    clear ht
    have HK := Lib.hid (fun W u S h1 h2 h3 => kinds_any ao cap l (by omega) (SizeOf.sizeOf t) t (Nat.le_refl _) S W u h1 hok (by omega) h2 h3)
    clear hok hcb
    go_enter Tryz.func5, Tryz.ntmps5
    go_wp2_with fail
    with_reducible refine HAw.out.mono ?_
    rintro e w1 ⟨rfl, hb1⟩
    have HB1 := Lib.hid hb1
    clear hb1 HAw
    go_wp2_with fail
    with_reducible refine (HPa.out w1 (HV.out.below HB1.out) (HE.out.below HB1.out)).mono ?_
    rintro e w2 ⟨ka, kn, kc, ca, cn, cc, rfl, htr, hb2⟩
    have HB2 := Lib.hid (HB1.out.trans (hb2.mono HB1.out.size))
    clear hb2 HPa
    obtain ⟨Y, hY⟩ : ∃ Y, Y = w2.alloc (partO t.kind t.hd.1 t.hd.2 t.bd.1 t.bd.2 (.slice ka kn kc) (.slice ca cn cc) t.e.1 t.e.2) := ⟨_, rfl⟩
    have HBY : Hid (Below w2.heap.size w2 Y) := by rw [hY]; exact (Below.refl _ _).alloc (Nat.le_refl _) _
    have HPY : Hid (Y.heap[w2.heap.size]? = some (partO t.kind t.hd.1 t.hd.2 t.bd.1 t.bd.2 (.slice ka kn kc) (.slice ca cn cc) t.e.1 t.e.2)) := by unfold Hid; rw [hY]; exact heap_alloc_new _ _
    have HB3 := Lib.hid (HB2.out.trans (HBY.out.mono HB2.out.size))
    have HTr := Lib.hid (treeAt.keep (S' := fun k => w1.heap.size ≤ k) (W' := Y) (fun q hS hq => ⟨HBY.out.block q hq, hS⟩) _ _ htr)
    have hJ : w2.heap.size < Y.heap.size := (Array.getElem?_eq_some_iff.1 HPY.out).1
    unfold partO at hY
    have HY := Lib.hid hY
    clear hY htr HBY
    go_upto_region 7 with fail
    rw [← HY.out]
    clear HY
    obtain ⟨J, hJe⟩ : ∃ J, J = w2.heap.size := ⟨_, rfl⟩
    rw [← hJe] at HPY hJ ⊢
    clear hJe
    obtain ⟨p0, p1, p2, p3, p4, p5, p6, p7, p8⟩ := part_cells HPY.out
    go_wp2_with fail
    with_reducible refine (HK.out _ _ _ HTr.out (HV.out.below HB3.out) (HE.out.below HB3.out)).mono ?_
    rintro e w4 ⟨rfl, hb4⟩
    go_wp2_with fail
    go_ret
    exact ⟨rfl, HB3.out.trans (hb4.mono HB3.out.size)⟩
  · have hlt : (1000 : Int) < (l.length : Int) := by omega
    go_enter Tryz.func5, Tryz.ntmps5
    go_wp2_with fail
    with_reducible refine HAw.out.mono ?_
    rintro e w1 ⟨rfl, hb1⟩
    go_wp2_with fail
    go_ret
    exact ⟨rfl, hb1⟩
end Go.Proofs.YtkmgflnmffdhjaaGreatDoor
