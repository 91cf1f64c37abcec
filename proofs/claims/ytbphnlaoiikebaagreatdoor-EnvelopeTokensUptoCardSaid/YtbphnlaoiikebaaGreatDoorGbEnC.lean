/- Layer 19: contracts of package envelope: Put. -/
import Derived.Test.YtbphnlaoiikebaaGreatDoorGbQu
namespace Go.Proofs.YtbphnlaoiikebaaGreatDoor
open Go Go.RowKit

theorem own_two (w : World) (base : Nat) (hb : base ≤ w.heap.size) (a b : Value) : (w.alloc (.cells #[a, b] 9)).ownsRow base 9 1 (.slice (some ⟨w.heap.size, 0, none⟩) 2 2) 2 [a, b] :=
  ⟨rfl, .inr ⟨w.heap.size, 2, #[a, b], rfl, hb, heap_alloc_new w _, Nat.le_refl _, by decide, rfl, rfl⟩⟩
theorem erow_own (v : Value) (xs : List ByteArray) (base n : Nat) (us : List Value) (w : World) (h : w.ownsRow base 9 1 v n us) (hn : n = xs.length) (hu : us = xs.map Value.string) (h0 : 0 < xs.length) (hN : xs.length ≤ 1000) (hlen : wsW (xs.map (·.data.toList)) ≤ 4000000000) :
    Calls Tryz.prog 19 #[v] w fun e w' => e = .returned (.string ⟨(rowW (xs.map (·.data.toList))).toArray⟩) ∧ Below w.heap.size w w' := by
  subst hn hu
  rcases h.2 with ⟨_, h1⟩ | ⟨g, cap, cur, rfl, _, hh, hc, hm, hsz, ht⟩
  · omega
  · refine erow_any g cap xs w ?_ (Array.getElem?_eq_some_iff.1 hh).1 hN hc hlen
    intro j x hx
    have hjl : j < xs.length := (List.getElem?_eq_some_iff.1 hx).1
    have e1 : (xs.map Value.string)[j]? = some (.string x) := by rw [List.getElem?_map, hx]; rfl
    rw [← ht, List.getElem?_take, if_pos (by omega)] at e1
    simp only [World.cell?, hh, Nat.zero_add]
    simpa using e1
def envV (e : Env) (v0 v1 v2 v3 v4 v5 : Value) : Value := .agg #[.string ⟨e.date.toArray⟩, .string ⟨e.subj.toArray⟩, v0, v1, v2, v3, v4, v5, .string ⟨e.reply.toArray⟩, .string ⟨e.id.toArray⟩, .bool e.h0, .bool e.h1, .bool e.h2, .bool e.h3]
structure EnvAt (W : World) (e : Env) (v0 v1 v2 v3 v4 v5 : Value) : Prop where
  r0 : rowAdx W v0 e.l0
  r1 : rowAdx W v1 e.l1
  r2 : rowAdx W v2 e.l2
  r3 : rowAdx W v3 e.l3
  r4 : rowAdx W v4 e.l4
  r5 : rowAdx W v5 e.l5
theorem EnvAt.below {W W' : World} {e : Env} {v0 v1 v2 v3 v4 v5 : Value} (h : EnvAt W e v0 v1 v2 v3 v4 v5) (hb : Below W.heap.size W W') : EnvAt W' e v0 v1 v2 v3 v4 v5 := ⟨h.r0.below hb, h.r1.below hb, h.r2.below hb, h.r3.below hb, h.r4.below hb, h.r5.below hb⟩
structure smallE (e : Env) (M N : Nat) : Prop where
  hd : e.date.length ≤ M
  hs : e.subj.length ≤ M
  hr : e.reply.length ≤ M
  hi : e.id.length ≤ M
  s0 : smallX e.l0 M
  s1 : smallX e.l1 M
  s2 : smallX e.l2 M
  s3 : smallX e.l3 M
  s4 : smallX e.l4 M
  s5 : smallX e.l5 M
  n0 : e.l0.length ≤ N
  n1 : e.l1.length ≤ N
  n2 : e.l2.length ≤ N
  n3 : e.l3.length ≤ N
  n4 : e.l4.length ≤ N
  n5 : e.l5.length ≤ N
set_option maxRecDepth 100000 in
set_option maxHeartbeats 8000000 in
theorem eput_any (e : Env) (v0 v1 v2 v3 v4 v5 : Value) (w : World) (h : EnvAt w e v0 v1 v2 v3 v4 v5) (hs : smallE e 1048576 50) (ht : tab w) :
    Calls Tryz.prog 10 #[envV e v0 v1 v2 v3 v4 v5] w fun o w' => o = .returned (.string ⟨(putE e).toArray⟩) ∧ Below w.heap.size w w' := by
  obtain ⟨i0, hi, hz⟩ := Option.map_eq_some_iff.1 Tryz.infoWs
  simp only [Prod.mk.injEq] at hz
  obtain ⟨hz0, hz1, hz2⟩ := hz
  have HEn := Lib.hid h
  have HSm := Lib.hid hs
  have HTw := Lib.hid ht
  obtain ⟨a0, k0, rfl, _, _, _⟩ := h.r0.at
  obtain ⟨a1, k1, rfl, _, _, _⟩ := h.r1.at
  obtain ⟨a2, k2, rfl, _, _, _⟩ := h.r2.at
  obtain ⟨a3, k3, rfl, _, _, _⟩ := h.r3.at
  obtain ⟨a4, k4, rfl, _, _, _⟩ := h.r4.at
  obtain ⟨a5, k5, rfl, _, _, _⟩ := h.r5.at
  clear h hs ht
  obtain ⟨A0, hA0⟩ : ∃ T : ByteArray, T = ⟨(nstW e.date e.h0).toArray⟩ := ⟨_, rfl⟩
  have lA0 : A0.data.toList = nstW e.date e.h0 := by rw [hA0]
  obtain ⟨A1, hA1⟩ : ∃ T : ByteArray, T = ⟨(nstW e.subj e.h1).toArray⟩ := ⟨_, rfl⟩
  have lA1 : A1.data.toList = nstW e.subj e.h1 := by rw [hA1]
  obtain ⟨B0, hB0⟩ : ∃ T : ByteArray, T = ⟨(listW e.l0).toArray⟩ := ⟨_, rfl⟩
  have lB0 : B0.data.toList = listW e.l0 := by rw [hB0]
  obtain ⟨B1, hB1⟩ : ∃ T : ByteArray, T = ⟨(listW e.l1).toArray⟩ := ⟨_, rfl⟩
  have lB1 : B1.data.toList = listW e.l1 := by rw [hB1]
  obtain ⟨B2, hB2⟩ : ∃ T : ByteArray, T = ⟨(listW e.l2).toArray⟩ := ⟨_, rfl⟩
  have lB2 : B2.data.toList = listW e.l2 := by rw [hB2]
  obtain ⟨B3, hB3⟩ : ∃ T : ByteArray, T = ⟨(listW e.l3).toArray⟩ := ⟨_, rfl⟩
  have lB3 : B3.data.toList = listW e.l3 := by rw [hB3]
  obtain ⟨B4, hB4⟩ : ∃ T : ByteArray, T = ⟨(listW e.l4).toArray⟩ := ⟨_, rfl⟩
  have lB4 : B4.data.toList = listW e.l4 := by rw [hB4]
  obtain ⟨B5, hB5⟩ : ∃ T : ByteArray, T = ⟨(listW e.l5).toArray⟩ := ⟨_, rfl⟩
  have lB5 : B5.data.toList = listW e.l5 := by rw [hB5]
  obtain ⟨A2, hA2⟩ : ∃ T : ByteArray, T = ⟨(nstW e.reply e.h2).toArray⟩ := ⟨_, rfl⟩
  have lA2 : A2.data.toList = nstW e.reply e.h2 := by rw [hA2]
  obtain ⟨A3, hA3⟩ : ∃ T : ByteArray, T = ⟨(nstW e.id e.h3).toArray⟩ := ⟨_, rfl⟩
  have lA3 : A3.data.toList = nstW e.id e.h3 := by rw [hA3]
  have zA0 : A0.size ≤ 2100000 := by
    have := nstW_size e.date e.h0 (by have := HSm.out.hd; omega)
    rw [← lA0, len_toList] at this
    have := HSm.out.hd
    omega
  have zA1 : A1.size ≤ 2100000 := by
    have := nstW_size e.subj e.h1 (by have := HSm.out.hs; omega)
    rw [← lA1, len_toList] at this
    have := HSm.out.hs
    omega
  have zA2 : A2.size ≤ 2100000 := by
    have := nstW_size e.reply e.h2 (by have := HSm.out.hr; omega)
    rw [← lA2, len_toList] at this
    have := HSm.out.hr
    omega
  have zA3 : A3.size ≤ 2100000 := by
    have := nstW_size e.id e.h3 (by have := HSm.out.hi; omega)
    rw [← lA3, len_toList] at this
    have := HSm.out.hi
    omega
  have zB0 : B0.size ≤ 350000000 := by
    have h1 := listW_size 1048576 (by decide) e.l0 HSm.out.s0
    rw [← lB0, len_toList] at h1
    have h2 : e.l0.length * (6 * 1048576 + 200) ≤ 50 * (6 * 1048576 + 200) := Nat.mul_le_mul_right _ HSm.out.n0
    omega
  have zB1 : B1.size ≤ 350000000 := by
    have h1 := listW_size 1048576 (by decide) e.l1 HSm.out.s1
    rw [← lB1, len_toList] at h1
    have h2 : e.l1.length * (6 * 1048576 + 200) ≤ 50 * (6 * 1048576 + 200) := Nat.mul_le_mul_right _ HSm.out.n1
    omega
  have zB2 : B2.size ≤ 350000000 := by
    have h1 := listW_size 1048576 (by decide) e.l2 HSm.out.s2
    rw [← lB2, len_toList] at h1
    have h2 : e.l2.length * (6 * 1048576 + 200) ≤ 50 * (6 * 1048576 + 200) := Nat.mul_le_mul_right _ HSm.out.n2
    omega
  have zB3 : B3.size ≤ 350000000 := by
    have h1 := listW_size 1048576 (by decide) e.l3 HSm.out.s3
    rw [← lB3, len_toList] at h1
    have h2 : e.l3.length * (6 * 1048576 + 200) ≤ 50 * (6 * 1048576 + 200) := Nat.mul_le_mul_right _ HSm.out.n3
    omega
  have zB4 : B4.size ≤ 350000000 := by
    have h1 := listW_size 1048576 (by decide) e.l4 HSm.out.s4
    rw [← lB4, len_toList] at h1
    have h2 : e.l4.length * (6 * 1048576 + 200) ≤ 50 * (6 * 1048576 + 200) := Nat.mul_le_mul_right _ HSm.out.n4
    omega
  have zB5 : B5.size ≤ 350000000 := by
    have h1 := listW_size 1048576 (by decide) e.l5 HSm.out.s5
    rw [← lB5, len_toList] at h1
    have h2 : e.l5.length * (6 * 1048576 + 200) ≤ 50 * (6 * 1048576 + 200) := Nat.mul_le_mul_right _ HSm.out.n5
    omega
  have HR := Lib.hid (fun v base us W (hw : World.ownsRow W base 9 1 v 10 us) hu => erow_own v [A0, A1, B0, B1, B2, B3, B4, B5, A2, A3] base 10 us W hw rfl hu (by simp) (by simp) (by
    simp only [List.map_cons, List.map_nil, wsW, List.sum_cons, List.sum_nil, len_toList]
    omega))
  have HE : Hid (rowW ([A0, A1, B0, B1, B2, B3, B4, B5, A2, A3].map (·.data.toList)) = putE e) := by
    unfold Hid putE envP
    simp only [List.map_cons, List.map_nil]
    rw [lA0, lA1, lB0, lB1, lB2, lB3, lB4, lB5, lA2, lA3]
  rw [HE.out] at HR
  obtain ⟨R, hR⟩ : ∃ R : ByteArray, R = ⟨(putE e).toArray⟩ := ⟨_, rfl⟩
  rw [← hR] at HR ⊢
  have HSA0 := Lib.hid (fun W h => enst_any ⟨e.date.toArray⟩ e.h0 W (by
    have := HSm.out.hd
    show e.date.toArray.size ≤ _
    simp
    omega) h)
  rw [show (⟨e.date.toArray⟩ : ByteArray).data.toList = e.date from rfl, ← hA0] at HSA0
  have HSA1 := Lib.hid (fun W h => enst_any ⟨e.subj.toArray⟩ e.h1 W (by
    have := HSm.out.hs
    show e.subj.toArray.size ≤ _
    simp
    omega) h)
  rw [show (⟨e.subj.toArray⟩ : ByteArray).data.toList = e.subj from rfl, ← hA1] at HSA1
  have HSA2 := Lib.hid (fun W h => enst_any ⟨e.reply.toArray⟩ e.h2 W (by
    have := HSm.out.hr
    show e.reply.toArray.size ≤ _
    simp
    omega) h)
  rw [show (⟨e.reply.toArray⟩ : ByteArray).data.toList = e.reply from rfl, ← hA2] at HSA2
  have HSA3 := Lib.hid (fun W h => enst_any ⟨e.id.toArray⟩ e.h3 W (by
    have := HSm.out.hi
    show e.id.toArray.size ≤ _
    simp
    omega) h)
  rw [show (⟨e.id.toArray⟩ : ByteArray).data.toList = e.id from rfl, ← hA3] at HSA3
  have HL0 := Lib.hid (fun W (hb : Below w.heap.size w W) => elist_any (.slice a0 e.l0.length k0) e.l0 W (HEn.out.r0.below hb) HSm.out.s0 (by have := HSm.out.n0; omega) (HTw.out.below hb))
  rw [← hB0] at HL0
  have HL1 := Lib.hid (fun W (hb : Below w.heap.size w W) => elist_any (.slice a1 e.l1.length k1) e.l1 W (HEn.out.r1.below hb) HSm.out.s1 (by have := HSm.out.n1; omega) (HTw.out.below hb))
  rw [← hB1] at HL1
  have HL2 := Lib.hid (fun W (hb : Below w.heap.size w W) => elist_any (.slice a2 e.l2.length k2) e.l2 W (HEn.out.r2.below hb) HSm.out.s2 (by have := HSm.out.n2; omega) (HTw.out.below hb))
  rw [← hB2] at HL2
  have HL3 := Lib.hid (fun W (hb : Below w.heap.size w W) => elist_any (.slice a3 e.l3.length k3) e.l3 W (HEn.out.r3.below hb) HSm.out.s3 (by have := HSm.out.n3; omega) (HTw.out.below hb))
  rw [← hB3] at HL3
  have HL4 := Lib.hid (fun W (hb : Below w.heap.size w W) => elist_any (.slice a4 e.l4.length k4) e.l4 W (HEn.out.r4.below hb) HSm.out.s4 (by have := HSm.out.n4; omega) (HTw.out.below hb))
  rw [← hB4] at HL4
  have HL5 := Lib.hid (fun W (hb : Below w.heap.size w W) => elist_any (.slice a5 e.l5.length k5) e.l5 W (HEn.out.r5.below hb) HSm.out.s5 (by have := HSm.out.n5; omega) (HTw.out.below hb))
  rw [← hB5] at HL5
  clear hA0 lA0 zA0 hA1 lA1 zA1 hB0 lB0 zB0 hB1 lB1 zB1 hB2 lB2 zB2 hB3 lB3 zB3 hB4 lB4 zB4 hB5 lB5 zB5 hA2 lA2 zA2 hA3 lA3 zA3 hR HE
  obtain ⟨dt, sj, l0, l1, l2, l3, l4, l5, rp, id, b0, b1, b2, b3⟩ := e
  unfold envV
  simp only at HSA0 HSA1 HSA2 HSA3 HL0 HL1 HL2 HL3 HL4 HL5 ⊢
  obtain ⟨D, hD⟩ : ∃ T : ByteArray, T = ⟨dt.toArray⟩ := ⟨_, rfl⟩
  obtain ⟨S, hS⟩ : ∃ T : ByteArray, T = ⟨sj.toArray⟩ := ⟨_, rfl⟩
  obtain ⟨P, hP⟩ : ∃ T : ByteArray, T = ⟨rp.toArray⟩ := ⟨_, rfl⟩
  obtain ⟨I, hI⟩ : ∃ T : ByteArray, T = ⟨id.toArray⟩ := ⟨_, rfl⟩
  rw [← hD] at HSA0 ⊢
  rw [← hS] at HSA1 ⊢
  rw [← hP] at HSA2 ⊢
  rw [← hI] at HSA3 ⊢
  obtain ⟨n0, hn0⟩ : ∃ n, n = l0.length := ⟨_, rfl⟩
  rw [← hn0] at HL0 ⊢
  obtain ⟨n1, hn1⟩ : ∃ n, n = l1.length := ⟨_, rfl⟩
  rw [← hn1] at HL1 ⊢
  obtain ⟨n2, hn2⟩ : ∃ n, n = l2.length := ⟨_, rfl⟩
  rw [← hn2] at HL2 ⊢
  obtain ⟨n3, hn3⟩ : ∃ n, n = l3.length := ⟨_, rfl⟩
  rw [← hn3] at HL3 ⊢
  obtain ⟨n4, hn4⟩ : ∃ n, n = l4.length := ⟨_, rfl⟩
  rw [← hn4] at HL4 ⊢
  obtain ⟨n5, hn5⟩ : ∃ n, n = l5.length := ⟨_, rfl⟩
  rw [← hn5] at HL5 ⊢
  clear hD hS hP hI hn0 hn1 hn2 hn3 hn4 hn5 HEn HSm
  obtain ⟨X, hX⟩ : ∃ X, X = w.alloc (.cells #[.string D, .string S, .slice a0 n0 k0, .slice a1 n1 k1, .slice a2 n2 k2, .slice a3 n3 k3, .slice a4 n4 k4, .slice a5 n5 k5, .string P, .string I, .bool b0, .bool b1, .bool b2, .bool b3] 34) := ⟨_, rfl⟩
  have hc : X.heap[w.heap.size]? = some (.cells #[.string D, .string S, .slice a0 n0 k0, .slice a1 n1 k1, .slice a2 n2 k2, .slice a3 n3 k3, .slice a4 n4 k4, .slice a5 n5 k5, .string P, .string I, .bool b0, .bool b1, .bool b2, .bool b3] 34 (0, 0)) := by rw [hX]; exact heap_alloc_new w _
  have x0 : X.cell? ⟨w.heap.size, 0, none⟩ = some (.string D) := by simp [World.cell?, hc]
  have x1 : X.cell? ⟨w.heap.size, 1, none⟩ = some (.string S) := by simp [World.cell?, hc]
  have x2 : X.cell? ⟨w.heap.size, 2, none⟩ = some (.slice a0 n0 k0) := by simp [World.cell?, hc]
  have x3 : X.cell? ⟨w.heap.size, 3, none⟩ = some (.slice a1 n1 k1) := by simp [World.cell?, hc]
  have x4 : X.cell? ⟨w.heap.size, 4, none⟩ = some (.slice a2 n2 k2) := by simp [World.cell?, hc]
  have x5 : X.cell? ⟨w.heap.size, 5, none⟩ = some (.slice a3 n3 k3) := by simp [World.cell?, hc]
  have x6 : X.cell? ⟨w.heap.size, 6, none⟩ = some (.slice a4 n4 k4) := by simp [World.cell?, hc]
  have x7 : X.cell? ⟨w.heap.size, 7, none⟩ = some (.slice a5 n5 k5) := by simp [World.cell?, hc]
  have x8 : X.cell? ⟨w.heap.size, 8, none⟩ = some (.string P) := by simp [World.cell?, hc]
  have x9 : X.cell? ⟨w.heap.size, 9, none⟩ = some (.string I) := by simp [World.cell?, hc]
  have x10 : X.cell? ⟨w.heap.size, 10, none⟩ = some (.bool b0) := by simp [World.cell?, hc]
  have x11 : X.cell? ⟨w.heap.size, 11, none⟩ = some (.bool b1) := by simp [World.cell?, hc]
  have x12 : X.cell? ⟨w.heap.size, 12, none⟩ = some (.bool b2) := by simp [World.cell?, hc]
  have x13 : X.cell? ⟨w.heap.size, 13, none⟩ = some (.bool b3) := by simp [World.cell?, hc]
  have HB0 : Hid (Below w.heap.size w X) := by rw [hX]; exact (Below.refl _ _).alloc (Nat.le_refl _) _
  have hw1 : w.heap.size < X.heap.size := by rw [hX]; simp
  have HT := Lib.hid (fun z : BW X => (HTw.out.below HB0.out).below z.h)
  have HX := Lib.hid hX
  obtain ⟨B, hB⟩ : ∃ B, B = w.heap.size := ⟨_, rfl⟩
  rw [← hB] at hw1 x0 x1 x2 x3 x4 x5 x6 x7 x8 x9 x10 x11 x12 x13
  have HBw := Lib.hid hB
  clear hX hc hB
  have y0 := BW.cell x0
  have y1 := BW.cell x1
  have y10 := BW.cell x10
  have y11 := BW.cell x11
  go_enter Tryz.func10, Tryz.ntmps10
  go_wp2_with fail
  rw [← HX.out, ← HBw.out]
  refine wp_region_belowT 12 (by kernel_rfl) (by kernel_rfl) ?_
  simp only [List.take_succ_cons, List.take_zero, List.drop_succ_cons, List.drop_zero]
  repeat (go_big_quiet_step (first | (go_at_call 18; first | exact BW.calls (HSA0.out _ (HT.out _)) | exact BW.calls (HSA1.out _ (HT.out _)))))
  refine wpQuiet_nil ?_
  rintro W1 ⟨⟨_, hb1⟩, rfl⟩
  have HC1 := Lib.hid hb1
  clear y0 y1 y10 y11
  have X2 := Lib.hid x2
  have X3 := Lib.hid x3
  have X4 := Lib.hid x4
  have X5 := Lib.hid x5
  have X6 := Lib.hid x6
  have X7 := Lib.hid x7
  have X8 := Lib.hid x8
  have X9 := Lib.hid x9
  have X12 := Lib.hid x12
  have X13 := Lib.hid x13
  replace x2 := (HC1.out.cell (p := ⟨B, 2, none⟩) hw1).trans X2.out
  replace x3 := (HC1.out.cell (p := ⟨B, 3, none⟩) hw1).trans X3.out
  replace x4 := (HC1.out.cell (p := ⟨B, 4, none⟩) hw1).trans X4.out
  replace x5 := (HC1.out.cell (p := ⟨B, 5, none⟩) hw1).trans X5.out
  replace x6 := (HC1.out.cell (p := ⟨B, 6, none⟩) hw1).trans X6.out
  replace x7 := (HC1.out.cell (p := ⟨B, 7, none⟩) hw1).trans X7.out
  replace x8 := (HC1.out.cell (p := ⟨B, 8, none⟩) hw1).trans X8.out
  replace x9 := (HC1.out.cell (p := ⟨B, 9, none⟩) hw1).trans X9.out
  replace x12 := (HC1.out.cell (p := ⟨B, 12, none⟩) hw1).trans X12.out
  replace x13 := (HC1.out.cell (p := ⟨B, 13, none⟩) hw1).trans X13.out
  have hsz := HC1.out.size
  have HO1 := Lib.hid (own_two W1 X.heap.size HC1.out.size (.string A0) (.string A1))
  have HD1 : Hid (Below X.heap.size X (W1.alloc (.cells #[.string A0, .string A1] 9))) := HC1.out.alloc HC1.out.size _
  have z2 := (HD1.out.cell (p := ⟨B, 2, none⟩) hw1).trans X2.out
  have z3 := (HD1.out.cell (p := ⟨B, 3, none⟩) hw1).trans X3.out
  have z4 := (HD1.out.cell (p := ⟨B, 4, none⟩) hw1).trans X4.out
  have z5 := (HD1.out.cell (p := ⟨B, 5, none⟩) hw1).trans X5.out
  have z6 := (HD1.out.cell (p := ⟨B, 6, none⟩) hw1).trans X6.out
  have z7 := (HD1.out.cell (p := ⟨B, 7, none⟩) hw1).trans X7.out
  have z8 := (HD1.out.cell (p := ⟨B, 8, none⟩) hw1).trans X8.out
  have z9 := (HD1.out.cell (p := ⟨B, 9, none⟩) hw1).trans X9.out
  have z12 := (HD1.out.cell (p := ⟨B, 12, none⟩) hw1).trans X12.out
  have z13 := (HD1.out.cell (p := ⟨B, 13, none⟩) hw1).trans X13.out
  clear x0 x1 x2 x3 x4 x5 x6 x7 x8 x9 x10 x11 x12 x13 hb1
  go_wp2_with fail
  have HW0 := Lib.hid HD1.out
  generalize hWW : W1.alloc (.cells #[.string A0, .string A1] 9) = Y0 at *
  clear hWW
  obtain ⟨ix0, ix1, ix2, ix3, ix4, ix5⟩ := index_six (.slice a0 n0 k0) (.slice a1 n1 k1) (.slice a2 n2 k2) (.slice a3 n3 k3) (.slice a4 n4 k4) (.slice a5 n5 k5)
  refine wp_loop_rounds 7 ?_
  have HOr := HO1
  rw [rounds_succ]
  go_wp2_with fail
  with_reducible refine (HL0.out _ (HB0.out.trans (HW0.out.mono HB0.out.size))).mono ?_
  rintro e w0 ⟨rfl, hb0⟩
  have HV0 : Hid (Below X.heap.size X w0) := HW0.out.trans (hb0.mono HW0.out.size)
  have HQ0 := Lib.hid (ownsRow_below HOr.out hb0)
  have hsz0 := HV0.out.size
  clear hb0 HOr HW0
  go_wp2_with (at_builtin; refine wpList_append_own _ rfl _ _ 68 rfl X.heap.size 9 i0 (.string ⟨#[]⟩) 1 16 Tryz.underlying68 hi hz0 hz1 hz2 rfl (by decide) _ 2 [.string A0, .string A1] rfl (HQ0.out.alloc _) ⟨w0.heap.size, 0, none⟩ 1 1 [.string B0] rfl rfl (cell_one_new w0 _ _) (by simp [Value.oneCell']) (by unfold maxLen; omega) (by omega) (by simp; omega) ?_; intro u0 y0 hown0 hgrow0 _)
  have HW0 : Hid (Below X.heap.size X y0) := (HV0.out.alloc HV0.out.size _).grown hgrow0 (by simp; omega) (fun q hq => (HQ0.out.lt q hq).1)
  have HOr := Lib.hid hown0
  clear hown0 hgrow0 HQ0 hsz0 HV0
  rw [rounds_succ]
  go_wp2_with fail
  with_reducible refine (HL1.out _ (HB0.out.trans (HW0.out.mono HB0.out.size))).mono ?_
  rintro e w1 ⟨rfl, hb1⟩
  have HV1 : Hid (Below X.heap.size X w1) := HW0.out.trans (hb1.mono HW0.out.size)
  have HQ1 := Lib.hid (ownsRow_below HOr.out hb1)
  have hsz1 := HV1.out.size
  clear hb1 HOr HW0
  go_wp2_with (at_builtin; refine wpList_append_own _ rfl _ _ 68 rfl X.heap.size 9 i0 (.string ⟨#[]⟩) 1 16 Tryz.underlying68 hi hz0 hz1 hz2 rfl (by decide) _ 3 [.string A0, .string A1, .string B0] rfl (HQ1.out.alloc _) ⟨w1.heap.size, 0, none⟩ 1 1 [.string B1] rfl rfl (cell_one_new w1 _ _) (by simp [Value.oneCell']) (by unfold maxLen; omega) (by omega) (by simp; omega) ?_; intro u1 y1 hown1 hgrow1 _)
  have HW0 : Hid (Below X.heap.size X y1) := (HV1.out.alloc HV1.out.size _).grown hgrow1 (by simp; omega) (fun q hq => (HQ1.out.lt q hq).1)
  have HOr := Lib.hid hown1
  clear hown1 hgrow1 HQ1 hsz1 HV1
  rw [rounds_succ]
  go_wp2_with fail
  with_reducible refine (HL2.out _ (HB0.out.trans (HW0.out.mono HB0.out.size))).mono ?_
  rintro e w2 ⟨rfl, hb2⟩
  have HV2 : Hid (Below X.heap.size X w2) := HW0.out.trans (hb2.mono HW0.out.size)
  have HQ2 := Lib.hid (ownsRow_below HOr.out hb2)
  have hsz2 := HV2.out.size
  clear hb2 HOr HW0
  go_wp2_with (at_builtin; refine wpList_append_own _ rfl _ _ 68 rfl X.heap.size 9 i0 (.string ⟨#[]⟩) 1 16 Tryz.underlying68 hi hz0 hz1 hz2 rfl (by decide) _ 4 [.string A0, .string A1, .string B0, .string B1] rfl (HQ2.out.alloc _) ⟨w2.heap.size, 0, none⟩ 1 1 [.string B2] rfl rfl (cell_one_new w2 _ _) (by simp [Value.oneCell']) (by unfold maxLen; omega) (by omega) (by simp; omega) ?_; intro u2 y2 hown2 hgrow2 _)
  have HW0 : Hid (Below X.heap.size X y2) := (HV2.out.alloc HV2.out.size _).grown hgrow2 (by simp; omega) (fun q hq => (HQ2.out.lt q hq).1)
  have HOr := Lib.hid hown2
  clear hown2 hgrow2 HQ2 hsz2 HV2
  rw [rounds_succ]
  go_wp2_with fail
  with_reducible refine (HL3.out _ (HB0.out.trans (HW0.out.mono HB0.out.size))).mono ?_
  rintro e w3 ⟨rfl, hb3⟩
  have HV3 : Hid (Below X.heap.size X w3) := HW0.out.trans (hb3.mono HW0.out.size)
  have HQ3 := Lib.hid (ownsRow_below HOr.out hb3)
  have hsz3 := HV3.out.size
  clear hb3 HOr HW0
  go_wp2_with (at_builtin; refine wpList_append_own _ rfl _ _ 68 rfl X.heap.size 9 i0 (.string ⟨#[]⟩) 1 16 Tryz.underlying68 hi hz0 hz1 hz2 rfl (by decide) _ 5 [.string A0, .string A1, .string B0, .string B1, .string B2] rfl (HQ3.out.alloc _) ⟨w3.heap.size, 0, none⟩ 1 1 [.string B3] rfl rfl (cell_one_new w3 _ _) (by simp [Value.oneCell']) (by unfold maxLen; omega) (by omega) (by simp; omega) ?_; intro u3 y3 hown3 hgrow3 _)
  have HW0 : Hid (Below X.heap.size X y3) := (HV3.out.alloc HV3.out.size _).grown hgrow3 (by simp; omega) (fun q hq => (HQ3.out.lt q hq).1)
  have HOr := Lib.hid hown3
  clear hown3 hgrow3 HQ3 hsz3 HV3
  rw [rounds_succ]
  go_wp2_with fail
  with_reducible refine (HL4.out _ (HB0.out.trans (HW0.out.mono HB0.out.size))).mono ?_
  rintro e w4 ⟨rfl, hb4⟩
  have HV4 : Hid (Below X.heap.size X w4) := HW0.out.trans (hb4.mono HW0.out.size)
  have HQ4 := Lib.hid (ownsRow_below HOr.out hb4)
  have hsz4 := HV4.out.size
  clear hb4 HOr HW0
  go_wp2_with (at_builtin; refine wpList_append_own _ rfl _ _ 68 rfl X.heap.size 9 i0 (.string ⟨#[]⟩) 1 16 Tryz.underlying68 hi hz0 hz1 hz2 rfl (by decide) _ 6 [.string A0, .string A1, .string B0, .string B1, .string B2, .string B3] rfl (HQ4.out.alloc _) ⟨w4.heap.size, 0, none⟩ 1 1 [.string B4] rfl rfl (cell_one_new w4 _ _) (by simp [Value.oneCell']) (by unfold maxLen; omega) (by omega) (by simp; omega) ?_; intro u4 y4 hown4 hgrow4 _)
  have HW0 : Hid (Below X.heap.size X y4) := (HV4.out.alloc HV4.out.size _).grown hgrow4 (by simp; omega) (fun q hq => (HQ4.out.lt q hq).1)
  have HOr := Lib.hid hown4
  clear hown4 hgrow4 HQ4 hsz4 HV4
  rw [rounds_succ]
  go_wp2_with fail
  with_reducible refine (HL5.out _ (HB0.out.trans (HW0.out.mono HB0.out.size))).mono ?_
  rintro e w5 ⟨rfl, hb5⟩
  have HV5 : Hid (Below X.heap.size X w5) := HW0.out.trans (hb5.mono HW0.out.size)
  have HQ5 := Lib.hid (ownsRow_below HOr.out hb5)
  have hsz5 := HV5.out.size
  clear hb5 HOr HW0
  go_wp2_with (at_builtin; refine wpList_append_own _ rfl _ _ 68 rfl X.heap.size 9 i0 (.string ⟨#[]⟩) 1 16 Tryz.underlying68 hi hz0 hz1 hz2 rfl (by decide) _ 7 [.string A0, .string A1, .string B0, .string B1, .string B2, .string B3, .string B4] rfl (HQ5.out.alloc _) ⟨w5.heap.size, 0, none⟩ 1 1 [.string B5] rfl rfl (cell_one_new w5 _ _) (by simp [Value.oneCell']) (by unfold maxLen; omega) (by omega) (by simp; omega) ?_; intro u5 y5 hown5 hgrow5 _)
  have HW0 : Hid (Below X.heap.size X y5) := (HV5.out.alloc HV5.out.size _).grown hgrow5 (by simp; omega) (fun q hq => (HQ5.out.lt q hq).1)
  have HOr := Lib.hid hown5
  clear hown5 hgrow5 HQ5 hsz5 HV5
  rw [rounds_succ]
  go_wp2_with fail
  have HTz := Lib.hid (fun z : BW y5 => ((HTw.out.below HB0.out).below HW0.out).below z.h)
  have t8 := (HW0.out.cell (p := ⟨B, 8, none⟩) hw1).trans X8.out
  have q8 := BW.cell t8
  have t9 := (HW0.out.cell (p := ⟨B, 9, none⟩) hw1).trans X9.out
  have q9 := BW.cell t9
  have t12 := (HW0.out.cell (p := ⟨B, 12, none⟩) hw1).trans X12.out
  have q12 := BW.cell t12
  have t13 := (HW0.out.cell (p := ⟨B, 13, none⟩) hw1).trans X13.out
  have q13 := BW.cell t13
  refine wp_region_belowM 13 (by kernel_rfl) (by kernel_rfl) (by kernel_rfl) (by kernel_rfl) (fun _ _ _ _ h => h) rfl ?_
  apply Exists.intro
  refine ⟨fun w => ?_, ?_⟩
  · go_simp
    try rfl
  try simp only [Act.put]
  try simp only [List.setIfInBounds_toArray]
  try simp only [List.set_cons_succ]
  try simp only [List.set_cons_zero]
  simp only [List.take_succ_cons, List.take_zero, List.drop_succ_cons, List.drop_zero]
  repeat (go_big_quiet_step (first | (go_at_call 18; first | exact BW.calls (HSA2.out _ (HTz.out _)) | exact BW.calls (HSA3.out _ (HTz.out _)))))
  refine wpQuiet_nil ?_
  rintro W7 ⟨⟨_, hb7⟩, rfl⟩
  have HV7 : Hid (Below X.heap.size X W7) := HW0.out.trans (hb7.mono HW0.out.size)
  have HQ7 := Lib.hid (ownsRow_below HOr.out hb7)
  have hsz7 := HV7.out.size
  clear hb7 HOr HW0
  go_wp2_with (at_builtin; refine wpList_append_own _ rfl _ _ 68 rfl X.heap.size 9 i0 (.string ⟨#[]⟩) 1 16 Tryz.underlying68 hi hz0 hz1 hz2 rfl (by decide) _ 8 [.string A0, .string A1, .string B0, .string B1, .string B2, .string B3, .string B4, .string B5] rfl (HQ7.out.alloc _) ⟨W7.heap.size, 0, none⟩ 2 2 [.string A2, .string A3] rfl rfl (World.news_of_block (cs := #[.string A2, .string A3]) (heap_alloc_new W7 _)) (by simp [Value.oneCell']) (by unfold maxLen; omega) (by omega) (by simp; omega) ?_; intro u7 y7 hown7 hgrow7 _)
  have HW7 : Hid (Below X.heap.size X y7) := (HV7.out.alloc HV7.out.size _).grown hgrow7 (by simp; omega) (fun q hq => (HQ7.out.lt q hq).1)
  have HO7 := Lib.hid hown7
  clear hown7 hgrow7 HQ7 hsz7 HV7
  go_wp2_with fail
  with_reducible refine (HR.out _ X.heap.size _ _ HO7.out rfl).mono ?_
  rintro e w8 ⟨rfl, hb8⟩
  go_wp2_with fail
  go_ret
  exact ⟨rfl, (HB0.out.trans (HW7.out.mono HB0.out.size)).trans (hb8.mono ((HB0.out.trans (HW7.out.mono HB0.out.size)).size))⟩
end Go.Proofs.YtbphnlaoiikebaaGreatDoor
