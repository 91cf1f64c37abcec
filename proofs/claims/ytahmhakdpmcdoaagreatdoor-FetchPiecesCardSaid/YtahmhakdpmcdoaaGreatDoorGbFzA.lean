/- The laws of layer 16 (fetch): FetchPieces. -/
import Derived.Test.YtahmhakdpmcdoaaGreatDoorGbFzM
namespace Go.Proofs.YtahmhakdpmcdoaaGreatDoor
open Go Go.RowKit

theorem fparseS_any (v : Value) (l : List UInt8) (w : World) (hv : bytesArg w v l) (hl : l.length ≤ 100000) (he : env w) :
    Calls Tryz.prog 9 #[v] w fun e w' => ∃ ka kc ca cn cc, e = .returned (.tuple #[ptV (treeS l) (.slice ka (treeS l).kids.length kc) (.slice ca cn cc), .int .i64 0]) ∧ treeAt (fun k => w.heap.size ≤ k) w' (treeS l) (ptV (treeS l) (.slice ka (treeS l).kids.length kc) (.slice ca cn cc)) ∧
      Below w.heap.size w w' := by
  refine (treeParse_any v l w hv hl he).mono ?_
  rintro e w' ⟨ka, kn, kc, ca, cn, cc, rfl, ht, hb⟩
  have hta : tAt w' (treeS l) (ptV (treeS l) (.slice ka kn kc) (.slice ca cn cc)) := tAt.of ht
  obtain ⟨ka', kc', ca', cn', cc', h1, h2, h3⟩ := hta.kids
  obtain ⟨rfl, rfl, rfl⟩ := Value.slice.inj h1
  exact ⟨_, _, _, _, _, rfl, ht, hb⟩
set_option maxRecDepth 100000 in
set_option maxHeartbeats 4000000 in
theorem fetchPieces_any (v : Value) (l : List UInt8) (s : Spc) (a1 a2 : Option Addr) (c1 c2 : Nat) (m : Nat) (w : World) (hv : bytesArg w v l) (hp : rowOf w (.slice a1 s.path.length c1) (s.path.map intV)) (hn : strsArg w (.slice a2 s.names.length c2) (bsL s.names))
    (hnl : ∀ a ∈ s.names, a.length ≤ 140737488355328) (hpl : s.path.length ≤ 9223372036854775807) (hnn : s.names.length ≤ 9223372036854775807) (hm : m ≤ 65535) (he : env w) :
    Calls Tryz.prog 3 #[v, spV s a1 a2 c1 c2, .int .u16 (m : Int)] w fun e w' => e = .returned (.bool true) ∧ Below w.heap.size w w' := by
  have HV := Lib.hid hv
  have HE := Lib.hid he
  have HFi := Lib.hid (fun W (hb : Below w.heap.size w W) => fine_any s a1 a2 c1 c2 W (strsArg.below hn hb) hnl hpl hnn)
  have HSF : Hid (sumN s.names ≤ 400 → ∀ W, Below w.heap.size w W → SpF W s a1 a2 c1 c2) := fun hs W hb => ⟨⟨hp.below hb, by
      have h := strsArg.below hn hb
      obtain ⟨ao, cap, e, _, _, _, h4⟩ := h
      obtain ⟨rfl, -, rfl⟩ := Value.slice.inj e
      refine ⟨a2, c2, by simp, ?_⟩
      rcases h4 with h4 | ⟨b, off, e, hlt, hc⟩
      · left
        have := congrArg List.length h4
        unfold bsL at this
        exact List.eq_nil_of_length_eq_zero (by simpa using this)
      · refine .inr ⟨b, off, e, hlt, fun j hj => ?_⟩
        have h5 := hc j (by unfold bsL; simpa using hj)
        rw [h5]
        simp [bsL, strV], fun a ha => by have := mem_sumN s.names a ha; omega⟩, strsArg.below hn hb⟩
  obtain ⟨ao, cap, rfl, hc, hcm, -⟩ := hv
  unfold maxLen at hcm
  obtain ⟨p, q, ns, ct, x, y⟩ := s
  unfold spV at HFi ⊢
  simp only at HFi HSF ⊢
  obtain ⟨W1, hW1⟩ : ∃ W1, W1 = w.alloc (.cells #[.slice a1 p.length c1, .int .i64 q, .slice a2 ns.length c2, .bool ct, .int .i64 x, .int .i64 y] 26) := ⟨_, rfl⟩
  have hb1 : Below w.heap.size w W1 := by rw [hW1]; exact (Below.refl _ _).alloc (Nat.le_refl _) _
  have hbx : Box W1 w.heap.size (.slice a1 p.length c1) q (.slice a2 ns.length c2) ct x y := by rw [hW1]; exact heap_alloc_new w _
  have HAw := Lib.hid (fawake_any W1 (he.below hb1))
  have HB1 := Lib.hid hb1
  have HX1 := Lib.hid hbx
  have HW1 := Lib.hid hW1.symm
  clear hp hn hnl hpl hnn he hW1 hb1 hbx
  go_enter Tryz.func3, Tryz.ntmps3
  go_upto_region 1 with fail
  rw [HW1.out]
  go_wp2_with fail
  with_reducible refine HAw.out.mono ?_
  rintro e w2 ⟨rfl, hb2⟩
  have HB2 := Lib.hid (HB1.out.trans (hb2.mono HB1.out.size))
  have HX2 := Lib.hid (HX1.out.below hb2)
  obtain ⟨k0, k1, k2, k3, k4, k5⟩ := HX2.out.c
  clear hb2 HAw HX1 HW1 HB1
  go_wp2_with fail
  with_reducible refine (HFi.out w2 HB2.out).mono ?_
  unfold finePost
  rintro e w3 ⟨z, rfl, hz, hb3⟩
  have HB3 := Lib.hid (HB2.out.trans (hb3.mono HB2.out.size))
  have HX3 := Lib.hid (HX2.out.below hb3)
  have HZ := Lib.hid hz
  clear hb3 hz k0 k1 k2 k3 k4 k5 HFi HX2 HB2
  cases z with
  | false =>
    go_wp2_with fail
    go_ret
    exact ⟨rfl, HB3.out⟩
  | true =>
  by_cases hl : 1000 < l.length
  · have hd : decide ((1000 : Int) < (l.length : Int)) = true := decide_eq_true (by omega)
    go_wp2_with fail
    go_ret
    exact ⟨rfl, HB3.out⟩
  have hd : decide ((1000 : Int) < (l.length : Int)) = false := decide_eq_false (by omega)
  have hSF := HSF.out (HZ.out rfl).2.2
  have HSP := Lib.hid (fun W (hb : Below w.heap.size w W) (c : Bool) (x' y' : Int) => (spF_set (c' := c) (x' := x') (y' := y') (hSF W hb)))
  have HPa := Lib.hid (fparseS_any (.slice ao l.length cap) l w3 (bytesArg.below HV.out HB3.out) (by omega) (HE.out.below HB3.out))
  have hok := tree_okT l
  obtain ⟨T, hT⟩ : ∃ T, T = treeS l := ⟨_, rfl⟩
  rw [← hT] at HPa hok
  have hal := allL_len ⟨p, q, ns, false, 0, 0⟩ hok
  have hcut := fun (f M : Nat) (h1 : f ≤ 4294967295) (h2 : 1 ≤ M) (h3 : M ≤ 4294967295) => get_cut l T p q ns (f := f) (m := M) h1 h2 h3
  have hpl := get_plain l T p q ns
  obtain ⟨X, hX⟩ : ∃ X, X = allL l T ⟨p, q, ns, false, 0, 0⟩ := ⟨_, rfl⟩
  rw [← hX] at hal hpl
  simp only [← hX] at hcut
  have HAll := Lib.hid hX
  have HCut := Lib.hid hcut
  have HPl := Lib.hid hpl
  have HOk := Lib.hid hok
  have hXl : X.length ≤ 3002 := by omega
  have hll : l.length ≤ 100000 := by omega
  have HLl := Lib.hid hll
  unfold ptV at HPa
  clear hT hok hal hcut hpl hX hSF HSF HZ hl hll
  go_wp2_with fail
  with_reducible refine HPa.out.mono ?_
  rintro e w5 ⟨ka, kc, ca, cn, cc, rfl, hta, hb5⟩
  have HB5 : Hid (Below w.heap.size w w5) := HB3.out.trans (hb5.mono HB3.out.size)
  have hw35 := HX3.out.lt
  have HX5 := Lib.hid (HX3.out.below hb5)
  have HTa : Hid (treeAt (fun k => w3.heap.size ≤ k) w5 T (ptV T (.slice ka T.kids.length kc) (.slice ca cn cc))) := hta
  clear hb5 hta HPa hd
  go_upto_region 8 with fail
  have HP6 : Hid ((w5.alloc (.cells #[.int .i64 (T.kind : Int), .int .i64 (T.hd.1 : Int), .int .i64 (T.hd.2 : Int), .int .i64 (T.bd.1 : Int), .int .i64 (T.bd.2 : Int), .slice ka T.kids.length kc, .slice ca cn cc, .int .i64 (T.e.1 : Int), .int .i64 (T.e.2 : Int)] 35)).heap[w5.heap.size]? = some (ptO T (.slice ka T.kids.length kc) (.slice ca cn cc))) := heap_alloc_new w5 _
  have hb56 : Below w5.heap.size w5 (w5.alloc (.cells #[.int .i64 (T.kind : Int), .int .i64 (T.hd.1 : Int), .int .i64 (T.hd.2 : Int), .int .i64 (T.bd.1 : Int), .int .i64 (T.bd.2 : Int), .slice ka T.kids.length kc, .slice ca cn cc, .int .i64 (T.e.1 : Int), .int .i64 (T.e.2 : Int)] 35)) := (Below.refl _ _).alloc (Nat.le_refl _) _
  have HB6 := Lib.hid (HB5.out.trans (hb56.mono HB5.out.size))
  have HX6 := Lib.hid (HX5.out.below hb56)
  have HT6 : Hid (treeAt (fun k => w3.heap.size ≤ k) (w5.alloc (.cells #[.int .i64 (T.kind : Int), .int .i64 (T.hd.1 : Int), .int .i64 (T.hd.2 : Int), .int .i64 (T.bd.1 : Int), .int .i64 (T.bd.2 : Int), .slice ka T.kids.length kc, .slice ca cn cc, .int .i64 (T.e.1 : Int), .int .i64 (T.e.2 : Int)] 35)) T (ptV T (.slice ka T.kids.length kc) (.slice ca cn cc))) := treeAt.keep (fun k hk hl => ⟨hb56.block k hl, hk⟩) _ _ HTa.out
  have hne : w5.heap.size ≠ w.heap.size := by have := HX5.out.lt; omega
  clear hb56 HX5 HTa HX3
  generalize (w5.alloc (.cells #[.int .i64 (T.kind : Int), .int .i64 (T.hd.1 : Int), .int .i64 (T.hd.2 : Int), .int .i64 (T.bd.1 : Int), .int .i64 (T.bd.2 : Int), .slice ka T.kids.length kc, .slice ca cn cc, .int .i64 (T.e.1 : Int), .int .i64 (T.e.2 : Int)] 35)) = w6 at HP6 HB6 HX6 HT6 ⊢
  obtain ⟨R, hR⟩ : ∃ R, R = w5.heap.size := ⟨_, rfl⟩
  rw [← hR] at HP6 hne ⊢
  clear hR
  have HG := Lib.hid (fun (W : World) (c : Bool) (f y' : Int) (hk : Kx w.heap.size w6 W) (hb : Below w.heap.size w W) => fget_any (.slice ao l.length cap) l T (.slice ka T.kids.length kc) (.slice ca cn cc) ⟨p, q, ns, c, f, y'⟩ a1 a2 c1 c2 W (bytesArg.below HV.out hb) HLl.out HOk.out (hk.tree hw35 HT6.out) (HSP.out W hb c f y'))
  have HSz := Lib.hid (fun (W : World) (hk : Kx w.heap.size w6 W) (hb : Below w.heap.size w W) => fsize_any (.slice ao l.length cap) l T (.slice ka T.kids.length kc) (.slice ca cn cc) ⟨p, q, ns, false, 0, 0⟩ a1 a2 c1 c2 W (bytesArg.below HV.out hb) HLl.out HOk.out (hk.tree hw35 HT6.out) (HSP.out W hb false 0 0))
  unfold bytesPost at HG
  unfold ptV spV at HG HSz
  simp only at HG HSz
  rw [← HAll.out] at HSz
  have hR6 : R < w6.heap.size := (Array.getElem?_eq_some_iff.1 HP6.out).1
  obtain ⟨k0, k1, k2, k3, k4, k5⟩ := HX6.out.c
  have f3 := HX6.out.f 3
  have f4 := HX6.out.f 4
  have f5 := HX6.out.f 5
  go_upto_region 11 with fail
  have HX7 := Lib.hid (((HX6.out.set3 false).set4 0).set5 0)
  have HK7 := Lib.hid ((((Kx.refl w.heap.size w6).set 3 (.bool false)).set 4 (.int .i64 0)).set 5 (.int .i64 0))
  have HB7 := Lib.hid (((HB6.out.setCell (p := ⟨w.heap.size, 3, none⟩) (Nat.le_refl _) (.bool false)).setCell (p := ⟨w.heap.size, 4, none⟩) (Nat.le_refl _) (.int .i64 0)).setCell (p := ⟨w.heap.size, 5, none⟩) (Nat.le_refl _) (.int .i64 0))
  generalize ((w6.setCell ⟨w.heap.size, 3, none⟩ (.bool false)).setCell ⟨w.heap.size, 4, none⟩ (.int .i64 0)).setCell ⟨w.heap.size, 5, none⟩ (.int .i64 0) = w7 at HX7 HK7 HB7 ⊢
  clear k0 k1 k2 k3 k4 k5 f3 f4 f5 HX6
  have HP7 := Lib.hid ((HK7.out.block R hne hR6).trans HP6.out)
  obtain ⟨t0, t1, t2, t3, t4, t5, t6, t7, t8⟩ := part_cells HP7.out
  obtain ⟨k0, k1, k2, k3, k4, k5⟩ := HX7.out.c
  go_wp2_with fail
  with_reducible refine (HG.out w7 false 0 0 HK7.out HB7.out).mono ?_
  rw [HPl.out]
  rintro e w8 ⟨u1, rfl, hu1, hb8⟩
  have HU1 := Lib.hid hu1
  have HB8 := Lib.hid (HB7.out.trans (hb8.mono HB7.out.size))
  have HK8 := Lib.hid (HK7.out.below hb8)
  have HX8 := Lib.hid (HX7.out.below hb8)
  have HP8 := Lib.hid ((HK8.out.block R hne hR6).trans HP6.out)
  clear hu1 hb8 t0 t1 t2 t3 t4 t5 t6 t7 t8 k0 k1 k2 k3 k4 k5 HX7 HB7 HK7 HP7
  obtain ⟨t0, t1, t2, t3, t4, t5, t6, t7, t8⟩ := part_cells HP8.out
  obtain ⟨k0, k1, k2, k3, k4, k5⟩ := HX8.out.c
  obtain ⟨uo, uc, rfl, -, -, -⟩ := HU1.out
  go_wp2_with fail
  with_reducible refine (HSz.out w8 HK8.out HB8.out).mono ?_
  rintro e w9 ⟨rfl, hb9⟩
  have HB9 := Lib.hid (HB8.out.trans (hb9.mono HB8.out.size))
  have HK9 := Lib.hid (HK8.out.below hb9)
  have HX9 := Lib.hid (HX8.out.below hb9)
  have HU9 : Hid (bytesArg w9 (.slice uo X.length uc) X) := bytesArg.below HU1.out hb9
  have HP9 := Lib.hid ((HK9.out.block R hne hR6).trans HP6.out)
  clear hb9 t0 t1 t2 t3 t4 t5 t6 t7 t8 k0 k1 k2 k3 k4 k5 HX8 HB8 HK8 HP8 HU1 HSz
  obtain ⟨k0, k1, k2, k3, k4, k5⟩ := HX9.out.c
  have f3 := HX9.out.f 3
  have f5 := HX9.out.f 5
  obtain ⟨K, hK⟩ : ∃ K, K = m % 50 := ⟨_, rfl⟩
  have hKl : K ≤ 49 := by omega
  have m1 : (m : Int) % 50 = (K : Int) := by omega
  have m2 : (m : Int).tmod 50 = (K : Int) := by rw [Int.tmod_eq_emod_of_nonneg (by omega)]; exact m1
  have m3 : IntKind.u16.wrap (K : Int) = (K : Int) := IntWalk.u16_in _ (by omega)
  have m4 : IntKind.i64.wrap (K : Int) = (K : Int) := IntWalk.i64_in _ (by omega)
  obtain ⟨M, hM⟩ : ∃ M : Nat, (K : Int) + 1 = (M : Int) := ⟨K + 1, by omega⟩
  have hM1 : 1 ≤ M := by omega
  have hM2 : M ≤ 50 := by omega
  clear hK
  go_upto_region 15 with fail
  have HX10 := Lib.hid ((HX9.out.set3 true).set5 (M : Int))
  have HK10 := Lib.hid (((Kx.refl w.heap.size w9).set 3 (.bool true)).set 5 (.int .i64 (M : Int)))
  have HB10 := Lib.hid ((HB9.out.setCell (p := ⟨w.heap.size, 3, none⟩) (Nat.le_refl _) (.bool true)).setCell (p := ⟨w.heap.size, 5, none⟩) (Nat.le_refl _) (.int .i64 (M : Int)))
  generalize (w9.setCell ⟨w.heap.size, 3, none⟩ (.bool true)).setCell ⟨w.heap.size, 5, none⟩ (.int .i64 (M : Int)) = w10 at HX10 HK10 HB10 ⊢
  clear k0 k1 k2 k3 k4 k5 f3 f5 m1 m2 m3 m4 hM hKl
  go_wp2_with fail
  go_loopg [13] (X.length + 1) (fun g tv wr => ∃ (f : Nat) (A : ByteArray), f ≤ X.length + 50 ∧ g = X.length + 1 - f ∧ tv = .string A ∧ A.size ≤ X.length ∧ Hid (A.data.toList = X.take f) ∧
    Hid (Box wr w.heap.size (.slice a1 p.length c1) q (.slice a2 ns.length c2) true (f : Int) (M : Int)) ∧ Hid (Kx w.heap.size w9 wr) ∧ Hid (Below w.heap.size w wr))
  case atStart => exact ⟨0, ⟨#[]⟩, Nat.zero_le _, rfl, rfl, Nat.zero_le _, rfl, HX10.out, HK10.out, HB10.out⟩
  case round =>
    clear HX10 HK10 HB10
    obtain ⟨f, A, hf, rfl, rfl, hAl, HA, HBx, HK, HB⟩ := hrel
    have HKw := Lib.hid (HK9.out.trans HK.out)
    have HPr := Lib.hid ((HKw.out.block R hne hR6).trans HP6.out)
    obtain ⟨t0, t1, t2, t3, t4, t5, t6, t7, t8⟩ := part_cells HPr.out
    obtain ⟨k0, k1, k2, k3, k4, k5⟩ := HBx.out.c
    have hgc := HG.out wr true (f : Int) (M : Int) HKw.out HB.out
    rw [HCut.out f M (by omega) hM1 (by omega)] at hgc
    have HGc := Lib.hid hgc
    clear hgc
    by_cases hlt : f ≤ X.length
    · have d1 : decide ((f : Int) ≤ (X.length : Int)) = true := decide_eq_true (by omega)
      have d2 : decide ((f : Int) ≤ 4000) = true := decide_eq_true (by omega)
      have hst := cut_step X hlt hM1
      have HSt := Lib.hid hst
      have hcl : (cut16 X (f : Int) (M : Int)).length ≤ X.length := by
        rw [cut16_yes (by omega), List.length_take, List.length_drop]
        omega
      obtain ⟨D, hD⟩ : ∃ D, D = cut16 X (f : Int) (M : Int) := ⟨_, rfl⟩
      rw [← hD] at HGc hcl HSt
      obtain ⟨C, hC⟩ : ∃ C : ByteArray, C = ⟨D.toArray⟩ := ⟨_, rfl⟩
      have hCs : C.size = D.length := by rw [hC]; rfl
      have HCd : Hid (C.data.toList = D) := by rw [hC]; exact rfl
      have hCl : C.size ≤ X.length := by omega
      have HCv : Hid (∀ W u, bytesArg W u D → (convert 22 9 u).run Tryz.prog W = .ok (.string C) W) := fun W u h => by rw [hC]; exact bytesArg_string h
      clear hst hD hC hCs hcl
      go_wp2_with fail
      with_reducible refine HGc.out.mono ?_
      rintro e wq ⟨u, rfl, hu, hb⟩
      have hcv := HCv.out wq u hu
      have HBq := Lib.hid (HB.out.trans (hb.mono HB.out.size))
      have HKq := Lib.hid (HK.out.below hb)
      have HXq := Lib.hid (HBx.out.below hb)
      clear hu hb t0 t1 t2 t3 t4 t5 t6 t7 t8 k0 k1 k2 k3 k4 k5 HGc
      obtain ⟨k0, k1, k2, k3, k4, k5⟩ := HXq.out.c
      have f4 := HXq.out.f 4
      obtain ⟨N, hN⟩ : ∃ N : Nat, (f : Int) + (M : Int) = (N : Int) := ⟨f + M, by omega⟩
      have hNe : N = f + M := by omega
      have HNe := Lib.hid hNe
      have hNb : N ≤ 4000 := by omega
      have hNf : f < N := by omega
      have hNx : N ≤ X.length + 50 := by omega
      clear hNe
      go_wp2_with fail
      go_roundg (X.length + 1 - N)
      case measure => omega
      case rel =>
        refine ⟨N, A ++ C, hNx, rfl, rfl, ?_, ?_, HXq.out.set4 (N : Int), HKq.out.set 4 _, HBq.out.setCell (p := ⟨w.heap.size, 4, none⟩) (Nat.le_refl _) _⟩
        · have h1 : (A ++ C).data.toList = X.take (f + M) := by rw [cat_toList, HA.out, HCd.out, HSt.out]
          have h2 := congrArg List.length h1
          rw [len_toList, List.length_take] at h2
          omega
        · show (A ++ C).data.toList = X.take N
          rw [cat_toList, HA.out, HCd.out, HSt.out, HNe.out]
    · have d1 : decide ((f : Int) ≤ (X.length : Int)) = false := decide_eq_false (by omega)
      have hnil := cut_behind X (f := f) (m := M) (by omega)
      rw [hnil] at HGc
      have HAx : Hid (A.data.toList = X) := by
        have := HA.out
        rwa [List.take_of_length_le (by omega)] at this
      have hcx := bytesArg_string (HK.out.bytes HX9.out HU9.out)
      obtain ⟨Y, hY⟩ : ∃ Y : ByteArray, Y = ⟨X.toArray⟩ := ⟨_, rfl⟩
      rw [← hY] at hcx
      have q1 : (A.toList == Y.toList) = true := str_eq (by rw [HAx.out, hY])
      have q2 : ((X.length : Int) == (X.length : Int)) = true := beq_yes rfl
      clear hnil hY HA
      go_wp2_with fail
      with_reducible refine HGc.out.mono ?_
      rintro e wq ⟨u, rfl, hu, hb⟩
      obtain ⟨vo, vc, rfl, -, -, -⟩ := hu
      have HBq := Lib.hid (HB.out.trans (hb.mono HB.out.size))
      clear hb
      go_wp2_with fail
      go_ret
      exact ⟨ret_bool (by simp), HBq.out⟩
end Go.Proofs.YtahmhakdpmcdoaaGreatDoor
