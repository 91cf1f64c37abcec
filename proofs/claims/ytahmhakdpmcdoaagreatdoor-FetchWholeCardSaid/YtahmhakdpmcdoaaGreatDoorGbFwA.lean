/- The laws of layer 16 (fetch): FetchWhole. -/
import Derived.Test.YtahmhakdpmcdoaaGreatDoorGbFeK
import Derived.Deep.RegionHeld
namespace Go.Proofs.YtahmhakdpmcdoaaGreatDoor
open Go Go.RowKit

set_option maxRecDepth 100000 in
set_option maxHeartbeats 4000000 in
theorem fetchWhole_any (v : Value) (l : List UInt8) (n : Nat) (w : World) (hv : bytesArg w v l) (hn : n ≤ 65535) (he : env w) :
    Calls Tryz.prog 4 #[v, .int .u16 (n : Int)] w fun e w' => e = .returned (.bool true) ∧ Below w.heap.size w w' := by
  have HV := Lib.hid hv
  have HE := Lib.hid he
  have HAw := Lib.hid (fawake_any w he)
  obtain ⟨ao, cap, rfl, hc, hm, hs⟩ := hv
  have HS : Hid (sliceAt w ao l) := hs
  unfold maxLen at hm
  clear hs he
  by_cases hl : 2000 < l.length
  · have hd : decide ((2000 : Int) < (l.length : Int)) = true := decide_eq_true (by omega)
    go_enter Tryz.func4, Tryz.ntmps4
    go_wp2_with fail
    with_reducible refine HAw.out.mono ?_
    rintro e w1 ⟨rfl, hb1⟩
    have HB1 := Lib.hid hb1
    clear hb1
    go_wp2_with fail
    go_ret
    exact ⟨rfl, HB1.out⟩
  have hd : decide ((2000 : Int) < (l.length : Int)) = false := decide_eq_false (by omega)
  have hlb : l.length ≤ 2000 := by omega
  clear hl
  have hwp := whole_plain l
  have hok := tree_okT l
  have hct := tree_count l
  have HPa := Lib.hid (fun W (hb : Below w.heap.size w W) => fparse_any (.slice ao l.length cap) l W (bytesArg.below HV.out hb) (by omega) (HE.out.below hb))
  obtain ⟨T, hT⟩ : ∃ T, T = treeS l := ⟨_, rfl⟩
  rw [← hT] at hwp hok hct HPa
  have HOk := Lib.hid hok
  have HW0 := Lib.hid hwp.1
  obtain ⟨H, hH⟩ : ∃ H, H = getL l T ⟨[], 1, [], false, 0, 0⟩ := ⟨_, rfl⟩
  obtain ⟨X, hX⟩ : ∃ X, X = getL l T ⟨[], 4, [], false, 0, 0⟩ := ⟨_, rfl⟩
  rw [← hH, ← hX] at hwp
  have HHe := Lib.hid hH
  have HXe := Lib.hid hX
  have HHX := Lib.hid hwp.2
  have hkids : T.kids.length ≤ 1000 := by
    have h1 := lenK_le T.kids
    have h2 := countT_eq T
    omega
  have hlen := congrArg List.length hwp.2
  rw [List.length_append] at hlen
  have hll : l.length ≤ 100000 := by omega
  have HLl := Lib.hid hll
  obtain ⟨n1, hn1⟩ : ∃ n1, n1 = H.length := ⟨_, rfl⟩
  obtain ⟨n2, hn2⟩ : ∃ n2, n2 = X.length := ⟨_, rfl⟩
  have HN1 := Lib.hid hn1
  have HN2 := Lib.hid hn2
  have hn1b : n1 ≤ 2000 := by omega
  have hn2b : n2 ≤ 2000 := by omega
  unfold ptV at HPa
  clear hT hwp hok hct hH hX hlen hll hn1 hn2
  go_enter Tryz.func4, Tryz.ntmps4
  go_wp2_with fail
  with_reducible refine HAw.out.mono ?_
  rintro e w1 ⟨rfl, hb1⟩
  have HB1 := Lib.hid hb1
  clear hb1 HAw
  go_wp2_with fail
  with_reducible refine (HPa.out w1 HB1.out).mono ?_
  rintro e w5 ⟨ka, kc, ca, cn, cc, rfl, hta, hrow, hb5⟩
  have HB5 : Hid (Below w.heap.size w w5) := HB1.out.trans (hb5.mono HB1.out.size)
  have HTa : Hid (tAt w5 T (ptV T (.slice ka T.kids.length kc) (.slice ca cn cc))) := hta
  have HRow := Lib.hid hrow
  have HG := Lib.hid (fun (W : World) (s : Spc) (a1 a2 : Option Addr) (c1 c2 : Nat) (hb : Below w5.heap.size w5 W) h => fget_any (.slice ao l.length cap) l T (.slice ka T.kids.length kc) (.slice ca cn cc) s a1 a2 c1 c2 W (bytesArg.below HV.out (HB5.out.trans (hb.mono HB5.out.size))) HLl.out HOk.out (HTa.out.below hb) h)
  unfold bytesPost ptV at HG
  clear hb5 hta hrow HPa hd
  go_upto_region 7 with fail
  have HX0 : Hid ((w5.alloc (.cells #[.int .i64 (T.kind : Int), .int .i64 (T.hd.1 : Int), .int .i64 (T.hd.2 : Int), .int .i64 (T.bd.1 : Int), .int .i64 (T.bd.2 : Int), .slice ka T.kids.length kc, .slice ca cn cc, .int .i64 (T.e.1 : Int), .int .i64 (T.e.2 : Int)] 35)).heap[w5.heap.size]? = some (ptO T (.slice ka T.kids.length kc) (.slice ca cn cc))) := heap_alloc_new w5 _
  have HC0 : Hid (Below w5.heap.size w5 (w5.alloc (.cells #[.int .i64 (T.kind : Int), .int .i64 (T.hd.1 : Int), .int .i64 (T.hd.2 : Int), .int .i64 (T.bd.1 : Int), .int .i64 (T.bd.2 : Int), .slice ka T.kids.length kc, .slice ca cn cc, .int .i64 (T.e.1 : Int), .int .i64 (T.e.2 : Int)] 35))) := (Below.refl _ _).alloc (Nat.le_refl _) _
  generalize (w5.alloc (.cells #[.int .i64 (T.kind : Int), .int .i64 (T.hd.1 : Int), .int .i64 (T.hd.2 : Int), .int .i64 (T.bd.1 : Int), .int .i64 (T.bd.2 : Int), .slice ka T.kids.length kc, .slice ca cn cc, .int .i64 (T.e.1 : Int), .int .i64 (T.e.2 : Int)] 35)) = x0 at HX0 HC0 ⊢
  obtain ⟨R, hR⟩ : ∃ R, R = w5.heap.size := ⟨_, rfl⟩
  rw [← hR] at HX0 ⊢
  clear hR
  have HZ1 : Hid (∀ (W : World), Below w5.heap.size w5 W → Calls Tryz.prog 10 #[.slice ao l.length cap, .agg #[.int .i64 (T.kind : Int), .int .i64 (T.hd.1 : Int), .int .i64 (T.hd.2 : Int), .int .i64 (T.bd.1 : Int), .int .i64 (T.bd.2 : Int), .slice ka T.kids.length kc, .slice ca cn cc, .int .i64 (T.e.1 : Int), .int .i64 (T.e.2 : Int)], .agg #[.slice none 0 0, .int .i64 1, .slice none 0 0, .bool false, .int .i64 0, .int .i64 0]] W fun e w' => ∃ u, e = .returned u ∧ bytesArg w' u H ∧ Below W.heap.size W w') := fun W hb => by
    have hg := HG.out W ⟨[], 1, [], false, 0, 0⟩ none none 0 0 hb (spF_zero W 1)
    rw [← HHe.out] at hg
    exact hg
  have HZ2 : Hid (∀ (W : World), Below w5.heap.size w5 W → Calls Tryz.prog 10 #[.slice ao l.length cap, .agg #[.int .i64 (T.kind : Int), .int .i64 (T.hd.1 : Int), .int .i64 (T.hd.2 : Int), .int .i64 (T.bd.1 : Int), .int .i64 (T.bd.2 : Int), .slice ka T.kids.length kc, .slice ca cn cc, .int .i64 (T.e.1 : Int), .int .i64 (T.e.2 : Int)], .agg #[.slice none 0 0, .int .i64 4, .slice none 0 0, .bool false, .int .i64 0, .int .i64 0]] W fun e w' => ∃ u, e = .returned u ∧ bytesArg w' u X ∧ Below W.heap.size W w') := fun W hb => by
    have hg := HG.out W ⟨[], 4, [], false, 0, 0⟩ none none 0 0 hb (spF_zero W 4)
    rw [← HXe.out] at hg
    exact hg
  have HZ3 : Hid (∀ (W : World), Below w5.heap.size w5 W → Calls Tryz.prog 10 #[.slice ao l.length cap, .agg #[.int .i64 (T.kind : Int), .int .i64 (T.hd.1 : Int), .int .i64 (T.hd.2 : Int), .int .i64 (T.bd.1 : Int), .int .i64 (T.bd.2 : Int), .slice ka T.kids.length kc, .slice ca cn cc, .int .i64 (T.e.1 : Int), .int .i64 (T.e.2 : Int)], .agg #[.slice none 0 0, .int .i64 0, .slice none 0 0, .bool false, .int .i64 0, .int .i64 0]] W fun e w' => ∃ u, e = .returned u ∧ bytesArg w' u l ∧ Below W.heap.size W w') := fun W hb => by
    have hg := HG.out W ⟨[], 0, [], false, 0, 0⟩ none none 0 0 hb (spF_zero W 0)
    rw [HW0.out] at hg
    exact hg
  obtain ⟨t0, t1, t2, t3, t4, t5, t6, t7, t8⟩ := part_cells HX0.out
  have hx0 : R < x0.heap.size := (Array.getElem?_eq_some_iff.1 HX0.out).1
  go_wp2_with fail
  with_reducible refine (HZ1.out _ HC0.out).mono ?_
  rintro e x1 ⟨u1, rfl, hu, hb⟩
  have HU1 := Lib.hid hu
  have HX1 := Lib.hid ((hb.block _ hx0).trans HX0.out)
  have HC1 := Lib.hid (HC0.out.trans (hb.mono HC0.out.size))
  have HD1 := Lib.hid hb
  obtain ⟨uo1, uc1, rfl, _, _, _⟩ := HU1.out
  rw [← HN1.out] at HU1 ⊢
  clear hu hb t0 t1 t2 t3 t4 t5 t6 t7 t8
  obtain ⟨t0, t1, t2, t3, t4, t5, t6, t7, t8⟩ := part_cells HX1.out
  have hx1 : R < x1.heap.size := (Array.getElem?_eq_some_iff.1 HX1.out).1
  go_wp2_with fail
  with_reducible refine (HZ2.out _ HC1.out).mono ?_
  rintro e x2 ⟨u2, rfl, hu, hb⟩
  have HU2 := Lib.hid hu
  have HX2 := Lib.hid ((hb.block _ hx1).trans HX1.out)
  have HC2 := Lib.hid (HC1.out.trans (hb.mono HC1.out.size))
  have HD2 := Lib.hid hb
  obtain ⟨uo2, uc2, rfl, _, _, _⟩ := HU2.out
  rw [← HN2.out] at HU2 ⊢
  clear hu hb t0 t1 t2 t3 t4 t5 t6 t7 t8
  obtain ⟨A, hA⟩ : ∃ A : ByteArray, A = ⟨H.toArray⟩ := ⟨_, rfl⟩
  obtain ⟨C, hC⟩ : ∃ C : ByteArray, C = ⟨X.toArray⟩ := ⟨_, rfl⟩
  obtain ⟨B, hB⟩ : ∃ B : ByteArray, B = ⟨l.toArray⟩ := ⟨_, rfl⟩
  have hx2 : R < x2.heap.size := (Array.getElem?_eq_some_iff.1 HX2.out).1
  have HW2 : Hid (Below w.heap.size w x2) := HB5.out.trans (HC2.out.mono HB5.out.size)
  have HK : Hid (∀ W' : World, Below x2.heap.size x2 W' → (convert 22 9 (.slice uo1 n1 uc1)).run Tryz.prog W' = .ok (.string A) W' ∧ (convert 22 9 (.slice uo2 n2 uc2)).run Tryz.prog W' = .ok (.string C) W' ∧ (convert 22 9 (.slice ao l.length cap)).run Tryz.prog W' = .ok (.string B) W' ∧ W'.cell? ⟨R, 0, none⟩ = some (.int .i64 (T.kind : Int)) ∧ W'.cell? ⟨R, 1, none⟩ = some (.int .i64 (T.hd.1 : Int)) ∧ W'.cell? ⟨R, 2, none⟩ = some (.int .i64 (T.hd.2 : Int)) ∧ W'.cell? ⟨R, 3, none⟩ = some (.int .i64 (T.bd.1 : Int)) ∧ W'.cell? ⟨R, 4, none⟩ = some (.int .i64 (T.bd.2 : Int)) ∧ W'.cell? ⟨R, 5, none⟩ = some (.slice ka T.kids.length kc) ∧ W'.cell? ⟨R, 6, none⟩ = some (.slice ca cn cc) ∧ W'.cell? ⟨R, 7, none⟩ = some (.int .i64 (T.e.1 : Int)) ∧ W'.cell? ⟨R, 8, none⟩ = some (.int .i64 (T.e.2 : Int))) := fun W' hb => by
    obtain ⟨t0, t1, t2, t3, t4, t5, t6, t7, t8⟩ := part_cells ((hb.block R hx2).trans HX2.out)
    have k1 := bytesArg_string (bytesArg.below HU1.out (HD2.out.trans (hb.mono HD2.out.size)))
    have k2 := bytesArg_string (bytesArg.below HU2.out hb)
    have k3 := bytesArg_string (bytesArg.below HV.out (HW2.out.trans (hb.mono HW2.out.size)))
    rw [← hA] at k1
    rw [← hC] at k2
    rw [← hB] at k3
    exact ⟨k1, k2, k3, t0, t1, t2, t3, t4, t5, t6, t7, t8⟩
  have hAs : A.size = H.length := by rw [hA]; rfl
  have hCs : C.size = X.length := by rw [hC]; rfl
  have z1 : A.size ≤ 2000 := by have := HN1.out; omega
  have z2 : C.size ≤ 2000 := by have := HN2.out; omega
  have z3 : ¬ 9223372036854775807 < A.size + C.size := by omega
  have z4 : ¬ (9223372036854775807 : Int) < (A.size : Int) + (C.size : Int) := by omega
  have e1 : ((A ++ C).toList == B.toList) = true := str_eq (by rw [cat_toList, hA, hC, hB]; simpa using HHX.out)
  have e2 : ((A ++ C).toList != B.toList) = false := by unfold bne; rw [e1]; rfl
  have e3 : (B.toList != B.toList) = false := by unfold bne; rw [str_eq rfl]; rfl
  have e4 : (A ++ C).toList = B.toList := eq_of_beq e1
  have HBl : Hid (∀ W u, bytesArg W u l → (convert 22 9 u).run Tryz.prog W = .ok (.string B) W) := fun W u h => by rw [hB]; exact bytesArg_string h
  have HCl : Hid (∀ W u, bytesArg W u X → (convert 22 9 u).run Tryz.prog W = .ok (.string C) W) := fun W u h => by rw [hC]; exact bytesArg_string h
  have hd0 : Below x2.heap.size x2 x2.drew := (Below.refl _ _).drew
  obtain ⟨t0, t1, t2, t3, t4, t5, t6, t7, t8⟩ := part_cells HX2.out
  clear hA hC hB hAs hCs
  go_upto_region 9 with fail
  go_region_held (fun W' : World => (convert 22 9 (.slice uo1 n1 uc1)).run Tryz.prog W' = .ok (.string A) W' ∧ (convert 22 9 (.slice uo2 n2 uc2)).run Tryz.prog W' = .ok (.string C) W' ∧ (convert 22 9 (.slice ao l.length cap)).run Tryz.prog W' = .ok (.string B) W' ∧ W'.cell? ⟨R, 0, none⟩ = some (.int .i64 (T.kind : Int)) ∧ W'.cell? ⟨R, 1, none⟩ = some (.int .i64 (T.hd.1 : Int)) ∧ W'.cell? ⟨R, 2, none⟩ = some (.int .i64 (T.hd.2 : Int)) ∧ W'.cell? ⟨R, 3, none⟩ = some (.int .i64 (T.bd.1 : Int)) ∧ W'.cell? ⟨R, 4, none⟩ = some (.int .i64 (T.bd.2 : Int)) ∧ W'.cell? ⟨R, 5, none⟩ = some (.slice ka T.kids.length kc) ∧ W'.cell? ⟨R, 6, none⟩ = some (.slice ca cn cc) ∧ W'.cell? ⟨R, 7, none⟩ = some (.int .i64 (T.e.1 : Int)) ∧ W'.cell? ⟨R, 8, none⟩ = some (.int .i64 (T.e.2 : Int))) (exact HK.out _ (by assumption)) (first | (go_simp; go_at_call 10; with_reducible refine (HZ3.out _ ?_).mono ?_; exact (HC2.out.trans (hd0.mono HC2.out.size)); rintro e x3 ⟨u3, rfl, hu3, hb3⟩; have hbk := hd0.trans (hb3.mono hd0.size); have hcv3 := HBl.out _ _ hu3))
  have HC3 := Lib.hid (HC2.out.trans (hbk.mono HC2.out.size))
  have HX3 := Lib.hid ((hbk.block R hx2).trans HX2.out)
  have HK3 : Hid (∀ W' : World, Below x3.heap.size x3 W' → (convert 22 9 (.slice uo2 n2 uc2)).run Tryz.prog W' = .ok (.string C) W' ∧ W'.cell? ⟨R, 0, none⟩ = some (.int .i64 (T.kind : Int)) ∧ W'.cell? ⟨R, 1, none⟩ = some (.int .i64 (T.hd.1 : Int)) ∧ W'.cell? ⟨R, 2, none⟩ = some (.int .i64 (T.hd.2 : Int)) ∧ W'.cell? ⟨R, 3, none⟩ = some (.int .i64 (T.bd.1 : Int)) ∧ W'.cell? ⟨R, 4, none⟩ = some (.int .i64 (T.bd.2 : Int)) ∧ W'.cell? ⟨R, 5, none⟩ = some (.slice ka T.kids.length kc) ∧ W'.cell? ⟨R, 6, none⟩ = some (.slice ca cn cc) ∧ W'.cell? ⟨R, 7, none⟩ = some (.int .i64 (T.e.1 : Int)) ∧ W'.cell? ⟨R, 8, none⟩ = some (.int .i64 (T.e.2 : Int))) := fun W' hb => by
    obtain ⟨_, k2, _, t0, t1, t2, t3, t4, t5, t6, t7, t8⟩ := HK.out W' (hbk.trans (hb.mono hbk.size))
    exact ⟨k2, t0, t1, t2, t3, t4, t5, t6, t7, t8⟩
  have hx3 : R < x3.heap.size := (Array.getElem?_eq_some_iff.1 HX3.out).1
  have e5 : (C.toList == C.toList) = true := str_eq rfl
  clear hu3 hb3 hcv3 hbk hd0 HK HZ1 HZ2 HZ3 t0 t1 t2 t3 t4 t5 t6 t7 t8 e1 e2 e3 e4 z1 z3 z4
  obtain ⟨t0, t1, t2, t3, t4, t5, t6, t7, t8⟩ := part_cells HX3.out
  by_cases hk1 : T.kind = 1
  · have bk : ((T.kind : Int) == 1) = true := beq_yes (by omega)
    have bk2 : ((T.kind : Int) != 1) = false := by unfold bne; rw [bk]; rfl
    have HK1 := Lib.hid hk1
    clear hk1
    go_wp2_with fail
    go_loopg [10] T.kids.length (fun g iv wr => ∃ i : Nat, i ≤ T.kids.length ∧ g = T.kids.length - i ∧ iv = .int .i64 (i : Int) ∧ Hid (Below x3.heap.size x3 wr))
    case atStart => exact ⟨0, Nat.zero_le _, rfl, rfl, Below.refl _ _⟩
    case round =>
      obtain ⟨i, hi, rfl, rfl, HB⟩ := hrel
      clear t0 t1 t2 t3 t4 t5 t6 t7 t8
      have HBr := Lib.hid (HC3.out.trans (HB.out.mono HC3.out.size))
      have hsz : R < wr.heap.size := Nat.lt_of_lt_of_le hx3 HB.out.size
      have HXr := Lib.hid ((HB.out.block R hx3).trans HX3.out)
      obtain ⟨t0, t1, t2, t3, t4, t5, t6, t7, t8⟩ := part_cells HXr.out
      by_cases hlt : i < T.kids.length
      · obtain ⟨hkc, hkm, hat⟩ := HRow.out.below HBr.out
        obtain ⟨g, ga, gn, gc, ga2, gn2, gc2, hka, hg, h9, _⟩ := hat i hlt
        unfold maxLen at hkm
        have hkp := kid_plain (l := l) HK1.out HOk.out hlt (by omega)
        obtain ⟨y, hy⟩ : ∃ y, y = T.kids[i] := ⟨_, rfl⟩
        obtain ⟨m0, m1, m2, m3, m4, m5, m6, m7, m8⟩ := h9
        rw [← hy] at m0 m1 m2 m3 m4 m7 m8 hkp
        obtain ⟨F, hF⟩ : ∃ F, F = y.hd.1 := ⟨_, rfl⟩
        obtain ⟨E, hE⟩ : ∃ E, E = y.bd.2 := ⟨_, rfl⟩
        rw [← hF] at m1 hkp
        rw [← hE] at m4 hkp
        obtain ⟨P5, hP5⟩ : ∃ P, P = getL l T ⟨[(i : Int) + 1], 5, [], false, 0, 0⟩ := ⟨_, rfl⟩
        obtain ⟨P0, hP0⟩ : ∃ P, P = getL l T ⟨[(i : Int) + 1], 0, [], false, 0, 0⟩ := ⟨_, rfl⟩
        rw [← hP5, ← hP0] at hkp
        obtain ⟨hpp, hFE, hEl⟩ := hkp
        have HPP := Lib.hid hpp
        have HQ5 : Hid (∀ (W : World) (a1 : Option Addr), Below w5.heap.size w5 W → SpF W ⟨[(i : Int) + 1], 5, [], false, 0, 0⟩ a1 none 1 0 → Calls Tryz.prog 10 #[.slice ao l.length cap, .agg #[.int .i64 (T.kind : Int), .int .i64 (T.hd.1 : Int), .int .i64 (T.hd.2 : Int), .int .i64 (T.bd.1 : Int), .int .i64 (T.bd.2 : Int), .slice ka T.kids.length kc, .slice ca cn cc, .int .i64 (T.e.1 : Int), .int .i64 (T.e.2 : Int)], .agg #[.slice a1 1 1, .int .i64 5, .slice none 0 0, .bool false, .int .i64 0, .int .i64 0]] W fun e w' => ∃ u, e = .returned u ∧ bytesArg w' u P5 ∧ Below W.heap.size W w') := fun W a1 hb h => by
          have hg := HG.out W ⟨[(i : Int) + 1], 5, [], false, 0, 0⟩ a1 none 1 0 hb h
          rw [← hP5] at hg
          exact hg
        have HQ0 : Hid (∀ (W : World) (a1 : Option Addr), Below w5.heap.size w5 W → SpF W ⟨[(i : Int) + 1], 0, [], false, 0, 0⟩ a1 none 1 0 → Calls Tryz.prog 10 #[.slice ao l.length cap, .agg #[.int .i64 (T.kind : Int), .int .i64 (T.hd.1 : Int), .int .i64 (T.hd.2 : Int), .int .i64 (T.bd.1 : Int), .int .i64 (T.bd.2 : Int), .slice ka T.kids.length kc, .slice ca cn cc, .int .i64 (T.e.1 : Int), .int .i64 (T.e.2 : Int)], .agg #[.slice a1 1 1, .int .i64 0, .slice none 0 0, .bool false, .int .i64 0, .int .i64 0]] W fun e w' => ∃ u, e = .returned u ∧ bytesArg w' u P0 ∧ Below W.heap.size W w') := fun W a1 hb h => by
          have hg := HG.out W ⟨[(i : Int) + 1], 0, [], false, 0, 0⟩ a1 none 1 0 hb h
          rw [← hP0] at hg
          exact hg
        have hil : (i : Int) < (T.kids.length : Int) := by omega
        subst hka
        clear hy hF hE hP5 hP0 hpp hat
        go_upto_region 17 with fail
        have HY0 : Hid ((wr.alloc (.cells #[.int .i64 (y.kind : Int), .int .i64 (F : Int), .int .i64 (y.hd.2 : Int), .int .i64 (y.bd.1 : Int), .int .i64 (E : Int), .slice ga gn gc, .slice ga2 gn2 gc2, .int .i64 (y.e.1 : Int), .int .i64 (y.e.2 : Int)] 35)).heap[wr.heap.size]? = some (partO (y.kind : Int) (F : Int) (y.hd.2 : Int) (y.bd.1 : Int) (E : Int) (.slice ga gn gc) (.slice ga2 gn2 gc2) (y.e.1 : Int) (y.e.2 : Int))) := heap_alloc_new wr _
        have hby0 : Below wr.heap.size wr (wr.alloc (.cells #[.int .i64 (y.kind : Int), .int .i64 (F : Int), .int .i64 (y.hd.2 : Int), .int .i64 (y.bd.1 : Int), .int .i64 (E : Int), .slice ga gn gc, .slice ga2 gn2 gc2, .int .i64 (y.e.1 : Int), .int .i64 (y.e.2 : Int)] 35)) := (Below.refl _ _).alloc (Nat.le_refl _) _
        generalize (wr.alloc (.cells #[.int .i64 (y.kind : Int), .int .i64 (F : Int), .int .i64 (y.hd.2 : Int), .int .i64 (y.bd.1 : Int), .int .i64 (E : Int), .slice ga gn gc, .slice ga2 gn2 gc2, .int .i64 (y.e.1 : Int), .int .i64 (y.e.2 : Int)] 35)) = y0 at HY0 hby0 ⊢
        have HD0 := Lib.hid (HBr.out.trans (hby0.mono HBr.out.size))
        have HE0 := Lib.hid (HB.out.trans (hby0.mono HB.out.size))
        have HZ0 := Lib.hid ((hby0.block R hsz).trans HXr.out)
        obtain ⟨Q, hQ⟩ : ∃ Q, Q = wr.heap.size := ⟨_, rfl⟩
        rw [← hQ] at HY0 ⊢
        have hQ0 : Q < y0.heap.size := (Array.getElem?_eq_some_iff.1 HY0.out).1
        have hR0 : R < y0.heap.size := (Array.getElem?_eq_some_iff.1 HZ0.out).1
        clear hby0 hQ m0 m1 m2 m3 m4 m5 m6 m7 m8 t0 t1 t2 t3 t4 t5 t6 t7 t8
        obtain ⟨t0, t1, t2, t3, t4, t5, t6, t7, t8⟩ := part_cells HZ0.out
        go_wp2_with fail
        with_reducible refine (HQ5.out _ _ ?k1 ?k2).mono ?_
        case k1 => exact HD0.out.alloc HD0.out.size _
        case k2 => exact spF_one _ _ ((i : Int) + 1) 5
        rintro e y1 ⟨v5, rfl, hu5, hb⟩
        have hb01 : Below y0.heap.size y0 y1 := ((Below.refl _ _).alloc (Nat.le_refl _) _).trans (hb.mono (by simp))
        have HD1 := Lib.hid (HD0.out.trans (hb01.mono HD0.out.size))
        have HE1 := Lib.hid (HE0.out.trans (hb01.mono HE0.out.size))
        have HY1 := Lib.hid ((hb01.block Q hQ0).trans HY0.out)
        have HZ1 := Lib.hid ((hb01.block R hR0).trans HZ0.out)
        have HV5 := Lib.hid hu5
        have hQ1 : Q < y1.heap.size := (Array.getElem?_eq_some_iff.1 HY1.out).1
        clear hb hb01 hu5 t0 t1 t2 t3 t4 t5 t6 t7 t8
        obtain ⟨t0, t1, t2, t3, t4, t5, t6, t7, t8⟩ := part_cells HZ1.out
        go_wp2_with fail
        with_reducible refine (HQ0.out _ _ ?k3 ?k4).mono ?_
        case k3 => exact HD1.out.alloc HD1.out.size _
        case k4 => exact spF_one _ _ ((i : Int) + 1) 0
        rintro e y2 ⟨v0, rfl, hu0, hb⟩
        have hb12 : Below y1.heap.size y1 y2 := ((Below.refl _ _).alloc (Nat.le_refl _) _).trans (hb.mono (by simp))
        have HD2' := Lib.hid (HD1.out.trans (hb12.mono HD1.out.size))
        have HE2 := Lib.hid (HE1.out.trans (hb12.mono HE1.out.size))
        have HY2 := Lib.hid ((hb12.block Q hQ1).trans HY1.out)
        have HV5' : Hid (bytesArg y2 v5 P5) := bytesArg.below HV5.out hb12
        have HV0 := Lib.hid hu0
        clear hb hb12 hu0 t0 t1 t2 t3 t4 t5 t6 t7 t8
        obtain ⟨c0, c1, c2, c3, c4, c5, c6, c7, c8⟩ := part_cells HY2.out
        obtain ⟨G, hG⟩ : ∃ G : ByteArray, G = ⟨P5.toArray⟩ := ⟨_, rfl⟩
        obtain ⟨J, hJ⟩ : ∃ J : ByteArray, J = ⟨P0.toArray⟩ := ⟨_, rfl⟩
        obtain ⟨D, hD⟩ : ∃ D : ByteArray, D = ⟨(partS l F E).toArray⟩ := ⟨_, rfl⟩
        have hlen := congrArg List.length HPP.out
        rw [List.length_append, partS_len l hEl] at hlen
        have hGs : G.size = P5.length := by rw [hG]; rfl
        have hJs : J.size = P0.length := by rw [hJ]; rfl
        have z5 : G.size ≤ 2000 := by omega
        have z6 : J.size ≤ 2000 := by omega
        have z7 : ¬ 9223372036854775807 < G.size + J.size := by omega
        have q1 : ((G ++ J).toList == D.toList) = true := str_eq (by rw [cat_toList, hG, hJ, hD]; simpa using HPP.out)
        have q2 : ((G ++ J).toList != D.toList) = false := by unfold bne; rw [q1]; rfl
        have q3 : (G ++ J).toList = D.toList := eq_of_beq q1
        have k5 := fun q => bytesArg_string (bytesArg.below HV5'.out (below_drewN' (w := y2) q))
        have k0 := fun q => bytesArg_string (bytesArg.below HV0.out (below_drewN' (w := y2) q))
        rw [← hG] at k5
        rw [← hJ] at k0
        have d1 : decide ((F : Int) < 0) = false := decide_eq_false (by omega)
        have d2 : decide ((E : Int) < (F : Int)) = false := decide_eq_false (by omega)
        have d2' : decide (E < F) = false := decide_eq_false (by omega)
        have d3 : decide ((l.length : Int) < (E : Int)) = false := decide_eq_false (by omega)
        have d3' : decide (l.length < E) = false := decide_eq_false (by omega)
        have HSy := Lib.hid (fun q => HS.out.below ((HB5.out.trans (HD2'.out.mono HB5.out.size)).trans ((below_drewN' (w := y2) q).mono (HB5.out.trans (HD2'.out.mono HB5.out.size)).size)))
        clear hG hJ hGs hJs hlen
        go_upto_region 19 with fail
        by_cases hcF : cap = F
        · subst hcF
          have hcv := fun q => (by rw [hD]; exact cut_string0 (W := y2.drewN q) (ao := ao) hFE hEl hc : (convert 22 9 (.slice ao (E - cap) 0)).run Tryz.prog (y2.drewN q) = .ok (.string D) (y2.drewN q))
          clear hD
          go_quiet (fail)
          have HEn := Lib.hid (HE2.out.trans ((below_drewN' nq).mono HE2.out.size))
          clear hcv k5 k0 c0 c1 c2 c3 c4 c5 c6 c7 c8
          go_wp2_with fail
          go_roundg (T.kids.length - (i + 1))
          case measure => omega
          case rel => exact ⟨i + 1, by omega, rfl, by go_num, HEn.out⟩
        · have hcv := fun q => (by rw [hD]; exact cut_string (W := y2.drewN q) (HSy.out q) hFE hEl hc hm : (convert 22 9 (.slice (ao.map fun x => x.add F) (E - F) (cap - F))).run Tryz.prog (y2.drewN q) = .ok (.string D) (y2.drewN q))
          clear hD
          go_quiet (fail)
          have HEn := Lib.hid (HE2.out.trans ((below_drewN' nq).mono HE2.out.size))
          clear hcv k5 k0 c0 c1 c2 c3 c4 c5 c6 c7 c8
          go_wp2_with fail
          go_roundg (T.kids.length - (i + 1))
          case measure => omega
          case rel => exact ⟨i + 1, by omega, rfl, by go_num, HEn.out⟩
      · obtain rfl : i = T.kids.length := by omega
        have hkn := kid_none (l := l) HK1.out n (by omega)
        have HPn : Hid (∀ (W : World) (a1 : Option Addr), Below w5.heap.size w5 W → SpF W ⟨[(T.kids.length : Int) + 1 + (n : Int)], 0, [], false, 0, 0⟩ a1 none 1 0 → Calls Tryz.prog 10 #[.slice ao l.length cap, .agg #[.int .i64 (T.kind : Int), .int .i64 (T.hd.1 : Int), .int .i64 (T.hd.2 : Int), .int .i64 (T.bd.1 : Int), .int .i64 (T.bd.2 : Int), .slice ka T.kids.length kc, .slice ca cn cc, .int .i64 (T.e.1 : Int), .int .i64 (T.e.2 : Int)], .agg #[.slice a1 1 1, .int .i64 0, .slice none 0 0, .bool false, .int .i64 0, .int .i64 0]] W fun e w' => ∃ uo uc, e = .returned (.slice uo 0 uc) ∧ Below W.heap.size W w') := fun W a1 hb h => by
          have hg := HG.out W ⟨[(T.kids.length : Int) + 1 + (n : Int)], 0, [], false, 0, 0⟩ a1 none 1 0 hb h
          rw [hkn] at hg
          refine hg.mono ?_
          rintro e w' ⟨u, he, ⟨uo, uc, rfl, _⟩, hb'⟩
          exact ⟨uo, uc, he, hb'⟩
        have m4 : IntKind.i64.wrap (n : Int) = (n : Int) := IntWalk.i64_in _ (by omega)
        clear hkn
        go_wp2_with fail
        with_reducible refine (HPn.out _ _ ?k5 ?k6).mono ?_
        case k5 => exact HBr.out.alloc HBr.out.size _
        case k6 => exact spF_one _ _ ((T.kids.length : Int) + 1 + (n : Int)) 0
        rintro e x4 ⟨uo4, uc4, rfl, hb4⟩
        have HBf : Hid (Below w.heap.size w x4) := HB5.out.trans (((HBr.out.alloc HBr.out.size _).trans (hb4.mono (HBr.out.alloc HBr.out.size _).size)).mono HB5.out.size)
        clear hb4
        go_wp2_with fail
        go_ret
        exact ⟨rfl, HBf.out⟩
  · have bk : ((T.kind : Int) == 1) = false := beq_no (by omega)
    have hop := one_plain (l := l) (t := T) hk1
    have HP1 : Hid (∀ (W : World) (a1 : Option Addr), Below w5.heap.size w5 W → SpF W ⟨[1], 0, [], false, 0, 0⟩ a1 none 1 0 → Calls Tryz.prog 10 #[.slice ao l.length cap, .agg #[.int .i64 (T.kind : Int), .int .i64 (T.hd.1 : Int), .int .i64 (T.hd.2 : Int), .int .i64 (T.bd.1 : Int), .int .i64 (T.bd.2 : Int), .slice ka T.kids.length kc, .slice ca cn cc, .int .i64 (T.e.1 : Int), .int .i64 (T.e.2 : Int)], .agg #[.slice a1 1 1, .int .i64 0, .slice none 0 0, .bool false, .int .i64 0, .int .i64 0]] W fun e w' => ∃ u, e = .returned u ∧ bytesArg w' u X ∧ Below W.heap.size W w') := fun W a1 hb h => by
      have hg := HG.out W ⟨[1], 0, [], false, 0, 0⟩ a1 none 1 0 hb h
      rw [hop.1, ← HXe.out] at hg
      exact hg
    have HP2 : Hid (∀ (W : World) (a1 : Option Addr), Below w5.heap.size w5 W → SpF W ⟨[2 + (n : Int)], 0, [], false, 0, 0⟩ a1 none 1 0 → Calls Tryz.prog 10 #[.slice ao l.length cap, .agg #[.int .i64 (T.kind : Int), .int .i64 (T.hd.1 : Int), .int .i64 (T.hd.2 : Int), .int .i64 (T.bd.1 : Int), .int .i64 (T.bd.2 : Int), .slice ka T.kids.length kc, .slice ca cn cc, .int .i64 (T.e.1 : Int), .int .i64 (T.e.2 : Int)], .agg #[.slice a1 1 1, .int .i64 0, .slice none 0 0, .bool false, .int .i64 0, .int .i64 0]] W fun e w' => ∃ uo uc, e = .returned (.slice uo 0 uc) ∧ Below W.heap.size W w') := fun W a1 hb h => by
      have hg := HG.out W ⟨[2 + (n : Int)], 0, [], false, 0, 0⟩ a1 none 1 0 hb h
      rw [hop.2 n hn] at hg
      refine hg.mono ?_
      rintro e w' ⟨u, he, ⟨uo, uc, rfl, _⟩, hb'⟩
      exact ⟨uo, uc, he, hb'⟩
    have m4 : IntKind.i64.wrap (n : Int) = (n : Int) := IntWalk.i64_in _ (by omega)
    have m5 : IntKind.i64.wrap (2 + (n : Int)) = 2 + (n : Int) := IntWalk.i64_in _ (by omega)
    have hd0 : Below x3.heap.size x3 x3.drew := (Below.refl _ _).drew
    have ha0 : Below x3.heap.size x3 (x3.alloc (.cells #[.int .i64 1] 3)).drew := ((Below.refl _ _).alloc (Nat.le_refl _) _).drew
    have hs0 := (spF_one x3 3 1 0).below ((Below.refl (x3.alloc (.cells #[.int .i64 1] 3)).heap.size _).drew)
    clear hop hk1
    go_upto_region 12 with fail
    go_region_held (fun W' : World => (convert 22 9 (.slice uo2 n2 uc2)).run Tryz.prog W' = .ok (.string C) W' ∧ W'.cell? ⟨R, 0, none⟩ = some (.int .i64 (T.kind : Int)) ∧ W'.cell? ⟨R, 1, none⟩ = some (.int .i64 (T.hd.1 : Int)) ∧ W'.cell? ⟨R, 2, none⟩ = some (.int .i64 (T.hd.2 : Int)) ∧ W'.cell? ⟨R, 3, none⟩ = some (.int .i64 (T.bd.1 : Int)) ∧ W'.cell? ⟨R, 4, none⟩ = some (.int .i64 (T.bd.2 : Int)) ∧ W'.cell? ⟨R, 5, none⟩ = some (.slice ka T.kids.length kc) ∧ W'.cell? ⟨R, 6, none⟩ = some (.slice ca cn cc) ∧ W'.cell? ⟨R, 7, none⟩ = some (.int .i64 (T.e.1 : Int)) ∧ W'.cell? ⟨R, 8, none⟩ = some (.int .i64 (T.e.2 : Int))) (first | exact HK3.out _ (by assumption) | exact HK3.out _ ha0 | exact HK3.out _ (hbk.alloc hbk.size _))
      (first | (go_simp; go_at_call 10; with_reducible refine (HP1.out _ _ ?_ ?_).mono ?_; exact (HC3.out.trans (ha0.mono HC3.out.size)); exact hs0; rintro e x4 ⟨u4, rfl, hu4, hb4⟩; have hbk := ha0.trans (hb4.mono ha0.size); have hcv4 := HCl.out _ _ hu4) | (go_simp; go_at_call 10; with_reducible refine (HP2.out _ _ ?_ ?_).mono ?_; exact (HC3.out.trans ((hbk.alloc hbk.size _).mono HC3.out.size)); exact spF_one _ _ (2 + (n : Int)) 0; rintro e x5 ⟨uo5, uc5, rfl, hb5⟩; have hbk5 := (hbk.alloc hbk.size (.cells #[.int .i64 (2 + (n : Int))] 3)).trans (hb5.mono (hbk.alloc hbk.size (.cells #[.int .i64 (2 + (n : Int))] 3)).size)))
    have HBf := Lib.hid (HB5.out.trans ((HC3.out.trans (hbk5.mono HC3.out.size)).mono HB5.out.size))
    clear hbk hbk5 hb4 hb5 hu4 hcv4 ha0 hd0 hs0
    go_wp2_with fail
    go_ret
    exact ⟨rfl, HBf.out⟩
end Go.Proofs.YtahmhakdpmcdoaaGreatDoor
