/- The laws of layer 17 (binary): BinaryWhole. -/
import Derived.Test.YteallnjbpikhhaaGreatDoorGbBnF
import Derived.Deep.RegionHeld
namespace Go.Proofs.YteallnjbpikhhaaGreatDoor
open Go Go.RowKit

set_option maxRecDepth 100000 in
set_option maxHeartbeats 4000000 in
theorem binaryWhole_any (v : Value) (l : List UInt8) (w : World) (hv : bytesArg w v l) (he : env w) (hls : lets w) :
    Calls Tryz.prog 4 #[v] w fun e w' => e = .returned (.bool true) ∧ Below w.heap.size w w' := by
  have HV := Lib.hid hv
  have HE := Lib.hid he
  have HLs := Lib.hid hls
  have HAw := Lib.hid (bawake_any w he hls)
  obtain ⟨ao, cap, rfl, hc, hm, hs⟩ := hv
  clear hs he hls hm hc
  by_cases hl : 1000 < l.length
  · have hd : decide ((1000 : Int) < (l.length : Int)) = true := decide_eq_true (by omega)
    go_enter Tryz.func4, Tryz.ntmps4
    go_wp2_with fail
    with_reducible refine HAw.out.mono ?_
    rintro e w1 ⟨rfl, hb1⟩
    have HB1 := Lib.hid hb1
    clear hb1
    go_wp2_with fail
    go_ret
    exact ⟨rfl, HB1.out⟩
  have hd : decide ((1000 : Int) < (l.length : Int)) = false := decide_eq_false (by omega)
  have hlb : l.length ≤ 1000 := by omega
  clear hl
  have hok := tree_okT l
  have hlow := tree_low l
  have hwh := bin_whole l
  have HPa := Lib.hid (fun W (hb : Below w.heap.size w W) => fparse_any (.slice ao l.length cap) l W (bytesArg.below HV.out hb) (by omega) (HE.out.below hb))
  obtain ⟨T, hT⟩ : ∃ T, T = treeS l := ⟨_, rfl⟩
  rw [← hT] at hok hlow hwh HPa
  have HOk := Lib.hid hok
  have HLo := Lib.hid hlow
  have HWh := Lib.hid hwh
  have hkids : T.kids.length ≤ 1000 := (low_lens hlow).1
  have hll : l.length ≤ 100000 := by omega
  have HLl := Lib.hid hll
  unfold ptV at HPa
  clear hT hok hlow hwh hll
  go_enter Tryz.func4, Tryz.ntmps4
  go_wp2_with fail
  with_reducible refine HAw.out.mono ?_
  rintro e w1 ⟨rfl, hb1⟩
  have HB1 := Lib.hid hb1
  clear hb1 HAw
  go_wp2_with fail
  with_reducible refine (HPa.out w1 HB1.out).mono ?_
  rintro e w5 ⟨ka, kc, ca, cn, cc, rfl, hta, hrow, hb5⟩
  have HB5 : Hid (Below w.heap.size w w5) := HB1.out.trans (hb5.mono HB1.out.size)
  have HTa : Hid (tAt w5 T (ptV T (.slice ka T.kids.length kc) (.slice ca cn cc))) := hta
  have HRow := Lib.hid hrow
  have HBg := Lib.hid (fun (W : World) (p : List Int) (a1 : Option Addr) (c1 : Nat) (hb : Below w5.heap.size w5 W) h hpl => bget_any (.slice ao l.length cap) l T (.slice ka T.kids.length kc) (.slice ca cn cc) p a1 c1 W (bytesArg.below HV.out (HB5.out.trans (hb.mono HB5.out.size))) HLl.out HOk.out HLo.out (HTa.out.below hb) h hpl (HLs.out.below (HB5.out.trans (hb.mono HB5.out.size))))
  have HG := Lib.hid (fun (W : World) (s : Spc) (a1 a2 : Option Addr) (c1 c2 : Nat) (hb : Below w5.heap.size w5 W) h => fget_any (.slice ao l.length cap) l T (.slice ka T.kids.length kc) (.slice ca cn cc) s a1 a2 c1 c2 W (bytesArg.below HV.out (HB5.out.trans (hb.mono HB5.out.size))) HLl.out HOk.out (HTa.out.below hb) h)
  have HW0 : Hid (∀ (W : World), Below w5.heap.size w5 W → Calls Tryz.prog 9 #[.slice ao l.length cap, .agg #[.int .i64 (T.kind : Int), .int .i64 (T.hd.1 : Int), .int .i64 (T.hd.2 : Int), .int .i64 (T.bd.1 : Int), .int .i64 (T.bd.2 : Int), .slice ka T.kids.length kc, .slice ca cn cc, .int .i64 (T.e.1 : Int), .int .i64 (T.e.2 : Int)], .slice none 0 0] W fun e w' => ∃ u, e = .returned (.tuple #[u, .int .i64 0]) ∧ bytesArg w' u l ∧ Below W.heap.size W w') := fun W hb => by
    have hg := HBg.out W [] none 0 hb (rowOf_emp W) (by decide)
    rw [HWh.out] at hg
    exact hg
  have HS0 : Hid (∀ (W : World), Below w5.heap.size w5 W → Calls Tryz.prog 11 #[.slice ao l.length cap, .agg #[.int .i64 (T.kind : Int), .int .i64 (T.hd.1 : Int), .int .i64 (T.hd.2 : Int), .int .i64 (T.bd.1 : Int), .int .i64 (T.bd.2 : Int), .slice ka T.kids.length kc, .slice ca cn cc, .int .i64 (T.e.1 : Int), .int .i64 (T.e.2 : Int)], .slice none 0 0] W fun e w' => e = .returned (.tuple #[.int .i64 (l.length : Int), .int .i64 0]) ∧ Below W.heap.size W w') := fun W hb => by
    have hg := bsize_any (.slice ao l.length cap) l T (.slice ka T.kids.length kc) (.slice ca cn cc) [] none 0 W (bytesArg.below HV.out (HB5.out.trans (hb.mono HB5.out.size))) HLl.out HOk.out HLo.out (HTa.out.below hb) (rowOf_emp W) (by decide) (HLs.out.below (HB5.out.trans (hb.mono HB5.out.size)))
    rw [HWh.out] at hg
    exact hg
  unfold bytesPost ptV at HG
  unfold bgetPost ptV at HBg
  clear hb5 hta hrow HPa hd
  go_upto_region 7 with fail
  have HX0 : Hid ((w5.alloc (.cells #[.int .i64 (T.kind : Int), .int .i64 (T.hd.1 : Int), .int .i64 (T.hd.2 : Int), .int .i64 (T.bd.1 : Int), .int .i64 (T.bd.2 : Int), .slice ka T.kids.length kc, .slice ca cn cc, .int .i64 (T.e.1 : Int), .int .i64 (T.e.2 : Int)] 32)).heap[w5.heap.size]? = some (ptO T (.slice ka T.kids.length kc) (.slice ca cn cc))) := heap_alloc_new w5 _
  have HC0 : Hid (Below w5.heap.size w5 (w5.alloc (.cells #[.int .i64 (T.kind : Int), .int .i64 (T.hd.1 : Int), .int .i64 (T.hd.2 : Int), .int .i64 (T.bd.1 : Int), .int .i64 (T.bd.2 : Int), .slice ka T.kids.length kc, .slice ca cn cc, .int .i64 (T.e.1 : Int), .int .i64 (T.e.2 : Int)] 32))) := (Below.refl _ _).alloc (Nat.le_refl _) _
  generalize (w5.alloc (.cells #[.int .i64 (T.kind : Int), .int .i64 (T.hd.1 : Int), .int .i64 (T.hd.2 : Int), .int .i64 (T.bd.1 : Int), .int .i64 (T.bd.2 : Int), .slice ka T.kids.length kc, .slice ca cn cc, .int .i64 (T.e.1 : Int), .int .i64 (T.e.2 : Int)] 32)) = x0 at HX0 HC0 ⊢
  obtain ⟨R, hR⟩ : ∃ R, R = w5.heap.size := ⟨_, rfl⟩
  rw [← hR] at HX0 ⊢
  clear hR
  obtain ⟨t0, t1, t2, t3, t4, t5, t6, t7, t8⟩ := part_cells HX0.out
  have hx0 : R < x0.heap.size := (Array.getElem?_eq_some_iff.1 HX0.out).1
  go_wp2_with fail
  with_reducible refine (HW0.out _ HC0.out).mono ?_
  rintro e x1 ⟨u1, rfl, hu, hb⟩
  have HU1 := Lib.hid hu
  have HX1 := Lib.hid ((hb.block _ hx0).trans HX0.out)
  have HC1 := Lib.hid (HC0.out.trans (hb.mono HC0.out.size))
  obtain ⟨uo1, uc1, rfl, _, _, _⟩ := HU1.out
  clear hu hb t0 t1 t2 t3 t4 t5 t6 t7 t8
  obtain ⟨t0, t1, t2, t3, t4, t5, t6, t7, t8⟩ := part_cells HX1.out
  have hx1 : R < x1.heap.size := (Array.getElem?_eq_some_iff.1 HX1.out).1
  go_wp2_with fail
  with_reducible refine (HS0.out _ HC1.out).mono ?_
  rintro e x2 ⟨rfl, hb⟩
  have HU2 := Lib.hid (bytesArg.below HU1.out hb)
  have HX2 := Lib.hid ((hb.block _ hx1).trans HX1.out)
  have HC2 := Lib.hid (HC1.out.trans (hb.mono HC1.out.size))
  clear hb t0 t1 t2 t3 t4 t5 t6 t7 t8
  obtain ⟨t0, t1, t2, t3, t4, t5, t6, t7, t8⟩ := part_cells HX2.out
  have hx2 : R < x2.heap.size := (Array.getElem?_eq_some_iff.1 HX2.out).1
  obtain ⟨S, hS⟩ : ∃ S : ByteArray, S = ⟨l.toArray⟩ := ⟨_, rfl⟩
  have k1 := bytesArg_string HU2.out
  have k2 := bytesArg_string (bytesArg.below HV.out (HB5.out.trans (HC2.out.mono HB5.out.size)))
  rw [← hS] at k1 k2
  have e1 : (S.toList == S.toList) = true := str_eq rfl
  have e2 : (S.toList != S.toList) = false := by unfold bne; rw [e1]; rfl
  clear hS HW0 HS0
  go_wp2_with fail
  clear k1 k2 e1 e2
  go_loopg [10] T.kids.length (fun g iv wr => ∃ i : Nat, i ≤ T.kids.length ∧ g = T.kids.length - i ∧ iv = .int .i64 (i : Int) ∧ Hid (Below x2.heap.size x2 wr))
  case atStart => exact ⟨0, Nat.zero_le _, rfl, rfl, Below.refl _ _⟩
  case round =>
    obtain ⟨i, hi, rfl, rfl, HB⟩ := hrel
    clear t0 t1 t2 t3 t4 t5 t6 t7 t8
    have HBr := Lib.hid (HC2.out.trans (HB.out.mono HC2.out.size))
    have hsz : R < wr.heap.size := Nat.lt_of_lt_of_le hx2 HB.out.size
    have HXr := Lib.hid ((HB.out.block R hx2).trans HX2.out)
    obtain ⟨t0, t1, t2, t3, t4, t5, t6, t7, t8⟩ := part_cells HXr.out
    by_cases hlt : i < T.kids.length
    · obtain ⟨hkc, hkm, hat⟩ := HRow.out.below HBr.out
      obtain ⟨g, ga, gn, gc, ga2, gn2, gc2, hka, hg, h9, _⟩ := hat i hlt
      unfold maxLen at hkm
      have hbm := fun (h1 : T.kind = 1) (h2 : T.kids[i].kind = 1) => bin_multi l T i h1 hlt (by omega) h2
      obtain ⟨y, hy⟩ : ∃ y, y = T.kids[i] := ⟨_, rfl⟩
      obtain ⟨m0, m1, m2, m3, m4, m5, m6, m7, m8⟩ := h9
      rw [← hy] at m0 m1 m2 m3 m4 m7 m8 hbm
      obtain ⟨P0, hP0⟩ : ∃ P, P = getL l T ⟨[(i : Int) + 1], 0, [], false, 0, 0⟩ := ⟨_, rfl⟩
      rw [← hP0] at hbm
      have HQ1 : Hid (T.kind = 1 → y.kind = 1 → ∀ (W : World) (a1 : Option Addr), Below w5.heap.size w5 W → rowOf W (.slice a1 1 1) [intV ((i : Int) + 1)] → Calls Tryz.prog 9 #[.slice ao l.length cap, .agg #[.int .i64 (T.kind : Int), .int .i64 (T.hd.1 : Int), .int .i64 (T.hd.2 : Int), .int .i64 (T.bd.1 : Int), .int .i64 (T.bd.2 : Int), .slice ka T.kids.length kc, .slice ca cn cc, .int .i64 (T.e.1 : Int), .int .i64 (T.e.2 : Int)], .slice a1 1 1] W fun e w' => ∃ u, e = .returned (.tuple #[u, .int .i64 0]) ∧ bytesArg w' u P0 ∧ Below W.heap.size W w') := fun h1 h2 W a1 hb h => by
        have hg := HBg.out W [(i : Int) + 1] a1 1 hb h (by simp)
        rw [hbm h1 h2] at hg
        exact hg
      have HQ0 : Hid (∀ (W : World) (a1 : Option Addr), Below w5.heap.size w5 W → SpF W ⟨[(i : Int) + 1], 0, [], false, 0, 0⟩ a1 none 1 0 → Calls Tryz.prog 10 #[.slice ao l.length cap, .agg #[.int .i64 (T.kind : Int), .int .i64 (T.hd.1 : Int), .int .i64 (T.hd.2 : Int), .int .i64 (T.bd.1 : Int), .int .i64 (T.bd.2 : Int), .slice ka T.kids.length kc, .slice ca cn cc, .int .i64 (T.e.1 : Int), .int .i64 (T.e.2 : Int)], .agg #[.slice a1 1 1, .int .i64 0, .slice none 0 0, .bool false, .int .i64 0, .int .i64 0]] W fun e w' => ∃ u, e = .returned u ∧ bytesArg w' u P0 ∧ Below W.heap.size W w') := fun W a1 hb h => by
        have hg := HG.out W ⟨[(i : Int) + 1], 0, [], false, 0, 0⟩ a1 none 1 0 hb h
        rw [← hP0] at hg
        exact hg
      have hil : (i : Int) < (T.kids.length : Int) := by omega
      have hw1 : IntKind.i64.wrap ((i : Int) + 1) = (i : Int) + 1 := IntWalk.i64_in _ (by omega)
      subst hka
      clear hy hat hbm hP0
      go_upto_region 15 with fail
      have HY0 : Hid ((wr.alloc (.cells #[.int .i64 (y.kind : Int), .int .i64 (y.hd.1 : Int), .int .i64 (y.hd.2 : Int), .int .i64 (y.bd.1 : Int), .int .i64 (y.bd.2 : Int), .slice ga gn gc, .slice ga2 gn2 gc2, .int .i64 (y.e.1 : Int), .int .i64 (y.e.2 : Int)] 32)).heap[wr.heap.size]? = some (partO (y.kind : Int) (y.hd.1 : Int) (y.hd.2 : Int) (y.bd.1 : Int) (y.bd.2 : Int) (.slice ga gn gc) (.slice ga2 gn2 gc2) (y.e.1 : Int) (y.e.2 : Int))) := heap_alloc_new wr _
      have hby0 : Below wr.heap.size wr (wr.alloc (.cells #[.int .i64 (y.kind : Int), .int .i64 (y.hd.1 : Int), .int .i64 (y.hd.2 : Int), .int .i64 (y.bd.1 : Int), .int .i64 (y.bd.2 : Int), .slice ga gn gc, .slice ga2 gn2 gc2, .int .i64 (y.e.1 : Int), .int .i64 (y.e.2 : Int)] 32)) := (Below.refl _ _).alloc (Nat.le_refl _) _
      generalize (wr.alloc (.cells #[.int .i64 (y.kind : Int), .int .i64 (y.hd.1 : Int), .int .i64 (y.hd.2 : Int), .int .i64 (y.bd.1 : Int), .int .i64 (y.bd.2 : Int), .slice ga gn gc, .slice ga2 gn2 gc2, .int .i64 (y.e.1 : Int), .int .i64 (y.e.2 : Int)] 32)) = y0 at HY0 hby0 ⊢
      have HD0 := Lib.hid (HBr.out.trans (hby0.mono HBr.out.size))
      have HE0 := Lib.hid (HB.out.trans (hby0.mono HB.out.size))
      have HZ0 := Lib.hid ((hby0.block R hsz).trans HXr.out)
      obtain ⟨Q, hQ⟩ : ∃ Q, Q = wr.heap.size := ⟨_, rfl⟩
      rw [← hQ] at HY0 ⊢
      have hR0 : R < y0.heap.size := (Array.getElem?_eq_some_iff.1 HZ0.out).1
      clear hby0 hQ m0 m1 m2 m3 m4 m5 m6 m7 m8 t0 t1 t2 t3 t4 t5 t6 t7 t8
      obtain ⟨t0, t1, t2, t3, t4, t5, t6, t7, t8⟩ := part_cells HZ0.out
      obtain ⟨c0, c1, c2, c3, c4, c5, c6, c7, c8⟩ := part_cells HY0.out
      by_cases hk1 : T.kind = 1
      · have bk : ((T.kind : Int) == 1) = true := beq_yes (by omega)
        have bk2 : ((T.kind : Int) != 1) = false := by unfold bne; rw [bk]; rfl
        have HK1 := Lib.hid hk1
        clear hk1
        by_cases hk2 : y.kind = 1
        · have ck : ((y.kind : Int) == 1) = true := beq_yes (by omega)
          have ck2 : ((y.kind : Int) != 1) = false := by unfold bne; rw [ck]; rfl
          have HK2 := Lib.hid hk2
          clear hk2
          go_wp2_with fail
          with_reducible refine (HQ1.out HK1.out HK2.out _ _ ?k1 ?k2).mono ?_
          case k1 => exact HD0.out.alloc HD0.out.size _
          case k2 => exact rowOf_one _ _ _
          rintro e y1 ⟨v1, rfl, hv1, hb⟩
          have hb01 : Below y0.heap.size y0 y1 := ((Below.refl _ _).alloc (Nat.le_refl _) _).trans (hb.mono (by simp))
          have HD1 := Lib.hid (HD0.out.trans (hb01.mono HD0.out.size))
          have HE1 := Lib.hid (HE0.out.trans (hb01.mono HE0.out.size))
          have HZ1 := Lib.hid ((hb01.block R hR0).trans HZ0.out)
          have HV1 := Lib.hid hv1
          have hR1 : R < y1.heap.size := (Array.getElem?_eq_some_iff.1 HZ1.out).1
          clear hb hb01 hv1 t0 t1 t2 t3 t4 t5 t6 t7 t8 c0 c1 c2 c3 c4 c5 c6 c7 c8
          obtain ⟨vo, vc, rfl, _, _, _⟩ := HV1.out
          obtain ⟨Y, hY⟩ : ∃ Y : ByteArray, Y = ⟨P0.toArray⟩ := ⟨_, rfl⟩
          have HYc : Hid (∀ W u, bytesArg W u P0 → (convert 22 9 u).run Tryz.prog W = .ok (.string Y) W) := fun W u h => by rw [hY]; exact bytesArg_string h
          clear hY
          have HK : Hid (∀ W' : World, Below y1.heap.size y1 W' → (convert 22 9 (.slice vo P0.length vc)).run Tryz.prog W' = .ok (.string Y) W' ∧ W'.cell? ⟨R, 0, none⟩ = some (.int .i64 (T.kind : Int)) ∧ W'.cell? ⟨R, 1, none⟩ = some (.int .i64 (T.hd.1 : Int)) ∧ W'.cell? ⟨R, 2, none⟩ = some (.int .i64 (T.hd.2 : Int)) ∧ W'.cell? ⟨R, 3, none⟩ = some (.int .i64 (T.bd.1 : Int)) ∧ W'.cell? ⟨R, 4, none⟩ = some (.int .i64 (T.bd.2 : Int)) ∧ W'.cell? ⟨R, 5, none⟩ = some (.slice (some ⟨g, 0, none⟩) T.kids.length kc) ∧ W'.cell? ⟨R, 6, none⟩ = some (.slice ca cn cc) ∧ W'.cell? ⟨R, 7, none⟩ = some (.int .i64 (T.e.1 : Int)) ∧ W'.cell? ⟨R, 8, none⟩ = some (.int .i64 (T.e.2 : Int))) := fun W' hb => by
            obtain ⟨t0, t1, t2, t3, t4, t5, t6, t7, t8⟩ := part_cells ((hb.block R hR1).trans HZ1.out)
            exact ⟨HYc.out _ _ (bytesArg.below HV1.out hb), t0, t1, t2, t3, t4, t5, t6, t7, t8⟩
          have q1 : (Y.toList == Y.toList) = true := str_eq rfl
          have q2 : (Y.toList != Y.toList) = false := by unfold bne; rw [q1]; rfl
          have ha0 : Below y1.heap.size y1 (y1.alloc (.cells #[.int .i64 ((i : Int) + 1)] 3)).drew := ((Below.refl _ _).alloc (Nat.le_refl _) _).drew
          have hd0 : Below y1.heap.size y1 y1.drew := (Below.refl _ _).drew
          have hs0 := (spF_one y1 3 ((i : Int) + 1) 0).below ((Below.refl (y1.alloc (.cells #[.int .i64 ((i : Int) + 1)] 3)).heap.size _).drew)
          obtain ⟨t0, t1, t2, t3, t4, t5, t6, t7, t8⟩ := part_cells HZ1.out
          go_upto_region 17 with fail
          go_region_held (fun W' : World => (convert 22 9 (.slice vo P0.length vc)).run Tryz.prog W' = .ok (.string Y) W' ∧ W'.cell? ⟨R, 0, none⟩ = some (.int .i64 (T.kind : Int)) ∧ W'.cell? ⟨R, 1, none⟩ = some (.int .i64 (T.hd.1 : Int)) ∧ W'.cell? ⟨R, 2, none⟩ = some (.int .i64 (T.hd.2 : Int)) ∧ W'.cell? ⟨R, 3, none⟩ = some (.int .i64 (T.bd.1 : Int)) ∧ W'.cell? ⟨R, 4, none⟩ = some (.int .i64 (T.bd.2 : Int)) ∧ W'.cell? ⟨R, 5, none⟩ = some (.slice (some ⟨g, 0, none⟩) T.kids.length kc) ∧ W'.cell? ⟨R, 6, none⟩ = some (.slice ca cn cc) ∧ W'.cell? ⟨R, 7, none⟩ = some (.int .i64 (T.e.1 : Int)) ∧ W'.cell? ⟨R, 8, none⟩ = some (.int .i64 (T.e.2 : Int))) (first | exact HK.out _ (by assumption) | exact HK.out _ ha0) (first | (go_simp; go_at_call 10; with_reducible refine (HQ0.out _ _ ?_ ?_).mono ?_; exact (HD1.out.trans (ha0.mono HD1.out.size)); exact hs0; rintro e y2 ⟨u2, rfl, hu2, hb2⟩; have hbk := ha0.trans (hb2.mono ha0.size); have hcv2 := HYc.out _ _ hu2))
          have HBn := Lib.hid (HE1.out.trans (hbk.mono HE1.out.size))
          clear hu2 hb2 hcv2 hbk ha0 hd0 hs0 HK t0 t1 t2 t3 t4 t5 t6 t7 t8
          go_wp2_with fail
          go_roundg (T.kids.length - (i + 1))
          case measure => omega
          case rel => exact ⟨i + 1, by omega, rfl, by go_num, HBn.out⟩
        · have ck : ((y.kind : Int) == 1) = false := beq_no (by omega)
          have ck2 : ((y.kind : Int) != 1) = true := by unfold bne; rw [ck]; rfl
          clear hk2
          go_wp2_with fail
          go_roundg (T.kids.length - (i + 1))
          case measure => omega
          case rel => exact ⟨i + 1, by omega, rfl, by go_num, HE0.out⟩
      · have bk : ((T.kind : Int) == 1) = false := beq_no (by omega)
        have bk2 : ((T.kind : Int) != 1) = true := by unfold bne; rw [bk]; rfl
        clear hk1
        go_wp2_with fail
        go_roundg (T.kids.length - (i + 1))
        case measure => omega
        case rel => exact ⟨i + 1, by omega, rfl, by go_num, HE0.out⟩
    · obtain rfl : i = T.kids.length := by omega
      go_wp2_with fail
      go_ret
      exact ⟨rfl, HB5.out.trans (HBr.out.mono HB5.out.size)⟩
end Go.Proofs.YteallnjbpikhhaaGreatDoor
