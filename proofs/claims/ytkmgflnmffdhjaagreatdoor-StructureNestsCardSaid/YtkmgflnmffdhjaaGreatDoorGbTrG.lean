/- Contracts of package tree: entity. -/
import Derived.Test.YtkmgflnmffdhjaaGreatDoorGbStI
import Derived.Deep.RegionHeldLaw
import Derived.Test.YtkmgflnmffdhjaaGreatDoorGbAdT
import Derived.Deep.AppendLies
namespace Go.Proofs.YtkmgflnmffdhjaaGreatDoor
open Go Go.RowKit

set_option maxRecDepth 100000 in
set_option maxHeartbeats 8000000 in
theorem entity_step (M : Nat) (v : Value) (l : List UInt8) (w0 : World) (he : env w0) (hv : bytesArg w0 v l) (hbig : l.length ≤ 100000) (hM0 : w0.heap.size ≤ M) (d : Nat) (hd : d ≤ 32)
    (ih : ∀ d', d = d' + 1 → ∀ (s : Sp) (g : Bool) (c : Nat) (w : World), s.1 ≤ s.2 → s.2 ≤ l.length → c ≤ 1000 → Below w0.heap.size w0 w → Mk w M v c →
      Calls Tryz.prog 12 #[.pointer (some ⟨M, 0, none⟩), .agg #[.int .i64 (s.1 : Int), .int .i64 (s.2 : Int)], .int .i64 ((32 - d' : Nat) : Int), .bool g] w (entPost M v (entS l d' s g c) w))
    (s : Sp) (g : Bool) (c : Nat) (w : World) (hs1 : s.1 ≤ s.2) (hs2 : s.2 ≤ l.length) (hc : c ≤ 1000) (hw : Below w0.heap.size w0 w) (hm : Mk w M v c) :
    Calls Tryz.prog 12 #[.pointer (some ⟨M, 0, none⟩), .agg #[.int .i64 (s.1 : Int), .int .i64 (s.2 : Int)], .int .i64 ((32 - d : Nat) : Int), .bool g] w (entPost M v (entS l d s g c) w) := by
  obtain ⟨f, t⟩ := s
  simp only at hs1 hs2 ⊢
  have hhd := hdOf_le l hs1 hs2
  have hfc := fsOf_short l hs1 hs2 (by omega)
  have HOf := Lib.hid (fun W (hb : Below w0.heap.size w0 W) => of_walk v l f t W (bytesArg.below hv hb) hs1 hs2 (by omega))
  unfold OfPost at HOf
  have hfs : fieldsL l ((linesS l f t).take (eI (linesS l f t))) = fsOf l f t := rfl
  have hhb : behindN (linesS l f t) t = hdOf l f t := rfl
  rw [hfs, hhb] at HOf
  obtain ⟨fs, hfd⟩ : ∃ fs, fs = fsOf l f t := ⟨_, rfl⟩
  obtain ⟨h, hhdd⟩ : ∃ h, h = hdOf l f t := ⟨_, rfl⟩
  rw [← hfd, ← hhdd] at HOf
  rw [← hhdd] at hhd
  rw [← hfd] at hfc
  have HMk := Lib.hid hm
  have HW := Lib.hid hw
  have HE := Lib.hid he
  have HV := Lib.hid hv
  have hMl : M < w.heap.size := hm.lt
  obtain ⟨m0, m1, m2⟩ := hm
  obtain ⟨X, hX⟩ : ∃ X, X = (w.alloc (.cells #[.int .i64 (f : Int), .int .i64 (t : Int)] 25)).alloc (partO 0 0 0 0 0 (.slice none 0 0) (.slice none 0 0) 0 0) := ⟨_, rfl⟩
  have HBX : Hid (Below w.heap.size w X) := by rw [hX]; exact ((Below.refl _ _).alloc (Nat.le_refl _) _).alloc (by simp) _
  have hzX : X.heap.size = w.heap.size + 2 := by rw [hX]; simp
  have O5 : Hid (X.heap[w.heap.size]? = some (.cells #[.int .i64 (f : Int), .int .i64 (t : Int)] 25 (0, 0))) := by rw [hX]; exact heap_alloc2_old _ _ _
  have O8 : Hid (X.heap[w.heap.size + 1]? = some (partO 0 0 0 0 0 (.slice none 0 0) (.slice none 0 0) 0 0)) := by rw [hX]; exact heap_alloc2_new _ _ _
  have HzX := Lib.hid hzX
  unfold partO at hX
  have HH := Lib.hid hhdd
  have HF := Lib.hid hfd
  have HZh := Lib.hid hhd
  obtain ⟨D, hD⟩ : ∃ D : Nat, D = 32 - d := ⟨_, rfl⟩
  rw [← hD]
  have HD := Lib.hid hD
  have hDl : D ≤ 32 := by omega
  obtain ⟨r, hr⟩ : ∃ r, r = entS l d (f, t) g c := ⟨_, rfl⟩
  rw [← hr]
  have HRr := Lib.hid hr
  clear hfs hhb hzX hw he hv hhdd hfd hD hr
  go_enter Tryz.func12, Tryz.ntmps12
  go_upto_region 1 with fail
  rw [← hX]
  clear hX m0 m1 m2
  have HWX : Hid (Below w0.heap.size w0 X) := HW.out.trans (HBX.out.mono HW.out.size)
  have HMX : Hid (Mk X M v c) := HMk.out.below HBX.out
  have hMX : M < X.heap.size := HMX.out.lt
  have hd0 : Below X.heap.size X X.drew := (Below.refl _ _).drew
  have HKp : Hid (∀ W, Below X.heap.size X W → W.cell? ⟨M, 0, none⟩ = some v ∧ W.cell? ⟨w.heap.size, 0, none⟩ = some (.int .i64 (f : Int)) ∧ W.cell? ⟨w.heap.size, 1, none⟩ = some (.int .i64 (t : Int))) := fun W hb => by
    have o5 := (hb.block w.heap.size (by have := HzX.out; omega)).trans O5.out
    exact ⟨(hb.cell (p := ⟨M, 0, none⟩) hMX).trans HMX.out.c0, by simp [World.cell?, o5], by simp [World.cell?, o5]⟩
  go_region_held3 (fun W' => W'.cell? ⟨M, 0, none⟩ = some v ∧ W'.cell? ⟨w.heap.size, 0, none⟩ = some (.int .i64 (f : Int)) ∧ W'.cell? ⟨w.heap.size, 1, none⟩ = some (.int .i64 (t : Int))) (exact HKp.out _ (by assumption)) (first | (go_simp; go_at_call 21; with_reducible refine (HOf.out _ (HWX.out.drew)).mono ?_; rintro e w2 ⟨u, rfl, hown, hb2⟩; have hbk := hd0.trans (hb2.mono hd0.size)))
  have HRF := Lib.hid (rowF_owned hown)
  have hz2 : w.heap.size + 2 ≤ w2.heap.size := by have := hb2.size; have := HzX.out; simp at *; omega
  have P8 := Lib.hid ((hbk.block (w.heap.size + 1) (by have := HzX.out; omega)).trans O8.out)
  have P5 := Lib.hid ((hbk.block w.heap.size (by have := HzX.out; omega)).trans O5.out)
  have HB2 : Hid (Below w.heap.size w w2) := HBX.out.trans (hbk.mono HBX.out.size)
  have HW2 : Hid (Below w0.heap.size w0 w2) := HW.out.trans (HB2.out.mono HW.out.size)
  have HM2 : Hid (Mk w2 M v c) := HMk.out.below HB2.out
  have q0 : w2.cell? ⟨w.heap.size, 0, none⟩ = some (.int .i64 (f : Int)) := by simp [World.cell?, P5.out]
  have q1 : w2.cell? ⟨w.heap.size, 1, none⟩ = some (.int .i64 (t : Int)) := by simp [World.cell?, P5.out]
  clear hb2 hbk hown HKp hd0 O5 O8 HBX HWX HMX HzX hMX HOf HW X
  go_upto_region 3 with fail
  obtain ⟨X3, hX3⟩ : ∃ X3, X3 = w2.alloc (partO 0 f h h t (.slice none 0 0) (.slice none 0 0) 0 0) := ⟨_, rfl⟩
  have O11 : Hid (X3.heap[w2.heap.size]? = some (partO 0 f h h t (.slice none 0 0) (.slice none 0 0) 0 0)) := by rw [hX3]; exact heap_alloc_new w2 _
  have hzX3 : X3.heap.size = w2.heap.size + 1 := by rw [hX3]; simp
  have HB23 : Hid (Below w2.heap.size w2 X3) := by rw [hX3]; exact (Below.refl _ _).alloc (Nat.le_refl _) _
  unfold partO at hX3
  rw [← hX3]
  have HzX3 := Lib.hid hzX3
  clear hX3 hzX3 q0 q1
  have HB3 : Hid (Below w.heap.size w X3) := HB2.out.trans (HB23.out.mono HB2.out.size)
  have HW3 : Hid (Below w0.heap.size w0 X3) := HW2.out.trans (HB23.out.mono HW2.out.size)
  have HM3 : Hid (Mk X3 M v c) := HM2.out.below HB23.out
  have P83 := Lib.hid ((HB23.out.block (w.heap.size + 1) (by omega)).trans P8.out)
  have HRF3 := Lib.hid (HRF.out.below HB23.out)
  clear HB23 HM2 HW2 P8 P5 HRF HB2
  obtain ⟨l0, l1, l2, l3, l4, l5, l6, l7, l8⟩ := part_cells O11.out
  obtain ⟨c0, c1, c2, c3, c4, c5, c6, c7, c8⟩ := part_cells P83.out
  obtain ⟨f0, f1, f2, f3, f4, f5, f6, f7, f8⟩ := part_frozen P83.out
  rcases Nat.eq_zero_or_pos d with hd0 | hd0
  · subst hd0
    have hDb : ((D : Int) == 32) = true := beq_yes (by have := HD.out; omega)
    have hDi : (D : Int) = 32 := by have := HD.out; omega
    have HR0 : Hid (r = (leafT f h t, c)) := by unfold Hid; rw [HRr.out, HH.out]; rfl
    go_wp2_with fail
    (try simp only [Exit.inBlock, Exit.then])
    refine bodyPost_ret (results_cell_row (P := Tryz.prog) Tryz.results12 _ _ (w.heap.size + 1) 29 _ (0, 0) _ rfl (row_set9 P83.out) Tryz.underlying29 rfl (by kernel_rfl)) rfl ?_
    rw [HR0.out]
    exact leaf_end f h t (by omega) (by omega) HB3.out HM3.out
  · obtain ⟨d', rfl⟩ : ∃ d', d = d' + 1 := ⟨d - 1, by omega⟩
    have hDb : ((D : Int) == 32) = false := beq_no (by have := HD.out; omega)
    have hDi : ¬ (D : Int) = 32 := by have := HD.out; omega
    have hTy := typeOf_any M v u l fs g X3 HM3.out.c0 (bytesArg.below HV.out HW3.out) hbig HRF3.out hfc (HE.out.below HW3.out)
    obtain ⟨k, hk⟩ : ∃ k, k = typeS l fs g := ⟨_, rfl⟩
    have hks : small1 k.params := by rw [hk]; exact typeS_short l fs g (by omega)
    rw [← hk] at hTy
    have HTy := Lib.hid hTy
    have HK := Lib.hid hk
    clear hTy hk
    have m0 := HM3.out.c0
    go_upto_region 5 with fail
    clear l0 l1 l2 l3 l4 l5 l6 l7 l8 c0 c1 c2 c3 c4 c5 c6 c7 c8 f0 f1 f2 f3 f4 f5 f6 f7 f8 m0
    go_wp2_with fail
    with_reducible refine HTy.out.mono ?_
    rintro e w4 ⟨⟨kv, rfl, hkv⟩, hb4⟩
    have HKv := Lib.hid hkv
    obtain ⟨ka, kc, rfl, hprm⟩ := hkv
    have HB4 : Hid (Below w.heap.size w w4) := HB3.out.trans (hb4.mono HB3.out.size)
    have HW4 : Hid (Below w0.heap.size w0 w4) := HW3.out.trans (hb4.mono HW3.out.size)
    have HM4 : Hid (Mk w4 M v c) := HM3.out.below hb4
    have P84 := Lib.hid ((hb4.block (w.heap.size + 1) (by have := HzX3.out; omega)).trans P83.out)
    have P114 := Lib.hid ((hb4.block w2.heap.size (by have := HzX3.out; omega)).trans O11.out)
    have HRF4 := Lib.hid (HRF3.out.below hb4)
    have hz4 : w2.heap.size + 1 ≤ w4.heap.size := by have := hb4.size; have := HzX3.out; omega
    clear hb4 HTy HB3 HW3 HM3 P83 O11 HRF3 HzX3 hprm X3
    go_upto_region 6 with fail
    obtain ⟨X5, hX5⟩ : ∃ X5, X5 = w4.alloc (.cells #[.string ⟨k.type.toArray⟩, .string ⟨k.sub.toArray⟩, .slice ka k.params.length kc] 60) := ⟨_, rfl⟩
    have O12 : Hid (X5.heap[w4.heap.size]? = some (.cells #[.string ⟨k.type.toArray⟩, .string ⟨k.sub.toArray⟩, .slice ka k.params.length kc] 60 (0, 0))) := by rw [hX5]; exact heap_alloc_new w4 _
    have hzX5 : X5.heap.size = w4.heap.size + 1 := by rw [hX5]; simp
    have HB45 : Hid (Below w4.heap.size w4 X5) := by rw [hX5]; exact (Below.refl _ _).alloc (Nat.le_refl _) _
    rw [← hX5]
    have HzX5 := Lib.hid hzX5
    clear hX5 hzX5
    have HB5 : Hid (Below w.heap.size w X5) := HB4.out.trans (HB45.out.mono HB4.out.size)
    have HW5 : Hid (Below w0.heap.size w0 X5) := HW4.out.trans (HB45.out.mono HW4.out.size)
    have HM5 : Hid (Mk X5 M v c) := HM4.out.below HB45.out
    have P85 := Lib.hid ((HB45.out.block (w.heap.size + 1) (by omega)).trans P84.out)
    have P115 := Lib.hid ((HB45.out.block w2.heap.size (by omega)).trans P114.out)
    have HRF5 := Lib.hid (HRF4.out.below HB45.out)
    have HKv5 := Lib.hid (HKv.out.below HB45.out)
    clear HB45 HM4 HW4 P84 P114 HRF4 HB4 HKv
    have HPt := Lib.hid (parted_any M v u _ l fs k f h t X5 HM5.out.c0 (bytesArg.below HV.out HW5.out) hbig HRF5.out hfc HKv5.out hks HZh.out.2 hs2)
    obtain ⟨p, hp⟩ : ∃ p, p = pdS l fs h t k := ⟨_, rfl⟩
    have HPin : Hid (∀ s ∈ p.kids, s.1 ≤ s.2 ∧ s.2 ≤ l.length) := fun s hs => by
      rw [hp] at hs
      have := pdS_in l fs HZh.out.2 hs2 k s hs
      omega
    have HPk : Hid (kidsP p.kind (h, t) p.cuts p.e = p.kids) := by
      unfold Hid kidsP
      rw [hp]
      exact (pdS_kids l fs h t k).symm
    have hpc : p.cuts.length ≤ 1000000 := by
      rw [hp]
      have := pdS_cuts l fs (h := h) hs2 k
      omega
    rw [← hp] at HPt
    have HP := Lib.hid hp
    clear hp
    unfold pdPost at HPt
    have hpv : partV 0 (f, h) (h, t) (.slice none 0 0) (.slice none 0 0) (0, 0) = .agg #[.int .i64 0, .int .i64 (f : Int), .int .i64 (h : Int), .int .i64 (h : Int), .int .i64 (t : Int), .slice none 0 0, .slice none 0 0, .int .i64 0, .int .i64 0] := rfl
    rw [hpv] at HPt
    clear hpv
    dsimp only [partV] at HPt
    obtain ⟨l0, l1, l2, l3, l4, l5, l6, l7, l8⟩ := part_cells P115.out
    have y0 : X5.cell? ⟨w4.heap.size, 0, none⟩ = some (.string ⟨k.type.toArray⟩) := by simp [World.cell?, O12.out]
    have y1 : X5.cell? ⟨w4.heap.size, 1, none⟩ = some (.string ⟨k.sub.toArray⟩) := by simp [World.cell?, O12.out]
    have y2 : X5.cell? ⟨w4.heap.size, 2, none⟩ = some (.slice ka k.params.length kc) := by simp [World.cell?, O12.out]
    go_wp2_with fail
    with_reducible refine HPt.out.mono ?_
    rintro e w6 ⟨ca, cn, cc, rfl, hcut, hb6⟩
    have HB6 : Hid (Below w.heap.size w w6) := HB5.out.trans (hb6.mono HB5.out.size)
    have HW6 : Hid (Below w0.heap.size w0 w6) := HW5.out.trans (hb6.mono HW5.out.size)
    have HM6 : Hid (Mk w6 M v c) := HM5.out.below hb6
    have P86 := Lib.hid ((hb6.block (w.heap.size + 1) (by have := HzX5.out; omega)).trans P85.out)
    have P116 := Lib.hid ((hb6.block w2.heap.size (by have := HzX5.out; omega)).trans P115.out)
    have P126 := Lib.hid ((hb6.block w4.heap.size (by have := HzX5.out; omega)).trans O12.out)
    have HKv6 := Lib.hid (HKv5.out.below hb6)
    have HCl : Hid (∀ q, (Value.slice ca cn cc).ownBlock = some q → w4.heap.size + 1 ≤ q ∧ q < w6.heap.size) := fun q hq => by
      have h1 := hcut.lt q hq
      have h2 := HzX5.out
      omega
    have HCu := Lib.hid (own_base2 hcut HB5.out.size)
    have hz6 : w4.heap.size + 1 ≤ w6.heap.size := by have := hb6.size; have := HzX5.out; omega
    clear hb6 HPt HB5 HW5 HM5 P85 P115 HRF5 HzX5 hcut O12 HKv5 l0 l1 l2 l3 l4 l5 l6 l7 l8 y0 y1 y2 X5
    go_upto_region 7 with fail
    obtain ⟨X7, hX7⟩ : ∃ X7, X7 = w6.alloc (partO p.kind f h h t (.slice none 0 0) (.slice ca cn cc) p.e.1 p.e.2) := ⟨_, rfl⟩
    have O13 : Hid (X7.heap[w6.heap.size]? = some (partO p.kind f h h t (.slice none 0 0) (.slice ca cn cc) p.e.1 p.e.2)) := by rw [hX7]; exact heap_alloc_new w6 _
    have hzX7 : X7.heap.size = w6.heap.size + 1 := by rw [hX7]; simp
    have HB67 : Hid (Below w6.heap.size w6 X7) := by rw [hX7]; exact (Below.refl _ _).alloc (Nat.le_refl _) _
    unfold partO at hX7
    rw [← hX7]
    have HzX7 := Lib.hid hzX7
    clear hX7 hzX7
    have HCu7 := Lib.hid (ownsRow_below HCu.out HB67.out)
    have HKo := Lib.hid (kidsOf_any p.kind f h h t p.e.1 p.e.2 none 0 0 (.slice ca cn cc) p.cuts X7 (rowSp_owned HCu7.out) hpc)
    have hpe : ((p.e.1, p.e.2) : Sp) = p.e := rfl
    rw [hpe, HPk.out] at HKo
    have hpl : p.kids.length ≤ 1000001 := by
      rw [← HPk.out]
      unfold kidsP
      split
      · simp
      · rw [kidsS_len]; omega
    unfold spansPost at HKo
    obtain ⟨a0, a1, a2, a3, a4, a5, a6, a7, a8⟩ := part_cells O13.out
    clear hpe
    go_wp2_with fail
    with_reducible refine HKo.out.mono ?_
    rintro e w8 ⟨ku, rfl, hku, hb8⟩
    have hB68 : Below w6.heap.size w6 w8 := HB67.out.trans (hb8.mono HB67.out.size)
    have HB8 : Hid (Below w.heap.size w w8) := HB6.out.trans (hB68.mono HB6.out.size)
    have HW8 : Hid (Below w0.heap.size w0 w8) := HW6.out.trans (hB68.mono HW6.out.size)
    have HM8 : Hid (Mk w8 M v c) := HM6.out.below hB68
    have P88 := Lib.hid ((hB68.block (w.heap.size + 1) (by omega)).trans P86.out)
    have P118 := Lib.hid ((hB68.block w2.heap.size (by omega)).trans P116.out)
    have P128 := Lib.hid ((hB68.block w4.heap.size (by omega)).trans P126.out)
    have P138 := Lib.hid ((hb8.block w6.heap.size (by have := HzX7.out; omega)).trans O13.out)
    have HKv8 := Lib.hid (HKv6.out.below hB68)
    have HCu8 := Lib.hid (ownsRow_below HCu.out hB68)
    have hz8 : w6.heap.size + 1 ≤ w8.heap.size := by have := hb8.size; have := HzX7.out; omega
    have HRk := Lib.hid (rowSp_owned hku)
    have HKl : Hid (∀ q, ku.ownBlock = some q → w6.heap.size + 1 ≤ q ∧ q < w8.heap.size) := fun q hq => by
      have h1 := hku.lt q hq
      have h2 := HzX7.out
      omega
    clear hku hb8 hB68 HKo HB6 HW6 HM6 P86 P116 P126 HKv6 HCu HCu7 HzX7 HB67 O13 a0 a1 a2 a3 a4 a5 a6 a7 a8 X7
    have HLf : Hid ((p.kids = [] ∨ 1000 < c + p.kids.length) → r = (leafT f h t, c)) := fun hh => by
      rw [HRr.out]
      have e1 := entS_leaf (l := l) (d := d') (s := (f, t)) (g := g) (c := c)
      simp only at e1
      rw [← HF.out, ← HH.out, ← HK.out, ← HP.out] at e1
      exact e1 hh
    have HKd : Hid (¬ (p.kids = [] ∨ 1000 < c + p.kids.length) → r = (.mk p.kind (f, h) (h, t) (kidsRun (fun s' c' => entS l d' s' (digS k) c') p.kids (c + p.kids.length)).1 p.cuts p.e, (kidsRun (fun s' c' => entS l d' s' (digS k) c') p.kids (c + p.kids.length)).2)) := fun hh => by
      rw [HRr.out]
      have e1 := entS_kids (l := l) (d := d') (s := (f, t)) (g := g) (c := c) (k := k) (p := p) (by simp only; rw [← HF.out]; exact HK.out) (by simp only; rw [← HF.out, ← HH.out]; exact HP.out) hh
      simp only at e1
      rw [← HH.out] at e1
      exact e1
    obtain ⟨ko, kcap, rfl, hkc, hkm, hkcell⟩ := HRk.out.at
    have HKc := Lib.hid hkcell
    clear hkcell HRk
    have hm0 := HM8.out.c0
    have hm1 := HM8.out.c1
    have hm2 := HM8.out.f1
    by_cases hke : p.kids = []
    · have hke0 : p.kids.length = 0 := by rw [hke]; rfl
      have hkb : ((p.kids.length : Int) == 0) = true := beq_yes (by omega)
      have hkd : (p.kids.length : Int) = 0 := by omega
      have hkl : p.kids.isEmpty = true := by rw [hke]; rfl
      have HR0 : Hid (r = (leafT f h t, c)) := HLf.out (.inl hke)
      obtain ⟨l0, l1, l2, l3, l4, l5, l6, l7, l8⟩ := part_cells P118.out
      obtain ⟨c0, c1, c2, c3, c4, c5, c6, c7, c8⟩ := part_cells P88.out
      obtain ⟨f0, f1, f2, f3, f4, f5, f6, f7, f8⟩ := part_frozen P88.out
      go_wp2_with fail
      (try simp only [Exit.inBlock, Exit.then])
      refine bodyPost_ret (results_cell_row (P := Tryz.prog) Tryz.results12 _ _ (w.heap.size + 1) 29 _ (0, 0) _ rfl (row_set9 P88.out) Tryz.underlying29 rfl (by kernel_rfl)) rfl ?_
      rw [HR0.out]
      exact leaf_end f h t (by omega) (by omega) HB8.out HM8.out
    · have hkn : 0 < p.kids.length := by
        rcases Nat.eq_zero_or_pos p.kids.length with h0 | h0
        · exact absurd (List.eq_nil_of_length_eq_zero h0) hke
        · exact h0
      have hkb : ((p.kids.length : Int) == 0) = false := beq_no (by omega)
      have hkd : ¬ (p.kids.length : Int) = 0 := by omega
      by_cases hbg : 1000 < c + p.kids.length
      · have hbb : decide ((1000 : Int) < (c : Int) + (p.kids.length : Int)) = true := decide_eq_true (by omega)
        have hbi : (1000 : Int) < (c : Int) + (p.kids.length : Int) := by omega
        have HR0 : Hid (r = (leafT f h t, c)) := HLf.out (.inr hbg)
        obtain ⟨l0, l1, l2, l3, l4, l5, l6, l7, l8⟩ := part_cells P118.out
        obtain ⟨c0, c1, c2, c3, c4, c5, c6, c7, c8⟩ := part_cells P88.out
        obtain ⟨f0, f1, f2, f3, f4, f5, f6, f7, f8⟩ := part_frozen P88.out
        go_wp2_with fail
        (try simp only [Exit.inBlock, Exit.then])
        refine bodyPost_ret (results_cell_row (P := Tryz.prog) Tryz.results12 _ _ (w.heap.size + 1) 29 _ (0, 0) _ rfl (row_set9 P88.out) Tryz.underlying29 rfl (by kernel_rfl)) rfl ?_
        rw [HR0.out]
        exact leaf_end f h t (by omega) (by omega) HB8.out HM8.out
      · have hbb : decide ((1000 : Int) < (c : Int) + (p.kids.length : Int)) = false := decide_eq_false (by omega)
        have hbi : ¬ (1000 : Int) < (c : Int) + (p.kids.length : Int) := by omega
        have HR1 := Lib.hid (HKd.out (fun hh => hh.elim hke hbg))
        clear HLf HKd
        obtain ⟨i0, hi0, hz0, hz1, hz2⟩ := info_parts Tryz.infoPt
        have HI0 := Lib.hid hi0
        have HZ0 := Lib.hid hz0
        have HZ1 := Lib.hid hz1
        have HZ2 := Lib.hid hz2
        clear hi0 hz0 hz1 hz2
        obtain ⟨n, hn⟩ : ∃ n, n = p.kids.length := ⟨_, rfl⟩
        rw [← hn] at hkc hkn hkb hkd hbg hbb hbi hpl HR1 ⊢
        obtain ⟨c1, hc1⟩ : ∃ c1 : Nat, c1 = c + n := ⟨_, rfl⟩
        have hc1e : (c : Int) + (n : Int) = (c1 : Int) := by omega
        have hc1l : c1 ≤ 1000 := by omega
        rw [← hc1] at HR1
        have HN := Lib.hid hn
        clear hc1 hn
        go_upto_region 11 with fail
        obtain ⟨X9, hX9⟩ : ∃ X9, X9 = w8.setCell ⟨M, 1, none⟩ (.int .i64 (c1 : Int)) := ⟨_, rfl⟩
        have hz9 : X9.heap.size = w8.heap.size := by rw [hX9, size_set]
        have hGr9 : Gr M w X9 := by rw [hX9]; exact (below_gr HB8.out).set 1 _
        have hW9 : Below w0.heap.size w0 X9 := by rw [hX9]; exact HW8.out.setCell (p := ⟨M, 1, none⟩) hM0 _
        have hM9 : Mk X9 M v c1 := by rw [hX9]; exact HM8.out.set c1
        have b9 : ∀ q, q ≠ M → X9.heap[q]? = w8.heap[q]? := fun q hq => by rw [hX9]; exact Below.heap_setCell _ _ _ _ hq
        rw [← hX9]
        have P89 := Lib.hid ((b9 (w.heap.size + 1) (by omega)).trans P88.out)
        have P129 := Lib.hid ((b9 w4.heap.size (by omega)).trans P128.out)
        have P139 := Lib.hid ((b9 w6.heap.size (by omega)).trans P138.out)
        have B9 := Lib.hid b9
        have HGr9 := Lib.hid hGr9
        have HW9 := Lib.hid hW9
        have HM9 := Lib.hid hM9
        have Hz9 := Lib.hid hz9
        have hz9l : w6.heap.size + 1 ≤ X9.heap.size := by omega
        clear hX9 hz9 hGr9 hW9 hM9 b9 hm0 hm1 hm2 P88 P118 P128 P138
        go_wp2_with fail
        obtain ⟨F, hF9⟩ : ∃ F : Sp → Nat → Tr × Nat, F = (fun s' c' => entS l d' s' (digS k) c') := ⟨_, rfl⟩
        rw [← hF9] at HR1
        have HFF := Lib.hid hF9
        clear hF9
        go_loopg [74] n (fun gg x74 wr => ∃ (k9 cnt : Nat) (ts : List Tr) (us : List Value) (pa : Option Addr) (pn pc : Nat), k9 ≤ n ∧ us.length = k9 ∧ cnt ≤ 1000 ∧ gg = n - k9 ∧ x74 = .int .i64 (k9 : Int) ∧
          Hid (wr.heap[w6.heap.size]? = some (partO p.kind f h h t (.slice pa pn pc) (.slice ca cn cc) p.e.1 p.e.2)) ∧ Hid (wr.ownsRow X9.heap.size 29 9 (.slice pa pn pc) us.length (us.flatMap partCells)) ∧
          Hid (kidsAt (fun q => X9.heap.size ≤ q ∧ ¬ (Value.slice pa pn pc).ownBlock = some q) wr ts us) ∧ Hid (Mk wr M v cnt) ∧ Hid (K2 M w6.heap.size X9 wr) ∧
          Hid (kidsRun F p.kids c1 = (ts ++ (kidsRun F (p.kids.drop k9) cnt).1, (kidsRun F (p.kids.drop k9) cnt).2)))
        case atStart =>
          exact ⟨0, c1, [], [], none, 0, 0, Nat.zero_le _, rfl, hc1l, rfl, rfl, P139.out, World.ownsRow_nil _ _ _ _, kidsAt_nil _ _, HM9.out, K2.refl _ _ _, by unfold Hid; rw [List.drop_zero]; rfl⟩
        case round =>
          obtain ⟨k9, cnt, ts, us, pa, pn, pc, hk9, hus0, hcnt, rfl, rfl, HPx, HOx, HKx, HMx, HK2, HQ⟩ := hrel
          have hus : us.length ≤ n := by omega
          have HUs := Lib.hid hus0
          clear hus0
          have hzr : X9.heap.size ≤ wr.heap.size := HK2.out.size
          by_cases hlt : k9 < n
          · have hlt' : k9 < p.kids.length := by have := HN.out; omega
            obtain ⟨gk9, rfl, hgk, x0, x1⟩ := HKc.out k9 hlt'
            have hgl := HKl.out gk9 rfl
            obtain ⟨hsl1, hsl2⟩ := HPin.out p.kids[k9] (List.getElem_mem hlt')
            have HDr : Hid (p.kids.drop k9 = p.kids[k9] :: p.kids.drop (k9 + 1)) := List.drop_eq_getElem_cons hlt'
            obtain ⟨sp, hsp⟩ : ∃ sp, sp = p.kids[k9] := ⟨_, rfl⟩
            rw [← hsp] at x0 x1 HDr hsl1 hsl2
            clear hsp
            obtain ⟨sf, st⟩ := sp
            simp only at x0 x1 hsl1 hsl2
            have hbk : wr.heap[gk9]? = w8.heap[gk9]? := (HK2.out.block gk9 (by have := Hz9.out; omega) (by omega) (by omega)).trans (B9.out gk9 (by omega))
            replace x0 := (World.cell?_of_block (a := ⟨gk9, k9 * 2, none⟩) hbk).trans x0
            replace x1 := (World.cell?_of_block (a := ⟨gk9, k9 * 2 + 1, none⟩) hbk).trans x1
            have hp12 : wr.heap[w4.heap.size]? = some (.cells #[.string ⟨k.type.toArray⟩, .string ⟨k.sub.toArray⟩, .slice ka k.params.length kc] 60 (0, 0)) := (HK2.out.block w4.heap.size (by omega) (by omega) (by omega)).trans P129.out
            have HP12 := Lib.hid hp12
            clear hbk hp12
            go_upto_region 14 with fail
            obtain ⟨XA, hXA⟩ : ∃ XA, XA = wr.alloc (.cells #[.int .i64 (sf : Int), .int .i64 (st : Int)] 25) := ⟨_, rfl⟩
            have hBA : Below wr.heap.size wr XA := by rw [hXA]; exact (Below.refl _ _).alloc (Nat.le_refl _) _
            have hzA : XA.heap.size = wr.heap.size + 1 := by rw [hXA]; simp
            have OA : Hid (XA.heap[wr.heap.size]? = some (.cells #[.int .i64 (sf : Int), .int .i64 (st : Int)] 25 (0, 0))) := by rw [hXA]; exact heap_alloc_new wr _
            rw [← hXA]
            have HBA := Lib.hid hBA
            have HzA := Lib.hid hzA
            clear hXA hBA hzA
            have HDg := Lib.hid (fun W => isDigest_word k ka k.params.length kc W)
            obtain ⟨R, hR⟩ : ∃ R, R = F (sf, st) cnt := ⟨_, rfl⟩
            have HRl : Hid (R.2 ≤ 1000) := by
              unfold Hid
              rw [hR, HFF.out]
              exact entS_le l d' (sf, st) _ cnt hcnt
            have HQ' : Hid (kidsRun F p.kids c1 = ((ts ++ [R.1]) ++ (kidsRun F (p.kids.drop (k9 + 1)) R.2).1, (kidsRun F (p.kids.drop (k9 + 1)) R.2).2)) := by
              unfold Hid
              rw [HQ.out, HDr.out, hR, List.append_assoc]
              rfl
            have hzA := HzA.out
            have HEn : Hid (∀ W, K2 M w6.heap.size XA W → Mk W M v cnt → Calls Tryz.prog 12 #[.pointer (some ⟨M, 0, none⟩), .agg #[.int .i64 (sf : Int), .int .i64 (st : Int)], .int .i64 ((D : Int) + 1), .bool (digS k)] W (entPost M v R W)) := fun W hkW hmW => by
              have hb0 : Below w0.heap.size w0 W := ((HK2.out.below HBA.out).trans hkW).base HW9.out hM0 (by have := HMk.out.lt; omega)
              have h1 := ih d' rfl (sf, st) (digS k) cnt W hsl1 hsl2 hcnt hb0 hmW
              have h2 : ((32 - d' : Nat) : Int) = (D : Int) + 1 := by have := HD.out; omega
              rw [h2] at h1
              rw [hR, HFF.out]
              exact h1
            unfold entPost Gr at HEn
            have HRe := Lib.hid hR
            clear hR
            have hk0 : K2 M w6.heap.size XA XA.drew := (K2.refl _ _ _).below (Below.refl _ _).drew
            have hd0 : Below XA.heap.size XA XA.drew := (Below.refl _ _).drew
            have HMA : Hid (Mk XA M v cnt) := HMx.out.below HBA.out
            have HPa : Hid (∀ W, Below XA.heap.size XA W → W.heap[w6.heap.size]? = some (partO p.kind f h h t (.slice pa pn pc) (.slice ca cn cc) p.e.1 p.e.2)) := fun W hb => (hb.block w6.heap.size (by omega)).trans ((HBA.out.block w6.heap.size (by omega)).trans HPx.out)
            have kpA := (part_cells (HPa.out _ (Below.refl _ _))).2.2.2.2.2.1
            have hPA : w6.heap.size < XA.heap.size := by omega
            have HOb : Hid (∀ q, (Value.slice pa pn pc).ownBlock = some q → X9.heap.size ≤ q ∧ q < wr.heap.size) := HOx.out.lt
            have HOk : Hid (∀ W, K2 M w6.heap.size XA W → W.ownsRow X9.heap.size 29 9 (.slice pa pn pc) us.length (us.flatMap partCells)) := fun W hk => own_k2 HOx.out (((K2.refl _ _ _).below HBA.out).trans hk) (by omega) (by omega)
            have HzO : Hid (∀ W, K2 M w6.heap.size XA W → X9.heap.size ≤ W.heap.size) := fun W hk => by have := hk.size; omega
            have HKp : Hid (∀ W, K2 M w6.heap.size XA W → W.cell? ⟨wr.heap.size, 0, none⟩ = some (.int .i64 (sf : Int)) ∧ W.cell? ⟨wr.heap.size, 1, none⟩ = some (.int .i64 (st : Int)) ∧ W.cell? ⟨w4.heap.size, 0, none⟩ = some (.string ⟨k.type.toArray⟩) ∧ W.cell? ⟨w4.heap.size, 1, none⟩ = some (.string ⟨k.sub.toArray⟩) ∧ W.cell? ⟨w4.heap.size, 2, none⟩ = some (.slice ka k.params.length kc)) := fun W hk => by
              have o1 := (hk.block wr.heap.size (by omega) (by omega) (by omega)).trans OA.out
              have o2 := (hk.block w4.heap.size (by omega) (by omega) (by omega)).trans ((HBA.out.block w4.heap.size (by omega)).trans HP12.out)
              simp [World.cell?, o1, o2]
            have HKq : Hid (∀ W W', K2 M w6.heap.size XA W → W.grownBy W' (Value.slice pa pn pc).ownBlock → W'.cell? ⟨wr.heap.size, 0, none⟩ = some (.int .i64 (sf : Int)) ∧ W'.cell? ⟨wr.heap.size, 1, none⟩ = some (.int .i64 (st : Int)) ∧ W'.cell? ⟨w4.heap.size, 0, none⟩ = some (.string ⟨k.type.toArray⟩) ∧ W'.cell? ⟨w4.heap.size, 1, none⟩ = some (.string ⟨k.sub.toArray⟩) ∧ W'.cell? ⟨w4.heap.size, 2, none⟩ = some (.slice ka k.params.length kc)) := fun W W' hk hg => by
              have hz := hk.size
              have o1 := (hg.block wr.heap.size (by omega) (by intro e; have := HOb.out _ e.symm; omega)).trans ((hk.block wr.heap.size (by omega) (by omega) (by omega)).trans OA.out)
              have o2 := (hg.block w4.heap.size (by omega) (by intro e; have := HOb.out _ e.symm; omega)).trans ((hk.block w4.heap.size (by omega) (by omega) (by omega)).trans ((HBA.out.block w4.heap.size (by omega)).trans HP12.out))
              simp [World.cell?, o1, o2]
            have hwr : IntKind.i64.wrap ((D : Int) + 1) = (D : Int) + 1 := IntWalk.i64_in _ (by omega)
            have hPM : some w6.heap.size ≠ some M := by intro e; have := Option.some.inj e; omega
            have hPO : some w6.heap.size ≠ (Value.slice pa pn pc).ownBlock := by intro e; have := HOb.out _ e.symm; omega
            have hle1 : us.length + 1 ≤ maxLen := by unfold maxLen; omega
            have hle2 : (us.length + 1) * 104 ≤ 140737488355328 := by omega
            have hA1 : wr.heap.size ≠ w6.heap.size := by omega
            have hA2 : w4.heap.size ≠ w6.heap.size := by omega
            clear x0 x1
            have HSp : Hid (∀ W, W.cell? ⟨w6.heap.size, 5, none⟩ = some (.slice pa pn pc) → K2 M w6.heap.size XA W → (W.cell? ⟨wr.heap.size, 0, none⟩ = some (.int .i64 (sf : Int)) ∧ W.cell? ⟨wr.heap.size, 1, none⟩ = some (.int .i64 (st : Int)) ∧ W.cell? ⟨w4.heap.size, 0, none⟩ = some (.string ⟨k.type.toArray⟩) ∧ W.cell? ⟨w4.heap.size, 1, none⟩ = some (.string ⟨k.sub.toArray⟩) ∧ W.cell? ⟨w4.heap.size, 2, none⟩ = some (.slice ka k.params.length kc) ∧ W.cell? ⟨w6.heap.size, 5, none⟩ = some (.slice pa pn pc))) := fun W h5 hk => by
              obtain ⟨a0, a1, a2, a3, a4⟩ := HKp.out W hk
              exact ⟨a0, a1, a2, a3, a4, h5⟩
            refine wp_region_last (fun W' => W'.cell? ⟨wr.heap.size, 0, none⟩ = some (.int .i64 (sf : Int)) ∧ W'.cell? ⟨wr.heap.size, 1, none⟩ = some (.int .i64 (st : Int)) ∧ W'.cell? ⟨w4.heap.size, 0, none⟩ = some (.string ⟨k.type.toArray⟩) ∧ W'.cell? ⟨w4.heap.size, 1, none⟩ = some (.string ⟨k.sub.toArray⟩) ∧ W'.cell? ⟨w4.heap.size, 2, none⟩ = some (.slice ka k.params.length kc) ∧ W'.cell? ⟨w6.heap.size, 5, none⟩ = some (.slice pa pn pc)) 12 (by kernel_rfl) ?_
            have hS0 := HSp.out XA.drew kpA hk0
            refine wpAnyN_takeE (i := 0) rfl (by kernel_rfl) (by kernel_rfl) (by kernel_rfl) (by kernel_rfl) (fun _ _ _ _ h => h) rfl hS0 ?_
            apply Exists.intro
            refine ⟨fun w hSw => ?_, ?_⟩
            · obtain ⟨_, _, _, _, _, _⟩ := hSw
              go_simp
              try rfl
            try simp only [Act.put]
            try simp only [List.setIfInBounds_toArray]
            try simp only [List.set_cons_succ]
            try simp only [List.set_cons_zero]
            refine wpAnyN_takeE (i := 1) rfl (by kernel_rfl) (by kernel_rfl) (by kernel_rfl) (by kernel_rfl) (fun _ _ _ _ h => h) rfl hS0 ?_
            apply Exists.intro
            refine ⟨fun w hSw => ?_, ?_⟩
            · obtain ⟨_, _, _, _, _, _⟩ := hSw
              go_simp
              try rfl
            try simp only [Act.put]
            try simp only [List.setIfInBounds_toArray]
            try simp only [List.set_cons_succ]
            try simp only [List.set_cons_zero]
            refine wpAnyN_takeE (i := 2) rfl (by kernel_rfl) (by kernel_rfl) (by kernel_rfl) (by kernel_rfl) (fun _ _ _ _ h => h) rfl hS0 ?_
            apply Exists.intro
            refine ⟨fun w hSw => ?_, ?_⟩
            · obtain ⟨_, _, _, _, _, _⟩ := hSw
              go_simp
              try rfl
            try simp only [Act.put]
            try simp only [List.setIfInBounds_toArray]
            try simp only [List.set_cons_succ]
            try simp only [List.set_cons_zero]
            refine wpAnyN_takeE (i := 3) rfl (by kernel_rfl) (by kernel_rfl) (by kernel_rfl) (by kernel_rfl) (fun _ _ _ _ h => h) rfl hS0 ?_
            apply Exists.intro
            refine ⟨fun w hSw => ?_, ?_⟩
            · obtain ⟨_, _, _, _, _, _⟩ := hSw
              go_simp
              try rfl
            try simp only [Act.put]
            try simp only [List.setIfInBounds_toArray]
            try simp only [List.set_cons_succ]
            try simp only [List.set_cons_zero]
            refine wpAnyN_takeE (i := 4) rfl (by kernel_rfl) (by kernel_rfl) (by kernel_rfl) (by kernel_rfl) (fun _ _ _ _ h => h) rfl hS0 ?_
            apply Exists.intro
            refine ⟨fun w hSw => ?_, ?_⟩
            · obtain ⟨_, _, _, _, _, _⟩ := hSw
              go_simp
              try rfl
            try simp only [Act.put]
            try simp only [List.setIfInBounds_toArray]
            try simp only [List.set_cons_succ]
            try simp only [List.set_cons_zero]
            refine wpAnyN_takeE (i := 5) rfl (by kernel_rfl) (by kernel_rfl) (by kernel_rfl) (by kernel_rfl) (fun _ _ _ _ h => h) rfl hS0 ?_
            apply Exists.intro
            refine ⟨fun w hSw => ?_, ?_⟩
            · obtain ⟨_, _, _, _, _, _⟩ := hSw
              go_simp
              try rfl
            try simp only [Act.put]
            try simp only [List.setIfInBounds_toArray]
            try simp only [List.set_cons_succ]
            try simp only [List.set_cons_zero]
            refine wpAnyN_takeE (i := 6) rfl (by kernel_rfl) (by kernel_rfl) (by kernel_rfl) (by kernel_rfl) (fun _ _ _ _ h => h) rfl hS0 ?_
            apply Exists.intro
            refine ⟨fun w hSw => ?_, ?_⟩
            · obtain ⟨_, _, _, _, _, _⟩ := hSw
              go_simp
              try rfl
            try simp only [Act.put]
            try simp only [List.setIfInBounds_toArray]
            try simp only [List.set_cons_succ]
            try simp only [List.set_cons_zero]
            refine wpAnyN_one (i := 7) (by kernel_rfl) rfl (fun K hK => ?_)
            go_simp
            go_at_call 25
            with_reducible refine (HDg.out _).mono ?_
            rintro e w10 ⟨rfl, hb10⟩
            have hk10 := hk0.below hb10
            have hm10 : Mk w10 M v cnt := HMA.out.below (hd0.trans (hb10.mono hd0.size))
            have hp10 := HPa.out _ (hd0.trans (hb10.mono hd0.size))
            dsimp only
            refine hK.out _ _ (fun _ => HSp.out _ (part_cells hp10).2.2.2.2.2.1 hk10) ?_
            clear hK K
            refine wpAnyN_one (i := 8) (by kernel_rfl) rfl (fun K hK => ?_)
            go_simp
            go_at_call 12
            with_reducible refine (HEn.out _ hk10 hm10).mono ?_
            rintro e w11 ⟨u11, rfl, ht11, hg11, hm11⟩
            have hk11 := hk10.grM hg11
            have hp11 := (hg11.block w6.heap.size (Nat.lt_of_lt_of_le hPA hk10.size) hPM).trans hp10
            have hP11 : w6.heap.size < w11.heap.size := Nat.lt_of_lt_of_le hPA hk11.size
            have HT11 := Lib.hid ht11
            obtain ⟨ka1, kn1, kc1, ca1, cn1, cc1, rfl⟩ := treeAt_agg ht11
            dsimp only
            refine hK.out _ _ (fun _ => HSp.out _ (part_cells hp11).2.2.2.2.2.1 hk11) ?_
            clear hK K
            refine wpAnyN_one (i := 9) (by kernel_rfl) rfl (fun K hK => ?_)
            go_simp
            have hk12 : K2 M w6.heap.size XA (w11.alloc (.cells #[.int .i64 (R.1.kind : Int), .int .i64 (R.1.hd.1 : Int), .int .i64 (R.1.hd.2 : Int), .int .i64 (R.1.bd.1 : Int), .int .i64 (R.1.bd.2 : Int), .slice ka1 kn1 kc1, .slice ca1 cn1 cc1, .int .i64 (R.1.e.1 : Int), .int .i64 (R.1.e.2 : Int)] 29)) := hk11.below ((Below.refl _ _).alloc (Nat.le_refl _) _)
            have hp12 : (w11.alloc (.cells #[.int .i64 (R.1.kind : Int), .int .i64 (R.1.hd.1 : Int), .int .i64 (R.1.hd.2 : Int), .int .i64 (R.1.bd.1 : Int), .int .i64 (R.1.bd.2 : Int), .slice ka1 kn1 kc1, .slice ca1 cn1 cc1, .int .i64 (R.1.e.1 : Int), .int .i64 (R.1.e.2 : Int)] 29)).heap[w6.heap.size]? = _ := (Below.heap_alloc w11 _ _ hP11).trans hp11
            refine hK.out _ _ (fun _ => HSp.out _ (part_cells hp12).2.2.2.2.2.1 hk12) ?_
            clear hK K
            refine wpAnyN_one (i := 10) (by kernel_rfl) rfl (fun K hK => ?_)
            refine step_append_lies _ (by exact rfl) _ _ 26 (by exact rfl) X9.heap.size 29 i0 (.agg #[.int .i64 0, .int .i64 0, .int .i64 0, .int .i64 0, .int .i64 0, .slice none 0 0, .slice none 0 0, .int .i64 0, .int .i64 0]) 9 104 Tryz.underlying26 HI0.out HZ0.out HZ1.out HZ2.out rfl (by decide) _ us.length (us.flatMap partCells) (by exact rfl) (HOk.out _ hk12) ⟨w11.heap.size, 0, none⟩ 1 1 [.int .i64 (R.1.kind : Int), .int .i64 (R.1.hd.1 : Int), .int .i64 (R.1.hd.2 : Int), .int .i64 (R.1.bd.1 : Int), .int .i64 (R.1.bd.2 : Int), .slice ka1 kn1 kc1, .slice ca1 cn1 cc1, .int .i64 (R.1.e.1 : Int), .int .i64 (R.1.e.2 : Int)] (by exact rfl) rfl (World.news_of_block (cs := #[.int .i64 (R.1.kind : Int), .int .i64 (R.1.hd.1 : Int), .int .i64 (R.1.hd.2 : Int), .int .i64 (R.1.bd.1 : Int), .int .i64 (R.1.bd.2 : Int), .slice ka1 kn1 kc1, .slice ca1 cn1 cc1, .int .i64 (R.1.e.1 : Int), .int .i64 (R.1.e.2 : Int)]) (heap_alloc_new w11 _)) (by simp [Value.oneCell']) (by decide) hle1 hle2 (HzO.out _ hk12) _ rfl ?_
            intro g13 cap13 w13 hown13 hgrow13 hor13 hlt13
            have hp13 := (hgrow13.block w6.heap.size (Nat.lt_of_lt_of_le hP11 ((Below.refl w11.heap.size w11).alloc (Nat.le_refl _) _).size) hPO).trans hp12
            refine hK.out _ _ (fun _ => ?s13) ?_
            case s13 =>
              obtain ⟨a0, a1, a2, a3, a4⟩ := HKq.out _ _ hk12 hgrow13
              exact ⟨a0, a1, a2, a3, a4, (part_cells hp13).2.2.2.2.2.1⟩
            clear hK K
            refine wpAnyN_one (i := 11) (by kernel_rfl) rfl (fun K hK => ?_)
            go_simp
            refine hK.out _ _ (fun _ => ?s14) ?_
            case s14 =>
              obtain ⟨a0, a1, a2, a3, a4⟩ := HKq.out _ _ hk12 hgrow13
              exact ⟨a0, a1, a2, a3, a4, (part_cells hp13).2.2.2.2.2.1⟩
            clear hK K
            have s5 := (part_cells hp13).2.2.2.2.2.1
            have v5 := (part_frozen hp13).2.2.2.2.2.1
            refine wpAnyN_one (i := 12) (by kernel_rfl) rfl (fun K hK => ?_)
            go_simp
            refine hK.out _ _ (fun hh => absurd rfl hh) ?_
            clear hK K
            have hz12 : (w11.alloc (.cells #[.int .i64 (R.1.kind : Int), .int .i64 (R.1.hd.1 : Int), .int .i64 (R.1.hd.2 : Int), .int .i64 (R.1.bd.1 : Int), .int .i64 (R.1.bd.2 : Int), .slice ka1 kn1 kc1, .slice ca1 cn1 cc1, .int .i64 (R.1.e.1 : Int), .int .i64 (R.1.e.2 : Int)] 29)).heap.size = w11.heap.size + 1 := by simp
            have hz10 : XA.heap.size ≤ w10.heap.size := hk10.size
            have hz11 : w10.heap.size ≤ w11.heap.size := hg11.size
            have HK2x : Hid (K2 M w6.heap.size X9 (w13.setCell ⟨w6.heap.size, 5, none⟩ (.slice (some ⟨g13, 0, none⟩) (us.length + 1) cap13))) :=
              ((((HK2.out.below HBA.out).trans hk12).grown hgrow13 (fun q hq => (HOb.out q hq).1)).set 5 _)
            have HMx2 : Hid (Mk (w13.setCell ⟨w6.heap.size, 5, none⟩ (.slice (some ⟨g13, 0, none⟩) (us.length + 1) cap13)) M v R.2) :=
              ((hm11.below ((Below.refl _ _).alloc (Nat.le_refl _) (.cells #[.int .i64 (R.1.kind : Int), .int .i64 (R.1.hd.1 : Int), .int .i64 (R.1.hd.2 : Int), .int .i64 (R.1.bd.1 : Int), .int .i64 (R.1.bd.2 : Int), .slice ka1 kn1 kc1, .slice ca1 cn1 cc1, .int .i64 (R.1.e.1 : Int), .int .i64 (R.1.e.2 : Int)] 29))).block (hgrow13.block M (by have := hm11.lt; omega) (by intro e; have := HOb.out _ e.symm; omega))).far (p := ⟨w6.heap.size, 5, none⟩) (show M ≠ w6.heap.size by omega) _
            have HOx2 : Hid ((w13.setCell ⟨w6.heap.size, 5, none⟩ (.slice (some ⟨g13, 0, none⟩) (us.length + 1) cap13)).ownsRow X9.heap.size 29 9 (.slice (some ⟨g13, 0, none⟩) (us.length + 1) cap13) (us ++ [Value.agg #[.int .i64 (R.1.kind : Int), .int .i64 (R.1.hd.1 : Int), .int .i64 (R.1.hd.2 : Int), .int .i64 (R.1.bd.1 : Int), .int .i64 (R.1.bd.2 : Int), .slice ka1 kn1 kc1, .slice ca1 cn1 cc1, .int .i64 (R.1.e.1 : Int), .int .i64 (R.1.e.2 : Int)]]).length ((us ++ [Value.agg #[.int .i64 (R.1.kind : Int), .int .i64 (R.1.hd.1 : Int), .int .i64 (R.1.hd.2 : Int), .int .i64 (R.1.bd.1 : Int), .int .i64 (R.1.bd.2 : Int), .slice ka1 kn1 kc1, .slice ca1 cn1 cc1, .int .i64 (R.1.e.1 : Int), .int .i64 (R.1.e.2 : Int)]]).flatMap partCells)) := by
              unfold Hid
              have h1 := ownsRow_setCell_below (a := ⟨w6.heap.size, 5, none⟩) hown13 (show w6.heap.size < X9.heap.size by omega) (.slice (some ⟨g13, 0, none⟩) (us.length + 1) cap13)
              rw [List.length_append, List.flatMap_append]
              exact h1
            have HPx2 : Hid ((w13.setCell ⟨w6.heap.size, 5, none⟩ (.slice (some ⟨g13, 0, none⟩) (us.length + 1) cap13)).heap[w6.heap.size]? = some (partO p.kind f h h t (.slice (some ⟨g13, 0, none⟩) (us.length + 1) cap13) (.slice ca cn cc) p.e.1 p.e.2)) := by
              have h1 := hp13
              unfold partO at h1
              exact row_set h1
            have HKx2 : Hid (kidsAt (fun q => X9.heap.size ≤ q ∧ ¬ (Value.slice (some ⟨g13, 0, none⟩) (us.length + 1) cap13).ownBlock = some q) (w13.setCell ⟨w6.heap.size, 5, none⟩ (.slice (some ⟨g13, 0, none⟩) (us.length + 1) cap13)) (ts ++ [R.1]) (us ++ [Value.agg #[.int .i64 (R.1.kind : Int), .int .i64 (R.1.hd.1 : Int), .int .i64 (R.1.hd.2 : Int), .int .i64 (R.1.bd.1 : Int), .int .i64 (R.1.bd.2 : Int), .slice ka1 kn1 kc1, .slice ca1 cn1 cc1, .int .i64 (R.1.e.1 : Int), .int .i64 (R.1.e.2 : Int)]])) := by
              have hgo : ∀ q, (Value.slice (some ⟨g13, 0, none⟩) (us.length + 1) cap13).ownBlock = some q → g13 = q := fun q e => Option.some.inj e
              refine kidsAt_snoc (kidsAt.keep ?_ _ _ HKx.out) (treeAt.keep ?_ _ _ HT11.out)
              · rintro q ⟨hq1, hq2⟩ hqz
                refine ⟨?_, hq1, fun e => ?_⟩
                · rw [Below.heap_setCell _ _ _ _ (show q ≠ w6.heap.size by omega), hgrow13.block q (by omega) (fun e => hq2 e.symm)]
                  exact (hk12.block q (by omega) (by omega) (by omega)).trans (HBA.out.block q hqz)
                · have := hgo q e
                  rcases hor13 with h1 | h1
                  · exact hq2 (by rw [h1, this])
                  · omega
              · intro q hq hqz
                refine ⟨?_, by omega, fun e => ?_⟩
                · rw [Below.heap_setCell _ _ _ _ (show q ≠ w6.heap.size by omega), hgrow13.block q (by omega) (by intro e; have := HOb.out _ e.symm; omega)]
                  exact Below.heap_alloc _ _ _ hqz
                · have := hgo q e
                  rcases hor13 with h1 | h1
                  · have := HOb.out _ h1
                    omega
                  · omega
            clear hown13 hgrow13 hor13 hlt13 hp13 hp12 hp11 hp10 hk12 hk11 hk10 hm10 hm11 hg11 ht11 HT11 hb10 hS0 s5 v5 HKq HKp HSp HOk HzO HPa HMA hk0 hd0 kpA hPA hP11 hPM hPO hle1 hle2 hA1 hA2 hwr HEn HDg
            clear HK2 HMx HOx HPx HKx HQ
            refine wpAnyN_done (by kernel_rfl) ?_ _
            go_wp2_with fail
            go_roundg (n - (k9 + 1))
            case measure => omega
            case rel => exact ⟨k9 + 1, R.2, ts ++ [R.1], us ++ [Value.agg #[.int .i64 (R.1.kind : Int), .int .i64 (R.1.hd.1 : Int), .int .i64 (R.1.hd.2 : Int), .int .i64 (R.1.bd.1 : Int), .int .i64 (R.1.bd.2 : Int), .slice ka1 kn1 kc1, .slice ca1 cn1 cc1, .int .i64 (R.1.e.1 : Int), .int .i64 (R.1.e.2 : Int)]], some ⟨g13, 0, none⟩, us.length + 1, cap13, by omega, by have := HUs.out; simp; omega, HRl.out, rfl, by go_num, HPx2.out, HOx2.out, HKx2.out, HMx2.out, HK2x.out, HQ'.out⟩
          · obtain rfl : k9 = n := by omega
            have HE9 : Hid (kidsRun F p.kids c1 = (ts, cnt)) := by
              unfold Hid
              rw [HQ.out, HN.out, List.drop_length]
              simp [kidsRun]
            have P8r := (HK2.out.block (w.heap.size + 1) (by omega) (by omega) (by omega)).trans P89.out
            have P8R := Lib.hid P8r
            obtain ⟨a0, a1, a2, a3, a4, a5, a6, a7, a8⟩ := part_cells HPx.out
            obtain ⟨b0, b1, b2, b3, b4, b5, b6, b7, b8⟩ := part_cells P8R.out
            obtain ⟨f0, f1, f2, f3, f4, f5, f6, f7, f8⟩ := part_frozen P8R.out
            clear P8r
            go_wp2_with fail
            (try simp only [Exit.inBlock, Exit.then])
            refine bodyPost_ret (results_cell_row (P := Tryz.prog) Tryz.results12 _ _ (w.heap.size + 1) 29 _ (0, 0) _ rfl (row_set9 P8R.out) Tryz.underlying29 rfl (by kernel_rfl)) rfl ?_
            rw [HR1.out, HE9.out]
            refine ⟨_, rfl, ?_, gr_set9 (HK2.out.to HGr9.out (by omega)) (by omega), mk_set9 HMx.out (by omega)⟩
            unfold treeAt
            refine ⟨pa, pn, pc, ca, cn, cc, us, rfl, ?_, ?_, ?_⟩
            · have hS : ownS (fun q => w4.heap.size + 1 ≤ q ∧ q < w6.heap.size) w8 25 2 (.slice ca cn cc) p.cuts.length (spCells p.cuts) := ⟨own_base2 HCu8.out (Nat.zero_le _), HCl.out⟩
              refine hS.keep fun q hq hq8 => ⟨?_, by omega⟩
              rw [heap_set9 (by omega)]
              exact (HK2.out.block q (by have := Hz9.out; omega) (by omega) (by omega)).trans (B9.out q (by omega))
            · exact own_base0 (own_set9 HOx.out (by omega)) (fun a h1 _ => by omega)
            · exact kidsAt.keep (fun q hq _ => ⟨heap_set9 (by omega), by omega⟩) _ _ HKx.out
end Go.Proofs.YtkmgflnmffdhjaaGreatDoor
