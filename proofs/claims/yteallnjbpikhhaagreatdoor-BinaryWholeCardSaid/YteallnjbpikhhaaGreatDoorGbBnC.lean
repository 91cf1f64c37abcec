/- Contracts of package binary: bytesOf, Encoding. -/
import Derived.Test.YteallnjbpikhhaaGreatDoorGbBnA
import Derived.Test.YteallnjbpikhhaaGreatDoorGbFeK
import Derived.Test.YteallnjbpikhhaaGreatDoorGbB64I
import Derived.Test.YteallnjbpikhhaaGreatDoorGbQpE
namespace Go.Proofs.YteallnjbpikhhaaGreatDoor
open Go Go.RowKit

set_option maxRecDepth 100000 in
set_option maxHeartbeats 1000000 in
theorem bbytesOf_any (v : Value) (l : List UInt8) (F T : Nat) (w : World) (hv : bytesArg w v l) (hft : F ≤ T) (htl : T ≤ l.length) :
    Calls Tryz.prog 18 #[v, .agg #[.int .i64 (F : Int), .int .i64 (T : Int)]] w (bytesPost (partS l F T) w) := by
  obtain ⟨ao, cap, rfl, hc, hm, hs⟩ := hv
  have HW := Lib.hid (within_any (F : Int) (T : Int) (l.length : Int))
  have HE := Lib.hid (withinB_yes (f := (F : Int)) (t := (T : Int)) (n := (l.length : Int)) (by omega))
  have HS : Hid (sliceAt w ao l) := hs
  unfold maxLen at hm
  unfold bytesPost
  clear hs
  go_enter Tryz.func18, Tryz.ntmps18
  go_wp2_with fail
  with_reducible refine (HW.out _).mono ?_
  rintro e w1 ⟨rfl, hb1⟩
  rw [HE.out]
  have HB1 := Lib.hid hb1
  obtain ⟨c0, c1⟩ := box2_cells hb1
  clear hb1
  have HB : Hid (Below w.heap.size w w1) := ((Below.refl _ _).alloc (Nat.le_refl _) _).trans (HB1.out.mono (by simp))
  have HSc := Lib.hid (sliceAt.cut HS.out F T)
  have HL := Lib.hid (partS_len l (a := F) htl)
  by_cases hcF : cap = F
  · subst hcF
    go_wp2
    go_ret
    exact ⟨.slice ao (T - cap) 0, rfl, ⟨ao, 0, by rw [HL.out], by rw [HL.out]; omega, Nat.zero_le _, .inl (List.eq_nil_of_length_eq_zero (by rw [HL.out]; omega))⟩, HB.out⟩
  · go_wp2
    go_ret
    exact ⟨.slice (ao.map fun x => x.add F) (T - F) (cap - F), rfl, ⟨_, cap - F, by rw [HL.out], by rw [HL.out]; omega, by unfold maxLen; omega, sliceAt.below HSc.out HB.out⟩, HB.out⟩
theorem encL_len (l : List UInt8) (t : Tr) : (encL l t).length ≤ l.length + 4 := by
  have h := valueS_short l (fsOf l t.hd.1 t.hd.2) cteN
  have hf : (foldS (valueS l (fsOf l t.hd.1 t.hd.2) cteN)).length = (valueS l (fsOf l t.hd.1 t.hd.2) cteN).length := by unfold foldS; rw [List.length_map]
  unfold encL
  split
  · show 4 ≤ _
    omega
  · omega
set_option maxRecDepth 100000 in
set_option maxHeartbeats 2000000 in
theorem encoding_any (v : Value) (l : List UInt8) (t : Tr) (ks cs : Value) (w : World) (hv : bytesArg w v l) (hl : l.length ≤ 100000) (ht : okT l.length t) :
    Calls Tryz.prog 12 #[v, ptV t ks cs] w fun e w' => e = .returned (.string ⟨(encL l t).toArray⟩) ∧ Below w.heap.size w w' := by
  obtain ⟨⟨o1, o2, o3, o4⟩, _⟩ := okT_open ht
  have HV := Lib.hid hv
  obtain ⟨ao, cap, rfl, hc, hm, _⟩ := hv
  have HOf := Lib.hid (fun W h1 => of_walk (.slice ao l.length cap) l t.hd.1 t.hd.2 W h1 o1 (by omega) (by omega))
  unfold OfPost at HOf
  have hfs : fieldsL l ((linesS l t.hd.1 t.hd.2).take (eI (linesS l t.hd.1 t.hd.2))) = fsOf l t.hd.1 t.hd.2 := rfl
  rw [hfs] at HOf
  have hsh := fsOf_short l (f := t.hd.1) (t := t.hd.2) o1 (by omega) (by omega)
  have HVa := Lib.hid (fun W vf h1 h2 => value_any (.slice ao l.length cap) vf l (fsOf l t.hd.1 t.hd.2) ⟨#[99, 111, 110, 116, 101, 110, 116, 45, 116, 114, 97, 110, 115, 102, 101, 114, 45, 101, 110, 99, 111, 100, 105, 110, 103]⟩ W h1 (by omega) h2 hsh)
  have hcn : (⟨#[99, 111, 110, 116, 101, 110, 116, 45, 116, 114, 97, 110, 115, 102, 101, 114, 45, 101, 110, 99, 111, 100, 105, 110, 103]⟩ : ByteArray).data.toList = cteN := rfl
  rw [hcn] at HVa
  have hvl := valueS_short l (fsOf l t.hd.1 t.hd.2) cteN
  have HEn : Hid (encL l t = if foldS (valueS l (fsOf l t.hd.1 t.hd.2) cteN) = [] then bit7 else foldS (valueS l (fsOf l t.hd.1 t.hd.2) cteN)) := rfl
  rw [HEn.out]
  obtain ⟨s, hsd⟩ : ∃ s, s = valueS l (fsOf l t.hd.1 t.hd.2) cteN := ⟨_, rfl⟩
  rw [← hsd] at HVa hvl ⊢
  have HF : Hid (∀ W, Calls Tryz.prog 24 #[.string ⟨s.toArray⟩] W fun e w' => e = .returned (.string ⟨(foldS s).toArray⟩) ∧ Below W.heap.size W w') := fun W => fold_any ⟨s.toArray⟩ W (by rw [← len_toList]; show s.length ≤ _; omega)
  obtain ⟨q, hq⟩ : ∃ q, q = foldS s := ⟨_, rfl⟩
  rw [← hq] at HF ⊢
  obtain ⟨fs, hfd⟩ : ∃ fs, fs = fsOf l t.hd.1 t.hd.2 := ⟨_, rfl⟩
  rw [← hfd] at HOf HVa
  obtain ⟨A, hA⟩ : ∃ A : ByteArray, A = ⟨q.toArray⟩ := ⟨_, rfl⟩
  rw [← hA] at HF
  have hAl : A.toList = q := by rw [ByteArray.toList_eq, hA]
  obtain ⟨b0, hb0⟩ : ∃ b0, b0 = q.isEmpty := ⟨_, rfl⟩
  have hAl0 : (A.toList == []) = b0 := by rw [hAl, hb0]; cases q <;> rfl
  have hAe : A.toList.isEmpty = b0 := by rw [hAl, hb0]
  obtain ⟨r, hr⟩ : ∃ r, r = if q = [] then bit7 else q := ⟨_, rfl⟩
  have HR1 : Hid (b0 = true → (⟨r.toArray⟩ : ByteArray) = ⟨#[55, 98, 105, 116]⟩) := fun h => by rw [hr, if_pos (List.isEmpty_iff.1 (hb0.symm.trans h))]; rfl
  have HR0 : Hid (b0 = false → (⟨r.toArray⟩ : ByteArray) = A) := fun h => by rw [hr, if_neg (fun e => by rw [hb0, e] at h; exact absurd h (by decide)), hA]
  rw [← hr]
  clear hcn HEn hsd hq hfd hfs hsh ht o1 o2 o3 o4 hvl hA hb0 hAl hr
  unfold ptV
  go_enter Tryz.func12, Tryz.ntmps12
  go_upto_region 1 with fail
  have HX0 : Hid ((w.alloc (.cells #[.int .i64 (t.kind : Int), .int .i64 (t.hd.1 : Int), .int .i64 (t.hd.2 : Int), .int .i64 (t.bd.1 : Int), .int .i64 (t.bd.2 : Int), ks, cs, .int .i64 (t.e.1 : Int), .int .i64 (t.e.2 : Int)] 32)).heap[w.heap.size]? = some (ptO t ks cs)) := heap_alloc_new w _
  have HC0 : Hid (Below w.heap.size w (w.alloc (.cells #[.int .i64 (t.kind : Int), .int .i64 (t.hd.1 : Int), .int .i64 (t.hd.2 : Int), .int .i64 (t.bd.1 : Int), .int .i64 (t.bd.2 : Int), ks, cs, .int .i64 (t.e.1 : Int), .int .i64 (t.e.2 : Int)] 32))) := (Below.refl _ _).alloc (Nat.le_refl _) _
  generalize (w.alloc (.cells #[.int .i64 (t.kind : Int), .int .i64 (t.hd.1 : Int), .int .i64 (t.hd.2 : Int), .int .i64 (t.bd.1 : Int), .int .i64 (t.bd.2 : Int), ks, cs, .int .i64 (t.e.1 : Int), .int .i64 (t.e.2 : Int)] 32)) = x0 at HX0 HC0 ⊢
  obtain ⟨t0, t1, t2, t3, t4, t5, t6, t7, t8⟩ := part_cells HX0.out
  go_wp2_with fail
  with_reducible refine (HOf.out x0 (bytesArg.below HV.out HC0.out)).mono ?_
  rintro e w3 ⟨u, rfl, ho, hb3⟩
  have HR3 : Hid (rowF w3 u fs) := rowF_owned ho
  obtain ⟨fo, fc, rfl, hfc, hfm, _⟩ := HR3.out.at
  have HB3 := Lib.hid (HC0.out.trans (hb3.mono HC0.out.size))
  clear ho hb3 t0 t1 t2 t3 t4 t5 t6 t7 t8
  go_wp2_with fail
  with_reducible refine (HVa.out w3 _ (bytesArg.below HV.out HB3.out) HR3.out).mono ?_
  rintro e w4 ⟨rfl, hb4⟩
  have HB4 := Lib.hid (HB3.out.trans (hb4.mono HB3.out.size))
  clear hb4
  go_wp2_with fail
  with_reducible refine (HF.out _).mono ?_
  rintro e w5 ⟨rfl, hb5⟩
  have HB5 := Lib.hid (HB4.out.trans (hb5.mono HB4.out.size))
  clear hb5
  cases b0 with
  | true =>
    go_wp2_with fail
    go_ret
    exact ⟨by rw [HR1.out (by simp)]; rfl, HB5.out⟩
  | false =>
    go_wp2_with fail
    go_ret
    exact ⟨by rw [HR0.out (by simp)]; rfl, HB5.out⟩
end Go.Proofs.YteallnjbpikhhaaGreatDoor

/- Contracts of package binary: bare. -/
namespace Go.Proofs.YteallnjbpikhhaaGreatDoor
open Go Go.RowKit Go.Maps

def bareP (o : Option (List UInt8)) (w : World) (e : Ending) (w' : World) : Prop :=
  (∃ u, e = .returned (.tuple #[u, .bool o.isSome]) ∧ bytesArg w' u (o.getD [])) ∧ Below w.heap.size w w'
theorem bareP_dec {o : Option (List UInt8)} {w w' : World} {e : Ending} (h : DecGot w o e w') : bareP o w e w' := by
  obtain ⟨u, h1, h2, h3⟩ := h
  exact ⟨⟨u, h1, bytesArg_owned h2⟩, h3⟩
theorem bareP_decQ {o : Option (List UInt8)} {w w' : World} {e : Ending} (h : Decoded w o e w') : bareP o w e w' := by
  obtain ⟨h3, u, h1, h2⟩ := h
  exact ⟨⟨u, h1, bytesArg_owned h2⟩, h3⟩
theorem undo_bare {e : List UInt8} (b : List UInt8) (h : e = bit7 ∨ e = bit8 ∨ e = binN) : undoL e b = some b := by unfold undoL; rw [if_pos h]
theorem undo_kind {e : List UInt8} (b : List UInt8) (h : ¬ (e = bit7 ∨ e = bit8 ∨ e = binN)) : undoL e b = if kindE e = 1 then decS (bareSG b) else if kindE e = 2 then decQ b else none := by
  unfold undoL kindE
  rw [if_neg h]
  by_cases e1 : e = b64N
  · rw [if_pos e1, if_pos e1, if_pos rfl]
  · by_cases e2 : e = qpN
    · rw [if_neg e1, if_pos e2, if_neg e1, if_pos e2, if_neg (by decide), if_pos rfl]
    · rw [if_neg e1, if_neg e2, if_neg e1, if_neg e2, if_neg (by decide), if_neg (by decide)]
set_option maxRecDepth 100000 in
set_option maxHeartbeats 4000000 in
theorem bare_anyB (v : Value) (l : List UInt8) (t : Tr) (ks cs : Value) (w : World) (hv : bytesArg w v l) (hl : l.length ≤ 100000) (ht : okT l.length t) (hls : lets w) :
    Calls Tryz.prog 20 #[v, ptV t ks cs] w (bareP (binP l t) w) := by
  obtain ⟨⟨o1, o2, o3, o4⟩, _⟩ := okT_open ht
  have HV := Lib.hid hv
  obtain ⟨ao, cap, rfl, hc, hm, _⟩ := hv
  have HLs := Lib.hid hls
  have HBy := Lib.hid (fun W h1 => bbytesOf_any (.slice ao l.length cap) l t.bd.1 t.bd.2 W h1 o3 o4)
  have HEn := Lib.hid (fun W h1 => encoding_any (.slice ao l.length cap) l t ks cs W h1 hl ht)
  have hel := encL_len l t
  have hbl := partS_le l t.bd.1 t.bd.2
  unfold bytesPost at HBy
  unfold ptV at HEn ⊢
  have HP : Hid (binP l t = if t.kind = 1 then some (partS l t.bd.1 t.bd.2) else undoL (encL l t) (partS l t.bd.1 t.bd.2)) := rfl
  obtain ⟨o, ho⟩ : ∃ o, o = binP l t := ⟨_, rfl⟩
  rw [← ho] at HP ⊢
  clear ho
  obtain ⟨q, hq⟩ : ∃ q, q = encL l t := ⟨_, rfl⟩
  obtain ⟨d, hd⟩ : ∃ d, d = partS l t.bd.1 t.bd.2 := ⟨_, rfl⟩
  rw [← hq] at HEn hel HP
  rw [← hd] at HBy hbl HP
  have HK := Lib.hid (keyStr q (by omega))
  obtain ⟨A, hA⟩ : ∃ A : ByteArray, A = ⟨q.toArray⟩ := ⟨_, rfl⟩
  rw [← hA] at HEn HK
  have hAl : A.toList = q := by rw [ByteArray.toList_eq, hA]
  have hA1 : (A.toList == [55, 98, 105, 116]) = (q == bit7) := by rw [hAl]; rfl
  have hA2 : (A.toList == [56, 98, 105, 116]) = (q == bit8) := by rw [hAl]; rfl
  have hA3 : (A.toList == [98, 105, 110, 97, 114, 121]) = (q == binN) := by rw [hAl]; rfl
  obtain ⟨b1, hb1⟩ : ∃ b, b = (q == bit7) := ⟨_, rfl⟩
  obtain ⟨b2, hb2⟩ : ∃ b, b = (q == bit8) := ⟨_, rfl⟩
  obtain ⟨b3, hb3⟩ : ∃ b, b = (q == binN) := ⟨_, rfl⟩
  rw [← hb1] at hA1
  rw [← hb2] at hA2
  rw [← hb3] at hA3
  have HQ1 := Lib.hid hb1
  have HQ2 := Lib.hid hb2
  have HQ3 := Lib.hid hb3
  have HCl := Lib.hid (fun u W h => clone_any u d W h (by omega))
  unfold bytesPost at HCl
  have HUn := Lib.hid (fun W => undoers_any W)
  have HD1 : Hid (∀ u W, bytesArg W u d → lets W → Calls Tryz.prog 50 #[u] W (bareP (decS (bareSG d)) W)) := fun u W h1 h2 => (decode_any u d W h1 (by omega) h2).mono fun _ _ h => bareP_dec h
  have HD2 : Hid (∀ u W, bytesArg W u d → Calls Tryz.prog 51 #[u] W (bareP (decQ d) W)) := fun u W h1 => (decode_anyQ u d W h1 (by omega)).mono fun _ _ h => bareP_decQ h
  have HZ0 : Hid (unR .nilFunc = some (.lit (.int .i64 0), [])) := unR_at (k := 0) (by decide)
  unfold bareP at HD1 HD2 ⊢
  clear hq hd hA hAl hb1 hb2 hb3 hc hm ht hls hel hbl o1 o2 o3 o4
  have HX0 : Hid ((w.alloc (.cells #[.int .i64 (t.kind : Int), .int .i64 (t.hd.1 : Int), .int .i64 (t.hd.2 : Int), .int .i64 (t.bd.1 : Int), .int .i64 (t.bd.2 : Int), ks, cs, .int .i64 (t.e.1 : Int), .int .i64 (t.e.2 : Int)] 32)).heap[w.heap.size]? = some (ptO t ks cs)) := heap_alloc_new w _
  have HC0 : Hid (Below w.heap.size w (w.alloc (.cells #[.int .i64 (t.kind : Int), .int .i64 (t.hd.1 : Int), .int .i64 (t.hd.2 : Int), .int .i64 (t.bd.1 : Int), .int .i64 (t.bd.2 : Int), ks, cs, .int .i64 (t.e.1 : Int), .int .i64 (t.e.2 : Int)] 32))) := (Below.refl _ _).alloc (Nat.le_refl _) _
  go_enter Tryz.func20, Tryz.ntmps20
  go_upto_region 1 with fail
  generalize (w.alloc (.cells #[.int .i64 (t.kind : Int), .int .i64 (t.hd.1 : Int), .int .i64 (t.hd.2 : Int), .int .i64 (t.bd.1 : Int), .int .i64 (t.bd.2 : Int), ks, cs, .int .i64 (t.e.1 : Int), .int .i64 (t.e.2 : Int)] 32)) = x0 at HX0 HC0 ⊢
  have hx0 : w.heap.size < x0.heap.size := (Array.getElem?_eq_some_iff.1 HX0.out).1
  obtain ⟨t0, t1, t2, t3, t4, t5, t6, t7, t8⟩ := part_cells HX0.out
  go_wp2_with fail
  with_reducible refine (HBy.out x0 (bytesArg.below HV.out HC0.out)).mono ?_
  rintro e w1 ⟨u, rfl, hu, hb⟩
  have HU1 := Lib.hid hu
  have HX1 := Lib.hid ((hb.block _ hx0).trans HX0.out)
  have HC1 := Lib.hid (HC0.out.trans (hb.mono HC0.out.size))
  have hx1 : w.heap.size < w1.heap.size := (Array.getElem?_eq_some_iff.1 HX1.out).1
  clear hu hb t0 t1 t2 t3 t4 t5 t6 t7 t8
  obtain ⟨uo, uc, rfl, _, _, _⟩ := HU1.out
  obtain ⟨t0, t1, t2, t3, t4, t5, t6, t7, t8⟩ := part_cells HX1.out
  go_wp2_with fail
  with_reducible refine (HEn.out w1 (bytesArg.below HV.out HC1.out)).mono ?_
  rintro e w2 ⟨rfl, hb⟩
  have HU2 := Lib.hid (bytesArg.below HU1.out hb)
  have HX2 := Lib.hid ((hb.block _ hx1).trans HX1.out)
  have HC2 := Lib.hid (HC1.out.trans (hb.mono HC1.out.size))
  clear hb t0 t1 t2 t3 t4 t5 t6 t7 t8
  obtain ⟨t0, t1, t2, t3, t4, t5, t6, t7, t8⟩ := part_cells HX2.out
  by_cases hk1 : t.kind = 1
  · have bk : ((t.kind : Int) == 1) = true := beq_yes (by omega)
    have HK1 := Lib.hid hk1
    clear hk1
    go_wp2_with fail
    with_reducible refine (HCl.out _ _ HU2.out).mono ?_
    rintro e w3 ⟨u3, rfl, hu3, hb⟩
    have HU3 := Lib.hid hu3
    have HC3 := Lib.hid (HC2.out.trans (hb.mono HC2.out.size))
    clear hu3 hb
    go_wp2_with fail

    go_ret2
    obtain rfl : o = some d := by rw [HP.out, if_pos HK1.out]
    exact ⟨⟨u3, rfl, HU3.out⟩, HC3.out⟩
  have bk : ((t.kind : Int) == 1) = false := beq_no (by omega)
  have HK1 := Lib.hid hk1
  clear hk1
  cases b1 with
  | true =>
    go_wp2_with fail
    with_reducible refine (HCl.out _ _ HU2.out).mono ?_
    rintro e w3 ⟨u3, rfl, hu3, hb⟩
    have HU3 := Lib.hid hu3
    have HC3 := Lib.hid (HC2.out.trans (hb.mono HC2.out.size))
    clear hu3 hb
    go_wp2_with fail
    go_ret2
    obtain rfl : o = some d := by rw [HP.out, if_neg HK1.out, undo_bare d (.inl (eq_of_beq HQ1.out.symm))]
    exact ⟨⟨u3, rfl, HU3.out⟩, HC3.out⟩
  | false =>
  cases b2 with
  | true =>
    go_wp2_with fail
    with_reducible refine (HCl.out _ _ HU2.out).mono ?_
    rintro e w3 ⟨u3, rfl, hu3, hb⟩
    have HU3 := Lib.hid hu3
    have HC3 := Lib.hid (HC2.out.trans (hb.mono HC2.out.size))
    clear hu3 hb
    go_wp2_with fail
    go_ret2
    obtain rfl : o = some d := by rw [HP.out, if_neg HK1.out, undo_bare d (.inr (.inl (eq_of_beq HQ2.out.symm)))]
    exact ⟨⟨u3, rfl, HU3.out⟩, HC3.out⟩
  | false =>
  cases b3 with
  | true =>
    go_wp2_with fail
    with_reducible refine (HCl.out _ _ HU2.out).mono ?_
    rintro e w3 ⟨u3, rfl, hu3, hb⟩
    have HU3 := Lib.hid hu3
    have HC3 := Lib.hid (HC2.out.trans (hb.mono HC2.out.size))
    clear hu3 hb
    go_wp2_with fail
    go_ret2
    obtain rfl : o = some d := by rw [HP.out, if_neg HK1.out, undo_bare d (.inr (.inr (eq_of_beq HQ3.out.symm)))]
    exact ⟨⟨u3, rfl, HU3.out⟩, HC3.out⟩
  | false =>
  have hun := undo_kind (e := q) d (by
    rintro (h | h | h)
    · have := HQ1.out; rw [h] at this; exact absurd this (by decide)
    · have := HQ2.out; rw [h] at this; exact absurd this (by decide)
    · have := HQ3.out; rw [h] at this; exact absurd this (by decide))
  have HUo := Lib.hid hun
  clear hun
  obtain ⟨k, hk⟩ : ∃ k, k = kindE q := ⟨_, rfl⟩
  have hk3 : k < 3 := by rw [hk]; exact kindE_lt q
  have HKk := Lib.hid hk
  rw [← hk] at HUo
  clear hk
  go_upto_region 8 with fail
  go_wp2_with fail
  with_reducible refine (HUn.out _).mono ?_
  rintro e w3 ⟨bm, D, rfl, hown, hD, hb⟩
  have HO := Lib.hid hown
  have HU3 := Lib.hid (bytesArg.below HU2.out hb)
  have HC3 := Lib.hid (HC2.out.trans (hb.mono HC2.out.size))
  have HL3 := Lib.hid (HLs.out.below HC3.out)
  obtain ⟨b, hbk⟩ : ∃ b, b = decide (k ≠ 0) := ⟨_, rfl⟩
  have HH : Hid (Maps.has D (.string q) = b) := by unfold Hid; rw [(hD _).1, hbk, HKk.out]
  have HAt : Hid (D.atKey (.string q) (.lit (.int .i64 0)) = .lit (.int .i64 (k : Int))) := by unfold Hid; rw [(hD _).2, HKk.out]
  clear hown hD hb t0 t1 t2 t3 t4 t5 t6 t7 t8
  match k, hk3 with
  | 0, _ =>
    obtain rfl : b = false := hbk
    go_wp2_with (first | (at_lookup; refine wpList_lookup_own_ok _ rfl _ _ 80 rfl 9 78 keyLaw Tryz.underlying80 unR (zeroUn _) (.lit (.int .i64 0)) [] HZ0.out bm 2 D rfl HO.out _ _ rfl HK.out ?_; intro v8 ps hv8; obtain rfl : v8 = .nilFunc := (by rw [HAt.out] at hv8; exact unR_inv (k := 0) hv8); rw [HH.out]))
    go_ret2
    obtain rfl : o = none := by rw [HP.out, if_neg HK1.out, HUo.out]; rfl
    exact ⟨⟨_, rfl, bytesArg_nil _⟩, HC3.out⟩
  | 1, _ =>
    obtain rfl : b = true := hbk
    go_wp2_with (first | (at_lookup; refine wpList_lookup_own_ok _ rfl _ _ 80 rfl 9 78 keyLaw Tryz.underlying80 unR (zeroUn _) (.lit (.int .i64 0)) [] HZ0.out bm 2 D rfl HO.out _ _ rfl HK.out ?_; intro v8 ps hv8; obtain rfl : v8 = .func (.func 50) #[] #[] := (by rw [HAt.out] at hv8; exact unR_inv (k := 1) hv8); rw [HH.out]))
    with_reducible refine (HD1.out _ _ HU3.out HL3.out).mono ?_
    rintro e w4 ⟨⟨u4, rfl, hu4⟩, hb⟩
    have HU4 := Lib.hid hu4
    have HC4 := Lib.hid (HC3.out.trans (hb.mono HC3.out.size))
    clear hu4 hb
    obtain ⟨z, hz⟩ : ∃ z, z = (decS (bareSG d)).isSome := ⟨_, rfl⟩
    rw [← hz]
    have HZ := Lib.hid hz
    clear hz
    go_wp2_with fail
    go_ret2
    obtain rfl : o = decS (bareSG d) := by rw [HP.out, if_neg HK1.out, HUo.out]; rfl
    exact ⟨⟨u4, by rw [← HZ.out]; rfl, HU4.out⟩, HC4.out⟩
  | 2, _ =>
    obtain rfl : b = true := hbk
    go_wp2_with (first | (at_lookup; refine wpList_lookup_own_ok _ rfl _ _ 80 rfl 9 78 keyLaw Tryz.underlying80 unR (zeroUn _) (.lit (.int .i64 0)) [] HZ0.out bm 2 D rfl HO.out _ _ rfl HK.out ?_; intro v8 ps hv8; obtain rfl : v8 = .func (.func 51) #[] #[] := (by rw [HAt.out] at hv8; exact unR_inv (k := 2) hv8); rw [HH.out]))
    with_reducible refine (HD2.out _ _ HU3.out).mono ?_
    rintro e w4 ⟨⟨u4, rfl, hu4⟩, hb⟩
    have HU4 := Lib.hid hu4
    have HC4 := Lib.hid (HC3.out.trans (hb.mono HC3.out.size))
    clear hu4 hb
    obtain ⟨z, hz⟩ : ∃ z, z = (decQ d).isSome := ⟨_, rfl⟩
    rw [← hz]
    have HZ := Lib.hid hz
    clear hz
    go_wp2_with fail
    go_ret2
    obtain rfl : o = decQ d := by rw [HP.out, if_neg HK1.out, HUo.out]; rfl
    exact ⟨⟨u4, by rw [← HZ.out]; rfl, HU4.out⟩, HC4.out⟩
end Go.Proofs.YteallnjbpikhhaaGreatDoor
