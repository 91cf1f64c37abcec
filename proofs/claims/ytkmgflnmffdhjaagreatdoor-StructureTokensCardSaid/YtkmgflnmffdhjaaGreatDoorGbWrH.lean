/- Layer 18: contracts of package wire: quoted. -/
import Derived.Test.YtkmgflnmffdhjaaGreatDoorGbWrE
namespace Go.Proofs.YtkmgflnmffdhjaaGreatDoor
open Go Go.RowKit

theorem pre_drop {l p : List UInt8} {j : Nat} (h : p.isPrefixOf (l.drop j) = true) (hj : j ≤ l.length) : l.drop j = p ++ l.drop (j + p.length) ∧ j + p.length ≤ l.length := by
  obtain ⟨r, hr⟩ := List.isPrefixOf_iff_prefix.1 h
  have hlen := congrArg List.length hr
  simp only [List.length_append, List.length_drop] at hlen
  refine ⟨?_, by omega⟩
  rw [← List.drop_drop, ← hr, List.drop_left]
theorem quoW_end (r : List UInt8) : quoW (34 :: r) = some ([], r) := by
  cases r with
  | nil => rfl
  | cons d r => unfold quoW; rw [if_pos rfl]
theorem quoW_mark {d : UInt8} (r : List UInt8) (h : d = 34 ∨ d = 92) : quoW (92 :: d :: r) = (quoW r).map fun p => (d :: p.1, p.2) := by
  conv => lhs; unfold quoW
  rw [if_neg (by decide), if_pos rfl, if_pos h]
theorem quoW_no {d : UInt8} (r : List UInt8) (h : ¬ (d = 34 ∨ d = 92)) : quoW (92 :: d :: r) = none := by
  conv => lhs; unfold quoW
  rw [if_neg (by decide), if_pos rfl, if_neg h]
theorem quoW_unm {c : UInt8} (h : unmB c = true) : ∀ r, quoW (c :: r) = (quoW r).map fun p => (c :: p.1, p.2) := by
  unfold unmB at h
  rw [Bool.and_eq_true, bne_iff_ne, bne_iff_ne] at h
  intro r
  cases r with
  | nil => unfold quoW; rw [if_neg h.1]; rfl
  | cons d r => conv => lhs; unfold quoW
                rw [if_neg h.1, if_neg h.2]
theorem quoW_row : ∀ (a r : List UInt8), a.all unmB = true → quoW (a ++ r) = (quoW r).map fun p => (a ++ p.1, p.2)
  | [], r, _ => by
    cases h : quoW r <;> simp [h]
  | c :: a, r, h => by
    rw [List.all_cons, Bool.and_eq_true] at h
    rw [List.cons_append, quoW_unm h.1, quoW_row a r h.2]
    cases quoW r <;> rfl
/-- What of a quoted text is still to come, behind what is told. -/
def quoB (t : List UInt8) (o : Option (List UInt8 × List UInt8)) : Option (List UInt8 × List UInt8) := o.map fun p => (t ++ p.1, p.2)
theorem quoB_row {l t : List UInt8} {j j' : Nat} (h1 : (l.drop j).take (j' - j) = (l.drop j).takeWhile unmB) (h2 : l.drop j' = (l.drop j).dropWhile unmB) : quoB t (quoW (l.drop j)) = quoB (t ++ (l.drop j).take (j' - j)) (quoW (l.drop j')) := by
  have e : l.drop j = (l.drop j).take (j' - j) ++ l.drop j' := by rw [h1, h2, List.takeWhile_append_dropWhile]
  conv => lhs; rw [e, quoW_row _ _ (by rw [h1]; exact List.all_takeWhile)]
  unfold quoB
  cases quoW (l.drop j') <;> simp
theorem quoB_mark {t r : List UInt8} {d : UInt8} (h : d = 34 ∨ d = 92) : quoB t (quoW (92 :: d :: r)) = quoB (t ++ [d]) (quoW r) := by
  rw [quoW_mark r h]
  unfold quoB
  cases quoW r <;> simp
/-- Behind a row of bytes that are no marks one that is none of the three ends it all. -/
theorem quoW_stop {l : List UInt8} {j : Nat} (hj : j ≤ l.length) (hm : ∀ h : j < l.length, unmB l[j] = false) (h1 : ([34] : List UInt8).isPrefixOf (l.drop j) = false) (h2 : ([92, 34] : List UInt8).isPrefixOf (l.drop j) = false) (h3 : ([92, 92] : List UInt8).isPrefixOf (l.drop j) = false) : quoW (l.drop j) = none := by
  by_cases hlt : j < l.length
  · have hu := hm hlt
    rw [drop_consL hlt] at h1 h2 h3 ⊢
    unfold unmB at hu
    rw [Bool.and_eq_false_iff, bne_eq_false_iff_eq, bne_eq_false_iff_eq] at hu
    rcases hu with hu | hu
    · rw [hu] at h1; simp at h1
    · rw [hu] at h2 h3 ⊢
      cases hr : l.drop (j + 1) with
      | nil => rfl
      | cons d r =>
        rw [hr] at h2 h3
        refine quoW_no r ?_
        rintro (rfl | rfl)
        · simp at h2
        · simp at h3
  · rw [List.drop_eq_nil_of_le (by omega)]
    rfl
/-- What 'quoted' answers. -/
def QuoW (B b off cap : Nat) (l : List UInt8) (w : World) (o : Option (List UInt8 × List UInt8)) (e : Ending) (w' : World) : Prop :=
  match o with
  | none => e = .returned (.tuple #[.slice none 0 0, .bool false]) ∧ ∃ k', k' ≤ l.length ∧ Rb w' B b off cap l k' ∧ Gr B w w'
  | some (t, r) => ∃ (v : Value) (k' : Nat), e = .returned (.tuple #[v, .bool true]) ∧ bytesArg w' v t ∧ t.length ≤ l.length ∧ k' ≤ l.length ∧ Rb w' B b off cap l k' ∧ l.drop k' = r ∧ Gr B w w'
theorem cutV_told {W : World} {B b off cap base f t : Nat} {l : List UInt8} {k : Nat} (h : Rb W B b off cap l k) (hf : f ≤ t) (ht : t ≤ l.length) : Told W base B (cutV b off f t) ((l.drop f).take (t - f)) := by
  have e : ((l.drop f).take (t - f)).length = t - f := by rw [List.length_take, List.length_drop]; omega
  have hs := cutV_src h.src hf ht
  have hm := h.mx
  have hl := h.le
  right
  unfold cutV
  rw [e]
  unfold fromA at hs ⊢
  split
  · next e1 =>
    rw [if_pos e1] at hs
    exact ⟨b, off, rfl, h.lt, h.ne, by omega, hs⟩
  · next e1 =>
    rw [if_neg e1] at hs
    exact ⟨b, off + f, rfl, h.lt, h.ne, by omega, hs⟩
theorem mark_stop {l : List UInt8} {j : Nat} {p : UInt8 → Bool} {m : List UInt8} (h : l.drop j = m.dropWhile p) (hlt : j < l.length) : p l[j] = false := by
  rw [drop_consL hlt] at h
  have := List.head?_dropWhile_not p m
  rw [← h] at this
  simp only [List.head?_cons] at this
  exact this
set_option maxRecDepth 100000 in
set_option maxHeartbeats 4000000 in
theorem wquoted_any (B b off cap : Nat) (l : List UInt8) (k : Nat) (w : World) (hr : Rb w B b off cap l k) (hk : k ≤ l.length) :
    Calls Tryz.prog 27 #[.pointer (some ⟨B, 0, none⟩)] w (QuoW B b off cap l w (quoW (l.drop k))) := by
  obtain ⟨i0, hi, hz⟩ := Option.map_eq_some_iff.1 Tryz.infoB
  simp only [Prod.mk.injEq] at hz
  obtain ⟨hz0, hz1, hz2⟩ := hz
  have hBw := hr.ltB
  have hbw := hr.lt
  have hsm := hr.sm
  have HR := Lib.hid hr
  have HRow := Lib.hid (fun j W (h : Rb W B b off cap l j) hj => wrow_unm B b off cap l j W h hj)
  unfold RowW at HRow
  have HTk := Lib.hid (fun j q p W x hq hp hx (h : Rb W B b off cap l j) hj => wtakes_any B b off cap l j q p W hq hp h hj x hx)
  have HR0 := HRow.out k w hr hk
  clear hr
  go_enter Tryz.func27, Tryz.ntmps27
  go_wp2_with fail
  with_reducible refine HR0.mono ?_
  rintro e w1 ⟨k1, rfl, hr1, hk1, hl1, ht1, hd1, hg1⟩
  have HR1 := Lib.hid hr1
  have HT1 : Hid (Told w1 w.heap.size B (cutV b off k k1) ((l.drop k).take (k1 - k))) := cutV_told hr1 hk1 hl1
  have HM1 : Hid (∀ h : k1 < l.length, unmB l[k1] = false) := fun h => mark_stop hd1 h
  have HS1 : Hid (quoB [] (quoW (l.drop k)) = quoB ((l.drop k).take (k1 - k)) (quoW (l.drop k1))) := by
    have := quoB_row (t := []) ht1 hd1
    rw [List.nil_append] at this
    exact this
  have HL1 : Hid (((l.drop k).take (k1 - k)).length ≤ k1) := by unfold Hid; rw [List.length_take]; omega
  have HG1 := Lib.hid hg1
  clear hr1 ht1 hd1 hg1 HR0 HR
  generalize (l.drop k).take (k1 - k) = t1 at HT1 HS1 HL1
  obtain ⟨v1, hv1⟩ : ∃ v, v = cutV b off k k1 := ⟨_, rfl⟩
  rw [← hv1] at HT1 ⊢
  clear hv1
  go_wp2_with fail
  go_loopg [4] (l.length - k1) (fun g v wr => ∃ (j : Nat) (t : List UInt8), g = l.length - j ∧ j ≤ l.length ∧ Hid (t.length ≤ j) ∧ Hid (Rb wr B b off cap l j) ∧ Hid (Told wr w.heap.size B v t) ∧ Hid (Gr B w wr) ∧ Hid (∀ h : j < l.length, unmB l[j] = false) ∧ Hid (quoB [] (quoW (l.drop k)) = quoB t (quoW (l.drop j))))
  case atStart => exact ⟨k1, t1, rfl, hl1, HL1, HR1, HT1, HG1, HM1, HS1⟩
  case round =>
    obtain ⟨j, t, rfl, hj, HLt, HRj, HTt, HG, HM, HS⟩ := hrel
    rcases Bool.eq_false_or_eq_true (([34] : List UInt8).isPrefixOf (l.drop j)) with hx1 | hx1
    · have HX := Lib.hid (pre_drop hx1 hj)
      have HT1 := Lib.hid (HTk.out j ⟨#[34]⟩ [34] wr true rfl (by decide) hx1 HRj.out hj)
      clear hx1
      go_wp2_with fail
      with_reducible refine HT1.out.mono ?_
      rintro e w2 ⟨rfl, hr2, hg2⟩
      have HR2 := Lib.hid hr2
      have HG2 := Lib.hid hg2
      clear hr2 hg2
      go_wp2_with fail
      try rw [Exit.noGoto_ret]
      go_ret2
      have e1 : quoW (l.drop k) = some (t, l.drop (j + 1)) := by
        have h := HS.out
        rw [HX.out.1] at h
        rw [show ([34] : List UInt8) ++ l.drop (j + ([34] : List UInt8).length) = 34 :: l.drop (j + 1) from rfl, quoW_end] at h
        unfold quoB at h
        cases hq : quoW (l.drop k) with
        | none => rw [hq] at h; simp at h
        | some p =>
          obtain ⟨p1, p2⟩ := p
          rw [hq] at h
          simp only [Option.map_some, List.nil_append, List.append_nil, Option.some.injEq, Prod.mk.injEq] at h
          rw [h.1, h.2]
      rw [e1]
      exact ⟨_, j + 1, rfl, (HTt.out.gr HG2.out hBw).arg, by have := HLt.out; omega, HX.out.2, HR2.out, rfl, HG.out.trans HG2.out⟩
    · have HT1 := Lib.hid (HTk.out j ⟨#[34]⟩ [34] wr false rfl (by decide) hx1 HRj.out hj)
      go_wp2_with fail
      with_reducible refine HT1.out.mono ?_
      rintro e w2 ⟨rfl, hr2, hg2⟩
      have HR2 : Hid (Rb w2 B b off cap l j) := hr2
      have HTt2 := Lib.hid (HTt.out.gr hg2 hBw)
      have HG2 := Lib.hid (HG.out.trans hg2)
      clear hr2 hg2 HT1 HRj HTt HG
      rcases Bool.eq_false_or_eq_true (([92, 34] : List UInt8).isPrefixOf (l.drop j)) with hx2 | hx2
      · have HX := Lib.hid (pre_drop hx2 hj)
        have HT2 := Lib.hid (HTk.out j ⟨#[92, 34]⟩ [92, 34] w2 true rfl (by decide) hx2 HR2.out hj)
        clear hx2
        go_wp2_with fail
        with_reducible refine HT2.out.mono ?_
        rintro e w3 ⟨rfl, hr3, hg3⟩
        have HR3 : Hid (Rb w3 B b off cap l (j + 2)) := hr3
        have HTt3 := Lib.hid (HTt2.out.gr hg3 hBw)
        have HG3 := Lib.hid (HG2.out.trans hg3)
        clear hr3 hg3 HT2 HR2 HTt2 HG2
        have hj2 : j + 2 ≤ l.length := HX.out.2
        go_wp2_with (at_builtin; refine wpList_append_told rfl _ _ 22 rfl w.heap.size B i0 Tryz.underlying22 hi hz0 hz1 hz2 _ t rfl ?c1 _ 1 1 [34] rfl rfl (sliceAt_new _ _ _ _ _ rfl) ?c2 ?c3 ?_)
        case c1 => exact HTt3.out.below ((Below.refl _ _).alloc (Nat.le_refl _) _) hBw
        case c2 => have := HLt.out; omega
        case c3 => have := HG3.out.size; simp; omega
        intro v4 w4 ht4 hb4
        have HB4 : Hid (Below w.heap.size w3 w4) := ((Below.refl w3.heap.size w3).alloc (Nat.le_refl _) _ |>.mono HG3.out.size).trans hb4
        have HR4 := Lib.hid (HR3.out.low HB4.out hBw hbw)
        have HT4 := Lib.hid ht4
        have HG4 := Lib.hid (HG3.out.low HB4.out)
        have HRo := HRow.out (j + 2) w4 HR4.out hj2
        clear ht4 hb4 HB4 HR3 HTt3 HG3
        go_wp2_with fail
        with_reducible refine HRo.mono ?_
        rintro e w5 ⟨k5, rfl, hr5, hk5, hl5, ht5, hd5, hg5⟩
        have HR5 := Lib.hid hr5
        have HG5 := Lib.hid (HG4.out.trans hg5)
        have HTl5 := Lib.hid (HT4.out.gr hg5 hBw)
        have HM5 : Hid (∀ h : k5 < l.length, unmB l[k5] = false) := fun h => mark_stop hd5 h
        have HS5 : Hid (quoB [] (quoW (l.drop k)) = quoB (t ++ 34 :: (l.drop (j + 2)).take (k5 - (j + 2))) (quoW (l.drop k5))) := by
          unfold Hid
          rw [HS.out, HX.out.1]
          show quoB t (quoW (92 :: 34 :: l.drop (j + 2))) = _
          rw [quoB_mark (by decide), quoB_row ht5 hd5, List.append_assoc]
          rfl
        have HSl : Hid (sliceAt w5 (some (fromA b off k5 (j + 2))) ((l.drop (j + 2)).take (k5 - (j + 2)))) := cutV_src hr5.src hk5 hl5
        have hE5 : ((l.drop (j + 2)).take (k5 - (j + 2))).length = k5 - (j + 2) := by rw [List.length_take, List.length_drop]; omega
        have HL5 := Lib.hid hE5
        clear hr5 hg5 ht5 hd5 HR4 HT4 HG4 HRo hE5
        generalize (l.drop (j + 2)).take (k5 - (j + 2)) = t5 at HS5 HSl HL5
        unfold cutV
        go_wp2_with (at_builtin; refine wpList_append_told rfl _ _ 22 rfl w.heap.size B i0 Tryz.underlying22 hi hz0 hz1 hz2 _ (t ++ [34]) rfl HTl5.out _ (k5 - (j + 2)) (k5 - (j + 2)) t5 HL5.out rfl HSl.out ?c2 ?c3 ?_)
        case c2 => have := HLt.out; simp; omega
        case c3 => exact HG5.out.size
        intro v6 w6 ht6 hb6
        have HR6 := Lib.hid (HR5.out.low hb6 hBw hbw)
        have HT6 := Lib.hid ht6
        have HG6 := Lib.hid (HG5.out.low hb6)
        clear ht6 hb6 HR5 HG5 HTl5 HSl
        go_wp2_with fail
        go_roundg (l.length - k5)
        case measure => omega
        case rel => exact ⟨k5, t ++ 34 :: t5, rfl, hl5, by have h1 := HLt.out; have h2 := HL5.out; unfold Hid; simp; omega, HR6.out, HT6.out, HG6.out, HM5.out, HS5.out⟩
      · have HT3 := Lib.hid (HTk.out j ⟨#[92, 34]⟩ [92, 34] w2 false rfl (by decide) hx2 HR2.out hj)
        go_wp2_with fail
        with_reducible refine HT3.out.mono ?_
        rintro e w3i ⟨rfl, hr3, hg3⟩
        have HR3i : Hid (Rb w3i B b off cap l j) := hr3
        have HTt3i := Lib.hid (HTt2.out.gr hg3 hBw)
        have HG3i := Lib.hid (HG2.out.trans hg3)
        clear hr3 hg3 HT3 HR2 HTt2 HG2
        rcases Bool.eq_false_or_eq_true (([92, 92] : List UInt8).isPrefixOf (l.drop j)) with hx3 | hx3
        · have HX := Lib.hid (pre_drop hx3 hj)
          have HT2 := Lib.hid (HTk.out j ⟨#[92, 92]⟩ [92, 92] w3i true rfl (by decide) hx3 HR3i.out hj)
          clear hx3
          go_wp2_with fail
          with_reducible refine HT2.out.mono ?_
          rintro e w3 ⟨rfl, hr3, hg3⟩
          have HR3 : Hid (Rb w3 B b off cap l (j + 2)) := hr3
          have HTt3 := Lib.hid (HTt3i.out.gr hg3 hBw)
          have HG3 := Lib.hid (HG3i.out.trans hg3)
          clear hr3 hg3 HT2 HR3i HTt3i HG3i
          have hj2 : j + 2 ≤ l.length := HX.out.2
          go_wp2_with (at_builtin; refine wpList_append_told rfl _ _ 22 rfl w.heap.size B i0 Tryz.underlying22 hi hz0 hz1 hz2 _ t rfl ?c1 _ 1 1 [92] rfl rfl (sliceAt_new _ _ _ _ _ rfl) ?c2 ?c3 ?_)
          case c1 => exact HTt3.out.below ((Below.refl _ _).alloc (Nat.le_refl _) _) hBw
          case c2 => have := HLt.out; omega
          case c3 => have := HG3.out.size; simp; omega
          intro v4 w4 ht4 hb4
          have HB4 : Hid (Below w.heap.size w3 w4) := ((Below.refl w3.heap.size w3).alloc (Nat.le_refl _) _ |>.mono HG3.out.size).trans hb4
          have HR4 := Lib.hid (HR3.out.low HB4.out hBw hbw)
          have HT4 := Lib.hid ht4
          have HG4 := Lib.hid (HG3.out.low HB4.out)
          have HRo := HRow.out (j + 2) w4 HR4.out hj2
          clear ht4 hb4 HB4 HR3 HTt3 HG3
          go_wp2_with fail
          with_reducible refine HRo.mono ?_
          rintro e w5 ⟨k5, rfl, hr5, hk5, hl5, ht5, hd5, hg5⟩
          have HR5 := Lib.hid hr5
          have HG5 := Lib.hid (HG4.out.trans hg5)
          have HTl5 := Lib.hid (HT4.out.gr hg5 hBw)
          have HM5 : Hid (∀ h : k5 < l.length, unmB l[k5] = false) := fun h => mark_stop hd5 h
          have HS5 : Hid (quoB [] (quoW (l.drop k)) = quoB (t ++ 92 :: (l.drop (j + 2)).take (k5 - (j + 2))) (quoW (l.drop k5))) := by
            unfold Hid
            rw [HS.out, HX.out.1]
            show quoB t (quoW (92 :: 92 :: l.drop (j + 2))) = _
            rw [quoB_mark (by decide), quoB_row ht5 hd5, List.append_assoc]
            rfl
          have HSl : Hid (sliceAt w5 (some (fromA b off k5 (j + 2))) ((l.drop (j + 2)).take (k5 - (j + 2)))) := cutV_src hr5.src hk5 hl5
          have hE5 : ((l.drop (j + 2)).take (k5 - (j + 2))).length = k5 - (j + 2) := by rw [List.length_take, List.length_drop]; omega
          have HL5 := Lib.hid hE5
          clear hr5 hg5 ht5 hd5 HR4 HT4 HG4 HRo hE5
          generalize (l.drop (j + 2)).take (k5 - (j + 2)) = t5 at HS5 HSl HL5
          unfold cutV
          go_wp2_with (at_builtin; refine wpList_append_told rfl _ _ 22 rfl w.heap.size B i0 Tryz.underlying22 hi hz0 hz1 hz2 _ (t ++ [92]) rfl HTl5.out _ (k5 - (j + 2)) (k5 - (j + 2)) t5 HL5.out rfl HSl.out ?c2 ?c3 ?_)
          case c2 => have := HLt.out; simp; omega
          case c3 => exact HG5.out.size
          intro v6 w6 ht6 hb6
          have HR6 := Lib.hid (HR5.out.low hb6 hBw hbw)
          have HT6 := Lib.hid ht6
          have HG6 := Lib.hid (HG5.out.low hb6)
          clear ht6 hb6 HR5 HG5 HTl5 HSl
          go_wp2_with fail
          go_roundg (l.length - k5)
          case measure => omega
          case rel => exact ⟨k5, t ++ 92 :: t5, rfl, hl5, by have h1 := HLt.out; have h2 := HL5.out; unfold Hid; simp; omega, HR6.out, HT6.out, HG6.out, HM5.out, HS5.out⟩
        · have HT4 := Lib.hid (HTk.out j ⟨#[92, 92]⟩ [92, 92] w3i false rfl (by decide) hx3 HR3i.out hj)
          have HQ : Hid (quoW (l.drop k) = none) := by
            have h := HS.out
            rw [quoW_stop hj HM.out hx1 hx2 hx3] at h
            unfold quoB at h
            unfold Hid
            cases hq : quoW (l.drop k) with
            | none => rfl
            | some p => rw [hq] at h; simp at h
          clear hx1 hx2 hx3
          go_wp2_with fail
          with_reducible refine HT4.out.mono ?_
          rintro e w4 ⟨rfl, hr4, hg4⟩
          have HR4 : Hid (Rb w4 B b off cap l j) := hr4
          have HG4 := Lib.hid (HG3i.out.trans hg4)
          clear hr4 hg4
          go_wp2_with fail
          try rw [Exit.noGoto_ret]
          go_ret2
          rw [HQ.out]
          exact ⟨rfl, j, hj, HR4.out, HG4.out⟩
end Go.Proofs.YtkmgflnmffdhjaaGreatDoor

/- Layer 18: contracts of package wire: a literal's head. -/
namespace Go.Proofs.YtkmgflnmffdhjaaGreatDoor
open Go Go.RowKit

/-- A box of two cells. -/
def B2 (W : World) (R : Nat) (t : TypeId) (x y : Value) : Prop := W.heap[R]? = some (.cells #[x, y] t (0, 0))
section
variable {W W' : World} {R : Nat} {t : TypeId} {x y : Value}
theorem B2.lt (h : B2 W R t x y) : R < W.heap.size := (Array.getElem?_eq_some_iff.1 h).1
theorem B2.c0 (h : B2 W R t x y) : W.cell? ⟨R, 0, none⟩ = some x := by unfold B2 at h; simp [World.cell?, h]
theorem B2.c1 (h : B2 W R t x y) : W.cell? ⟨R, 1, none⟩ = some y := by unfold B2 at h; simp [World.cell?, h]
theorem B2.f (h : B2 W R t x y) (j : Nat) : W.frozen? ⟨R, j, none⟩ = false := by unfold B2 at h; simp [World.frozen?, h]
theorem B2.block (h : B2 W R t x y) (hb : W'.heap[R]? = W.heap[R]?) : B2 W' R t x y := hb.trans h
theorem B2.below (h : B2 W R t x y) (hb : Below W.heap.size W W') : B2 W' R t x y := h.block (hb.block R h.lt)
theorem B2.gr {B : Nat} (h : B2 W R t x y) (hg : Gr B W W') (hne : R ≠ B) : B2 W' R t x y := h.block (hg.block R h.lt (fun e => hne (Option.some.inj e)))
theorem B2.set0 (h : B2 W R t x y) (u : Value) : B2 (W.setCell ⟨R, 0, none⟩ u) R t u y := by
  unfold B2 at h ⊢
  simp [World.setCell, Array.getElem?_modify, h]
theorem B2.set1 (h : B2 W R t x y) (u : Value) : B2 (W.setCell ⟨R, 1, none⟩ u) R t x u := by
  unfold B2 at h ⊢
  simp [World.setCell, Array.getElem?_modify, h]
theorem B2.new (w : World) (t : TypeId) (x y : Value) : B2 (w.alloc (.cells #[x, y] t)) w.heap.size t x y := heap_alloc_new w _
end
theorem results_cell_rowW {P : Program} {fn : Func} {p u : Tmp} {ty : TypeId} (h : fn.results = #[.cell p ty, .tmp u]) (tmps : Array Value) (w : World) (g : Nat) (t : TypeId) (cs : Array Value) (fr : Nat × Nat) (d : TypeDesc)
    (hp : tmps.getD p undef = .pointer (some ⟨g, 0, none⟩)) (hg : w.heap[g]? = some (.cells cs t fr))
    (hu : P.underlying ty = some d) (hd : (match d with | .struct _ | .array _ _ => true | _ => false) = true) (hi : (P.info? ty).map (·.size) = some cs.size) :
    (results fn tmps).run P w = .ok (.tuple #[.agg cs, tmps.getD u undef]) w := by
  have hp' : tmps[p]?.getD undef = .pointer (some ⟨g, 0, none⟩) := by simpa using hp
  simp [results, h, hp', asAddr, run_loadVar_row w g t ty cs fr d hg hu hd hi]
theorem isPre1 (c : UInt8) (l : List UInt8) : ([c] : List UInt8).isPrefixOf l = true ↔ ∃ r, l = c :: r := by
  rw [List.isPrefixOf_iff_prefix]
  exact ⟨fun ⟨r, h⟩ => ⟨r, h.symm⟩, fun ⟨r, h⟩ => ⟨r, h.symm⟩⟩
theorem isPre1_no {c : UInt8} {l : List UInt8} (h : ([c] : List UInt8).isPrefixOf l = false) : ∀ r, l ≠ c :: r := by
  intro r e
  rw [(isPre1 c l).2 ⟨r, e⟩] at h
  cases h
theorem headW_none {l : List UInt8} (h1 : ∀ r, l ≠ 123 :: r) (h2 : ∀ r, l ≠ 126 :: 123 :: r) : headW l = none := by
  unfold headW
  split
  · next r => exact absurd rfl (h2 r)
  · next r => exact absurd rfl (h1 r)
  · rfl
/-- How a head begins: perhaps a tilde, then a brace. -/
theorem head_open {l : List UInt8} {k : Nat} (hk : k ≤ l.length) (x1 x2 : Bool) (h1 : ([126] : List UInt8).isPrefixOf (l.drop k) = x1) (h2 : ([123] : List UInt8).isPrefixOf (l.drop (if x1 = true then k + 1 else k)) = x2) :
    headW (l.drop k) = if x2 = true then headB (l.drop ((if x1 = true then k + 1 else k) + 1)) else none := by
  cases x1 with
  | true =>
    simp only [if_true] at h2 ⊢
    obtain ⟨e, hk1⟩ := pre_drop h1 hk
    have e' : l.drop k = 126 :: l.drop (k + 1) := e
    cases x2 with
    | true =>
      obtain ⟨e2, _⟩ := pre_drop h2 hk1
      have e2' : l.drop (k + 1) = 123 :: l.drop (k + 1 + 1) := e2
      rw [e', e2']
      simp [headW]
    | false =>
      rw [if_neg (by decide)]
      refine headW_none (fun r e3 => ?_) (fun r e3 => ?_)
      · rw [e'] at e3
        cases e3
      · rw [e'] at e3
        have e4 := List.cons.inj e3
        exact isPre1_no h2 r e4.2
  | false =>
    simp only [Bool.false_eq_true, if_false] at h2 ⊢
    cases x2 with
    | true =>
      obtain ⟨e2, _⟩ := pre_drop h2 hk
      have e2' : l.drop k = 123 :: l.drop (k + 1) := e2
      rw [e2']
      simp [headW]
    | false =>
      rw [if_neg (by decide)]
      exact headW_none (isPre1_no h2) (fun r => isPre1_no h1 (123 :: r))
/-- How it ends: a number, perhaps a plus, then a brace. -/
theorem head_close {l s : List UInt8} {j : Nat} (hj : j ≤ l.length) (hd : l.drop j = s.dropWhile isDig) {n : Nat} (hn : numSpec (s.takeWhile isDig) = some n) (x3 x4 : Bool) (h3 : ([43] : List UInt8).isPrefixOf (l.drop j) = x3) (h4 : ([125] : List UInt8).isPrefixOf (l.drop (if x3 = true then j + 1 else j)) = x4) :
    headB s = if x4 = true then some (n, !x3, l.drop ((if x3 = true then j + 1 else j) + 1)) else none := by
  unfold headB
  rw [hn, ← hd]
  simp only
  cases x3 with
  | true =>
    simp only [if_true] at h4 ⊢
    obtain ⟨e, hk1⟩ := pre_drop h3 hj
    have e' : l.drop j = 43 :: l.drop (j + 1) := e
    cases x4 with
    | true =>
      obtain ⟨e2, _⟩ := pre_drop h4 hk1
      have e2' : l.drop (j + 1) = 125 :: l.drop (j + 1 + 1) := e2
      rw [e', e2']
      simp
    | false =>
      rw [if_neg (by decide), e']
      split
      · next q e3 =>
        have e4 := List.cons.inj e3
        exact absurd e4.2 (isPre1_no h4 q)
      · next q e3 => cases e3
      · rfl
  | false =>
    simp only [Bool.false_eq_true, if_false] at h4 ⊢
    cases x4 with
    | true =>
      obtain ⟨e2, _⟩ := pre_drop h4 hj
      have e2' : l.drop j = 125 :: l.drop (j + 1) := e2
      rw [e2']
      simp
    | false =>
      rw [if_neg (by decide)]
      split
      · next q e3 => exact absurd e3 (isPre1_no h3 _)
      · next q e3 => exact absurd e3 (isPre1_no h4 _)
      · rfl
theorem headB_nonum {s : List UInt8} (h : numSpec (s.takeWhile isDig) = none) : headB s = none := by unfold headB; rw [h]
/-- What 'head' answers. -/
def HdW (B b off cap : Nat) (l : List UInt8) (k : Nat) (w : World) (e : Ending) (w' : World) : Prop :=
  ∃ (n : Nat) (u x : Bool) (k' : Nat), e = .returned (.tuple #[.agg #[.int .i64 (n : Int), .bool u], .bool x]) ∧ Rb w' B b off cap l k' ∧ k' ≤ l.length ∧ Gr B w w' ∧ headW (l.drop k) = if x = true then some (n, !u, l.drop k') else none
end Go.Proofs.YtkmgflnmffdhjaaGreatDoor

/- Layer 18: contracts of package wire: head. -/
namespace Go.Proofs.YtkmgflnmffdhjaaGreatDoor
open Go Go.RowKit

set_option maxRecDepth 100000 in
set_option maxHeartbeats 4000000 in
theorem whead_any (B b off cap : Nat) (l : List UInt8) (k : Nat) (w : World) (hr : Rb w B b off cap l k) (hk : k ≤ l.length) :
    Calls Tryz.prog 49 #[.pointer (some ⟨B, 0, none⟩)] w (HdW B b off cap l k w) := by
  have hBw := hr.ltB
  have hbw := hr.lt
  have hsm := hr.sm
  have hmx := hr.mx
  have hle := hr.le
  have HRow := Lib.hid (fun j W (h : Rb W B b off cap l j) hj => wrow_dig B b off cap l j W h hj)
  unfold RowW at HRow
  have HTk := Lib.hid (fun j q p W x hq hp hx (h : Rb W B b off cap l j) hj => wtakes_any B b off cap l j q p W hq hp h hj x hx)
  have HB0 : Hid (B2 (w.alloc (.cells #[.int .i64 0, .bool false] 114)) w.heap.size 114 (.int .i64 0) (.bool false)) := B2.new _ _ _ _
  have HA0 : Hid (Below w.heap.size w (w.alloc (.cells #[.int .i64 0, .bool false] 114))) := (Below.refl _ _).alloc (Nat.le_refl _) _
  have HR0 := Lib.hid (hr.below HA0.out)
  obtain ⟨x1, hx1⟩ : ∃ x, ([126] : List UInt8).isPrefixOf (l.drop k) = x := ⟨_, rfl⟩
  obtain ⟨k1, hk1⟩ : ∃ m, m = (if x1 = true then k + 1 else k) := ⟨_, rfl⟩
  have hk1l : k1 ≤ l.length := by
    rw [hk1]
    split
    · next e => rw [e] at hx1; exact (pre_drop hx1 hk).2
    · exact hk
  obtain ⟨x2, hx2⟩ : ∃ x, ([123] : List UInt8).isPrefixOf (l.drop k1) = x := ⟨_, rfl⟩
  have HO : Hid (headW (l.drop k) = if x2 = true then headB (l.drop (k1 + 1)) else none) := by
    have := head_open hk x1 x2 hx1 (by rw [← hk1]; exact hx2)
    rw [← hk1] at this
    exact this
  have HW : Hid (∀ (W : World) (u v : Value), Below w.heap.size W ((W.setCell ⟨w.heap.size, 0, none⟩ u).setCell ⟨w.heap.size, 1, none⟩ v)) := fun W u v => ((Below.refl w.heap.size W).setCell (p := ⟨w.heap.size, 0, none⟩) (Nat.le_refl _) u).setCell (p := ⟨w.heap.size, 1, none⟩) (Nat.le_refl _) v
  have HT1 := Lib.hid (HTk.out k ⟨#[126]⟩ [126] _ x1 rfl (by decide) hx1 HR0.out hk)
  have HK1 := Lib.hid hk1
  have HX2 := Lib.hid hx2
  clear hr hx1 hk1 hx2
  go_enter Tryz.func49, Tryz.ntmps49
  go_wp2_with fail
  with_reducible refine HT1.out.mono ?_
  rintro e w1 ⟨rfl, hr1, hg1⟩
  have HR1 : Hid (Rb w1 B b off cap l k1) := by
    have e1 : (if x1 = true then k + ([126] : List UInt8).length else k) = k1 := HK1.out.symm
    rw [e1] at hr1
    exact hr1
  have HB1 := Lib.hid (HB0.out.gr hg1 (by omega))
  have HG1 := Lib.hid (((Gr.refl B w).below HA0.out).trans hg1)
  have HT2 := Lib.hid (HTk.out k1 ⟨#[123]⟩ [123] w1 x2 rfl (by decide) HX2.out HR1.out hk1l)
  clear hr1 hg1 HT1 HR0 HB0 HA0
  go_wp2_with fail
  with_reducible refine HT2.out.mono ?_
  rintro e w2 ⟨rfl, hr2, hg2⟩
  have HB2 := Lib.hid (HB1.out.gr hg2 (by omega))
  have HG2 := Lib.hid (HG1.out.trans hg2)
  cases x2 with
  | false =>
    have HR2 : Hid (Rb w2 B b off cap l k1) := hr2
    have c0 := HB2.out.c0
    have c1 := HB2.out.c1
    have f0 := HB2.out.f 0
    have f1 := HB2.out.f 1
    clear hr2 hg2 HT2 HR1 HB1 HG1
    go_wp2_with fail
    (try simp only [Exit.inBlock, Exit.then])
    refine bodyPost_ret (results_cell_rowW (P := Tryz.prog) Tryz.results49 _ _ w.heap.size 114 _ (0, 0) _ rfl ((HB2.out.set0 (.int .i64 0)).set1 (.bool false)) Tryz.underlying114 rfl (by kernel_rfl)) rfl ?_
    exact ⟨0, false, false, k1, rfl, HR2.out.low (HW.out _ _ _) hBw hbw, hk1l, HG2.out.low (HW.out _ _ _), by rw [HO.out]; rfl⟩
  | true =>
    have HO1 : Hid (headW (l.drop k) = headB (l.drop (k1 + 1))) := HO.out
    clear HO
    have HX := Lib.hid (pre_drop HX2.out hk1l)
    have hk2 : k1 + 1 ≤ l.length := HX.out.2
    have HR2 : Hid (Rb w2 B b off cap l (k1 + 1)) := hr2
    have HRo := HRow.out (k1 + 1) w2 HR2.out hk2
    clear hr2 hg2 HT2 HR1 HB1 HG1
    go_wp2_with fail
    with_reducible refine HRo.mono ?_
    rintro e w3 ⟨k3, rfl, hr3, hk3, hl3, ht3, hd3, hg3⟩
    have HR3 := Lib.hid hr3
    have HB3 := Lib.hid (HB2.out.gr hg3 (by omega))
    have HG3 := Lib.hid (HG2.out.trans hg3)
    have HD3 := Lib.hid hd3
    have hcv := bytesArg_string (cutV_arg hr3.src hk3 hl3 (by omega))
    rw [ht3] at hcv
    have HL3 : Hid (((l.drop (k1 + 1)).takeWhile isDig).length ≤ 1000000000000) := by
      unfold Hid
      rw [← ht3, List.length_take, List.length_drop]
      omega
    have HN := Lib.hid (number_any ⟨((l.drop (k1 + 1)).takeWhile isDig).toArray⟩ w3 (by have := HL3.out; show _ ≤ _; simp only [ByteArray.size, List.size_toArray]; omega))
    simp only at HN
    clear hr3 ht3 hd3 hg3 HR2 HB2 HG2 HRo
    cases hn : numSpec ((l.drop (k1 + 1)).takeWhile isDig) with
    | none =>
      have HE : Hid (headW (l.drop k) = none) := by unfold Hid; rw [HO1.out, headB_nonum hn]
      rw [hn] at HN
      unfold numV at HN
      clear hn
      go_wp2_with fail
      with_reducible refine HN.out.mono ?_
      rintro e w4 ⟨rfl, hb4⟩
      have HR4 := Lib.hid (HR3.out.below hb4)
      have HB4 := Lib.hid (HB3.out.below hb4)
      have HG4 := Lib.hid (HG3.out.below hb4)
      obtain ⟨x3, hx3⟩ : ∃ x, ([43] : List UInt8).isPrefixOf (l.drop k3) = x := ⟨_, rfl⟩
      have HT3 := Lib.hid (HTk.out k3 ⟨#[43]⟩ [43] w4 x3 rfl (by decide) hx3 HR4.out hl3)
      have HX3 := Lib.hid hx3
      clear hb4 HR3 HB3 HG3 HN hx3 hcv
      go_wp2_with fail
      with_reducible refine HT3.out.mono ?_
      rintro e w5 ⟨rfl, hr5, hg5⟩
      have HR5 := Lib.hid hr5
      have HB5 := Lib.hid (HB4.out.gr hg5 (by omega))
      have HG5 := Lib.hid (HG4.out.trans hg5)
      have c0 := HB5.out.c0
      have c1 := HB5.out.c1
      have f0 := HB5.out.f 0
      have f1 := HB5.out.f 1
      clear hr5 hg5 HR4 HB4 HG4 HT3
      go_wp2_with fail
      (try simp only [Exit.inBlock, Exit.then])
      refine bodyPost_ret (results_cell_rowW (P := Tryz.prog) Tryz.results49 _ _ w.heap.size 114 _ (0, 0) _ rfl ((HB5.out.set0 (.int .i64 0)).set1 (.bool x3)) Tryz.underlying114 rfl (by kernel_rfl)) rfl ?_
      refine ⟨0, x3, false, _, rfl, HR5.out.low (HW.out _ _ _) hBw hbw, ?_, HG5.out.low (HW.out _ _ _), HE.out⟩
      split
      · next e => have := HX3.out; rw [e] at this; exact (pre_drop this hl3).2
      · exact hl3
    | some n =>
      obtain ⟨x3, hx3⟩ : ∃ x, ([43] : List UInt8).isPrefixOf (l.drop k3) = x := ⟨_, rfl⟩
      obtain ⟨k4, hk4⟩ : ∃ m, m = (if x3 = true then k3 + 1 else k3) := ⟨_, rfl⟩
      have hk4l : k4 ≤ l.length := by
        rw [hk4]
        split
        · next e => rw [e] at hx3; exact (pre_drop hx3 hl3).2
        · exact hl3
      obtain ⟨x4, hx4⟩ : ∃ x, ([125] : List UInt8).isPrefixOf (l.drop k4) = x := ⟨_, rfl⟩
      have HC : Hid (headW (l.drop k) = if x4 = true then some (n, !x3, l.drop (k4 + 1)) else none) := by
        have := head_close hl3 HD3.out hn x3 x4 hx3 (by rw [← hk4]; exact hx4)
        rw [← hk4] at this
        unfold Hid
        rw [HO1.out, this]
      rw [hn] at HN
      unfold numV at HN
      have HK4 := Lib.hid hk4
      have HX4 := Lib.hid hx4
      have HX3 := Lib.hid hx3
      clear hn hk4 hx4 hx3
      go_wp2_with fail
      with_reducible refine HN.out.mono ?_
      rintro e w4 ⟨rfl, hb4⟩
      have HR4 := Lib.hid (HR3.out.below hb4)
      have HB4 := Lib.hid (HB3.out.below hb4)
      have HG4 := Lib.hid (HG3.out.below hb4)
      have HT3 := Lib.hid (HTk.out k3 ⟨#[43]⟩ [43] w4 x3 rfl (by decide) HX3.out HR4.out hl3)
      clear hb4 HR3 HB3 HG3 HN hcv
      go_wp2_with fail
      with_reducible refine HT3.out.mono ?_
      rintro e w5 ⟨rfl, hr5, hg5⟩
      have HR5 : Hid (Rb w5 B b off cap l k4) := by
        have e1 : (if x3 = true then k3 + ([43] : List UInt8).length else k3) = k4 := HK4.out.symm
        rw [e1] at hr5
        exact hr5
      have HB5 := Lib.hid (HB4.out.gr hg5 (by omega))
      have HG5 := Lib.hid (HG4.out.trans hg5)
      have HT4 := Lib.hid (HTk.out k4 ⟨#[125]⟩ [125] w5 x4 rfl (by decide) HX4.out HR5.out hk4l)
      clear hr5 hg5 HR4 HB4 HG4 HT3
      go_wp2_with fail
      with_reducible refine HT4.out.mono ?_
      rintro e w6 ⟨rfl, hr6, hg6⟩
      have HR6 := Lib.hid hr6
      have HB6 := Lib.hid (HB5.out.gr hg6 (by omega))
      have HG6 := Lib.hid (HG5.out.trans hg6)
      have c0 := HB6.out.c0
      have c1 := HB6.out.c1
      have f0 := HB6.out.f 0
      have f1 := HB6.out.f 1
      clear hr6 hg6 HR5 HB5 HG5 HT4
      go_wp2_with fail
      (try simp only [Exit.inBlock, Exit.then])
      refine bodyPost_ret (results_cell_rowW (P := Tryz.prog) Tryz.results49 _ _ w.heap.size 114 _ (0, 0) _ rfl ((HB6.out.set0 (.int .i64 (n : Int))).set1 (.bool x3)) Tryz.underlying114 rfl (by kernel_rfl)) rfl ?_
      refine ⟨n, x3, x4, _, rfl, HR6.out.low (HW.out _ _ _) hBw hbw, ?_, HG6.out.low (HW.out _ _ _), ?_⟩
      · split
        · next e => have := HX4.out; rw [e] at this; exact (pre_drop this hk4l).2
        · exact hk4l
      · rw [HC.out]
        cases x4 <;> rfl
end Go.Proofs.YtkmgflnmffdhjaaGreatDoor
