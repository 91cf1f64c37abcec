/- Layer 18: a law of my own, of no function: appends to bytes that are either a whole cut of what came in, with nothing spare behind it, or a row of the call's own. -/
import Derived.Test.YtkkdplccneeaiaaGreatDoorGbWrD
import Derived.Laws.OwnMore
import Derived.OwnWalk
namespace Go.Proofs.YtkkdplccneeaiaaGreatDoor
open Go Go.RowKit

theorem run_append_fullW {P : Program} (w : World) (base : Nat) (t ty e : TypeId) (i : TypeInfo) (ht : P.underlying t = some (.slice e)) (hi : P.info? e = some i) (hz : i.zero = some (.int .u8 0)) (hsize : i.size = 1) (hby : i.bytes = 1)
    (g off n : Nat) (xs : List Value) (hn : xs.length = n) (hold : ∀ j u, xs[j]? = some u → w.cell? ((⟨g, off, none⟩ : Addr).add j) = some u) (ad : Addr) (m c : Nat) (news : List Value) (hl : news.length = m) (hnews : ∀ j u, news[j]? = some u → w.cell? (ad.add j) = some u)
    (hm : 0 < m) (h63 : n + m ≤ maxLen) (hbytes : (n + m) * 1 ≤ 140737488355328) (hbase : base ≤ w.heap.size) :
    ∃ v w', (Builtin.append_ #[t, t] ty #[.slice (some ⟨g, off, none⟩) n n, .slice (some ad) m c]).run P w = .ok v w' ∧
      w'.ownsRow base e 1 v (n + m) (xs ++ news) ∧ (∀ row, w.grownBy w' row) := by
  subst hn hl
  have hsmall : xs.length + news.length ≤ 9223372036854775807 := by simp only [maxLen] at h63; omega
  have hb2 : (xs.length + news.length) * i.bytes ≤ 140737488355328 := by rw [hby]; exact hbytes
  have hr := run_append_grow (P := P) w t ty e i _ ht hi hz ⟨g, off, none⟩ xs.length xs.length xs (by rw [hsize, Nat.mul_one]) hold ad news.length c news (by rw [hsize, Nat.mul_one]) hnews (by omega) (by omega) (growslice_fits (by omega) hb2)
  have hge := grownCap_ge w (xs.length + news.length) xs.length e
  have hcm : grownCap w (xs.length + news.length) xs.length e ≤ maxLen := grownCap_le_maxLen w _ _ e h63
  refine ⟨_, _, hr, ⟨by rw [List.length_append, Nat.mul_one], .inr ⟨w.heap.size, _, _, rfl, hbase, heap_alloc_new w.drew _, hge, hcm, ?_, ?_⟩⟩, fun row => ⟨rfl, rfl, rfl, by simp, fun k hk _ => heap_alloc_old w.drew _ hk⟩⟩
  · simp only [Array.size_append, List.size_toArray, size_zeroCells]
    show xs.length + news.length + _ * 1 = _
    omega
  · simp only [Array.toList_append, Nat.mul_one]
    rw [show xs.length + news.length = (xs ++ news).length by rw [List.length_append]]
    exact List.take_left
theorem run_append_zeroW {P : Program} {w : World} (t ty e : TypeId) (i : TypeInfo) (ao bo : Option Addr) (n cap c : Nat) (ht : P.underlying t = some (.slice e)) (hi : P.info? e = some i) (hn : n ≤ cap) :
    (Builtin.append_ #[t, t] ty #[.slice ao n cap, .slice bo 0 c]).run P w = .ok (.slice ao n cap) w := by
  have hf : ∀ z, (Builtin.firstCells z 0 (.slice bo 0 c)).run P w = .ok #[] w := by
    intro z
    cases bo with
    | none => simp [Builtin.firstCells]
    | some ad => exact run_firstCells_some (P := P) w z 0 ad 0 c [] (by simp) (by intro j v h; simp at h)
  cases ao with
  | none => simp [Builtin.append_, run_underlying ht, sizeOf, typeInfo, hi, Builtin.lenOf, hn, hf]
  | some a => simp [Builtin.append_, run_underlying ht, sizeOf, typeInfo, hi, Builtin.lenOf, hn, hf, storeCells]
/-- Bytes that are told: a row of the call's own, or a cut with nothing spare behind it. -/
def Told (W : World) (base B : Nat) (v : Value) (t : List UInt8) : Prop :=
  W.ownsRow base 5 1 v t.length (t.map byteV) ∨ ∃ b off, v = .slice (some ⟨b, off, none⟩) t.length t.length ∧ b < W.heap.size ∧ b ≠ B ∧ t.length ≤ maxLen ∧ sliceAt W (some ⟨b, off, none⟩) t
theorem Told.gr {W W' : World} {base B : Nat} {v : Value} {t : List UInt8} (h : Told W base B v t) (hg : Gr B W W') (hB : B < base) : Told W' base B v t := by
  rcases h with h | ⟨b, off, e, h1, h2, h3, h4⟩
  · refine .inl (h.kept hg ?_)
    rcases hv : v.ownBlock with _ | q
    · exact .inl rfl
    · right
      intro e
      cases e
      have := (h.lt _ hv).1
      omega
  · exact .inr ⟨b, off, e, Nat.lt_of_lt_of_le h1 hg.size, h2, h3, hg.slice h2 h4⟩
theorem Told.below {W W' : World} {base B : Nat} {v : Value} {t : List UInt8} (h : Told W base B v t) (hg : Below W.heap.size W W') (hB : B < base) : Told W' base B v t := h.gr ((Gr.refl _ _).below hg) hB
theorem Told.arg {W : World} {base B : Nat} {v : Value} {t : List UInt8} (h : Told W base B v t) : bytesArg W v t := by
  rcases h with h | ⟨b, off, e, h1, h2, h3, h4⟩
  · exact bytesArg_owned h
  · exact ⟨_, _, e, Nat.le_refl _, h3, h4⟩
theorem Gr.low {B : Nat} {a b c : World} (h : Gr B a b) (k : Below a.heap.size b c) : Gr B a c :=
  ⟨k.os.trans h.os, k.tape.trans h.tape, k.output.trans h.output, Nat.le_trans h.size k.size, fun i hi h1 => (k.block i hi).trans (h.block i hi h1)⟩
theorem Rb.low {W W' : World} {B b off cap n : Nat} {l : List UInt8} {k : Nat} (h : Rb W B b off cap l k) (hb : Below n W W') (h1 : B < n) (h2 : b < n) : Rb W' B b off cap l k := h.block (hb.block B h1) (hb.block b h2)
theorem below_grown {w w' : World} {base : Nat} {row : Option Nat} (h : w.grownBy w' row) (hr : ∀ q, row = some q → base ≤ q) (hb : base ≤ w.heap.size) : Below base w w' :=
  ⟨h.os, h.tape, h.output, h.size, fun k hk => h.block k (by omega) (fun e => by have := hr k e.symm; omega)⟩
theorem wpList_append_told {P : Program} {w : World} {ops : Array Oper} {rest : List Oper} {o : Oper} {a : Act} {Q : Exit → Act → World → Prop} (hgd : o.guard = none) (s x : Operand) (t : TypeId)
    (ho : o.op = .call { callee := .builtin .append, args := #[s, x], argTypes := #[t, t] })
    (base B : Nat) (i : TypeInfo) (ht : P.underlying t = some (.slice 5)) (hi : P.info? 5 = some i) (hz : i.zero = some (.int .u8 0)) (hsize : i.size = 1) (hby : i.bytes = 1)
    (v : Value) (ts : List UInt8) (hs : a.eval s = v) (hown : Told w base B v ts)
    (ao : Option Addr) (m c : Nat) (l : List UInt8) (hm : l.length = m) (hx : a.eval x = .slice ao m c) (hsl : sliceAt w ao l) (h63 : ts.length + m ≤ 4000000000) (hbase : base ≤ w.heap.size)
    (h : ∀ v' w', Told w' base B v' (ts ++ l) → Below base w w' → wpList P ops Q rest (a.put o.dst v') w') : wpList P ops Q (o :: rest) a w := by
  subst hm
  by_cases h0 : l = []
  · subst h0
    refine wpList_plain hgd fun K hK => ?_
    obtain ⟨ao1, cap1, rfl, hc1, _, _⟩ := hown.arg
    have hrun := run_append_zeroW (P := P) (w := w) t o.type 5 i ao1 ao ts.length cap1 c ht hi hc1
    have hx' : a.eval x = .slice ao 0 c := hx
    unfold Oper.wp
    simp [execOp, ho, resolve, invoke, builtin, hs, hx', hrun, Result.andThen]
    refine hK _ _ (h _ w ?_ (Below.refl _ _))
    simpa using hown
  · obtain ⟨b2, off2, rfl, hlt2, hc2⟩ : ∃ b off, ao = some ⟨b, off, none⟩ ∧ b < w.heap.size ∧ ∀ j, (h : j < l.length) → w.cell? ⟨b, off + j, none⟩ = some (byteV l[j]) := hsl.resolve_left h0
    have hnews := sliceAt.news (.inr ⟨b2, off2, rfl, hlt2, hc2⟩ : sliceAt w (some ⟨b2, off2, none⟩) l)
    have hpos : 0 < l.length := List.length_pos_iff.2 h0
    rcases hown with hown | ⟨b, off, rfl, h1, h2, h3, h4⟩
    · refine wpList_append_own _ hgd s x t ho base 5 i (.int .u8 0) 1 1 ht hi hz hsize hby rfl (by decide) v ts.length (ts.map byteV) hs hown ⟨b2, off2, none⟩ l.length c (l.map byteV) hx (by simp) hnews (news_one l) (by unfold maxLen; omega) (by omega) hbase (fun v' w' g1 g2 _ => h v' w' (.inl ?_) (below_grown g2 (fun q hq => (hown.lt q hq).1) hbase))
      simpa using g1
    · obtain ⟨v', w', hr, g1, g2⟩ := run_append_fullW (P := P) w base t o.type 5 i ht hi hz hsize hby b off ts.length (ts.map byteV) (by simp) (h4.news) ⟨b2, off2, none⟩ l.length c (l.map byteV) (by simp) hnews hpos (by unfold maxLen; omega) (by omega) hbase
      refine wpList_plain hgd fun K hK => ?_
      unfold Oper.wp
      simp [execOp, ho, resolve, invoke, builtin, hs, hx, hr, Result.andThen]
      refine hK _ _ (h v' w' (.inl ?_) (below_grown (g2 none) (fun q hq => by cases hq) hbase))
      simpa using g1
end Go.Proofs.YtkkdplccneeaiaaGreatDoor

/- Layer 18: contracts of package wire: quoted. -/
namespace Go.Proofs.YtkkdplccneeaiaaGreatDoor
open Go Go.RowKit

theorem pre_drop {l p : List UInt8} {j : Nat} (h : p.isPrefixOf (l.drop j) = true) (hj : j ≤ l.length) : l.drop j = p ++ l.drop (j + p.length) ∧ j + p.length ≤ l.length := by
  obtain ⟨r, hr⟩ := List.isPrefixOf_iff_prefix.1 h
  have hlen := congrArg List.length hr
  simp only [List.length_append, List.length_drop] at hlen
  refine ⟨?_, by omega⟩
  rw [← List.drop_drop, ← hr, List.drop_left]
theorem quoW_end (r : List UInt8) : quoW (34 :: r) = some ([], r) := by
  cases r with
  | nil => rfl
  | cons d r => unfold quoW; rw [if_pos rfl]
theorem quoW_mark {d : UInt8} (r : List UInt8) (h : d = 34 ∨ d = 92) : quoW (92 :: d :: r) = (quoW r).map fun p => (d :: p.1, p.2) := by
  conv => lhs; unfold quoW
  rw [if_neg (by decide), if_pos rfl, if_pos h]
theorem quoW_no {d : UInt8} (r : List UInt8) (h : ¬ (d = 34 ∨ d = 92)) : quoW (92 :: d :: r) = none := by
  conv => lhs; unfold quoW
  rw [if_neg (by decide), if_pos rfl, if_neg h]
theorem quoW_unm {c : UInt8} (h : unmB c = true) : ∀ r, quoW (c :: r) = (quoW r).map fun p => (c :: p.1, p.2) := by
  unfold unmB at h
  rw [Bool.and_eq_true, bne_iff_ne, bne_iff_ne] at h
  intro r
  cases r with
  | nil => unfold quoW; rw [if_neg h.1]; rfl
  | cons d r => conv => lhs; unfold quoW
                rw [if_neg h.1, if_neg h.2]
theorem quoW_row : ∀ (a r : List UInt8), a.all unmB = true → quoW (a ++ r) = (quoW r).map fun p => (a ++ p.1, p.2)
  | [], r, _ => by
    cases h : quoW r <;> simp [h]
  | c :: a, r, h => by
    rw [List.all_cons, Bool.and_eq_true] at h
    rw [List.cons_append, quoW_unm h.1, quoW_row a r h.2]
    cases quoW r <;> rfl
/-- What of a quoted text is still to come, behind what is told. -/
def quoB (t : List UInt8) (o : Option (List UInt8 × List UInt8)) : Option (List UInt8 × List UInt8) := o.map fun p => (t ++ p.1, p.2)
theorem quoB_row {l t : List UInt8} {j j' : Nat} (h1 : (l.drop j).take (j' - j) = (l.drop j).takeWhile unmB) (h2 : l.drop j' = (l.drop j).dropWhile unmB) : quoB t (quoW (l.drop j)) = quoB (t ++ (l.drop j).take (j' - j)) (quoW (l.drop j')) := by
  have e : l.drop j = (l.drop j).take (j' - j) ++ l.drop j' := by rw [h1, h2, List.takeWhile_append_dropWhile]
  conv => lhs; rw [e, quoW_row _ _ (by rw [h1]; exact List.all_takeWhile)]
  unfold quoB
  cases quoW (l.drop j') <;> simp
theorem quoB_mark {t r : List UInt8} {d : UInt8} (h : d = 34 ∨ d = 92) : quoB t (quoW (92 :: d :: r)) = quoB (t ++ [d]) (quoW r) := by
  rw [quoW_mark r h]
  unfold quoB
  cases quoW r <;> simp
/-- Behind a row of bytes that are no marks one that is none of the three ends it all. -/
theorem quoW_stop {l : List UInt8} {j : Nat} (hj : j ≤ l.length) (hm : ∀ h : j < l.length, unmB l[j] = false) (h1 : ([34] : List UInt8).isPrefixOf (l.drop j) = false) (h2 : ([92, 34] : List UInt8).isPrefixOf (l.drop j) = false) (h3 : ([92, 92] : List UInt8).isPrefixOf (l.drop j) = false) : quoW (l.drop j) = none := by
  by_cases hlt : j < l.length
  · have hu := hm hlt
    rw [drop_consL hlt] at h1 h2 h3 ⊢
    unfold unmB at hu
    rw [Bool.and_eq_false_iff, bne_eq_false_iff_eq, bne_eq_false_iff_eq] at hu
    rcases hu with hu | hu
    · rw [hu] at h1; simp at h1
    · rw [hu] at h2 h3 ⊢
      cases hr : l.drop (j + 1) with
      | nil => rfl
      | cons d r =>
        rw [hr] at h2 h3
        refine quoW_no r ?_
        rintro (rfl | rfl)
        · simp at h2
        · simp at h3
  · rw [List.drop_eq_nil_of_le (by omega)]
    rfl
/-- What 'quoted' answers. -/
def QuoW (B b off cap : Nat) (l : List UInt8) (w : World) (o : Option (List UInt8 × List UInt8)) (e : Ending) (w' : World) : Prop :=
  match o with
  | none => e = .returned (.tuple #[.slice none 0 0, .bool false]) ∧ ∃ k', k' ≤ l.length ∧ Rb w' B b off cap l k' ∧ Gr B w w'
  | some (t, r) => ∃ (v : Value) (k' : Nat), e = .returned (.tuple #[v, .bool true]) ∧ bytesArg w' v t ∧ t.length ≤ l.length ∧ k' ≤ l.length ∧ Rb w' B b off cap l k' ∧ l.drop k' = r ∧ Gr B w w'
theorem cutV_told {W : World} {B b off cap base f t : Nat} {l : List UInt8} {k : Nat} (h : Rb W B b off cap l k) (hf : f ≤ t) (ht : t ≤ l.length) : Told W base B (cutV b off f t) ((l.drop f).take (t - f)) := by
  have e : ((l.drop f).take (t - f)).length = t - f := by rw [List.length_take, List.length_drop]; omega
  have hs := cutV_src h.src hf ht
  have hm := h.mx
  have hl := h.le
  right
  unfold cutV
  rw [e]
  unfold fromA at hs ⊢
  split
  · next e1 =>
    rw [if_pos e1] at hs
    exact ⟨b, off, rfl, h.lt, h.ne, by omega, hs⟩
  · next e1 =>
    rw [if_neg e1] at hs
    exact ⟨b, off + f, rfl, h.lt, h.ne, by omega, hs⟩
theorem mark_stop {l : List UInt8} {j : Nat} {p : UInt8 → Bool} {m : List UInt8} (h : l.drop j = m.dropWhile p) (hlt : j < l.length) : p l[j] = false := by
  rw [drop_consL hlt] at h
  have := List.head?_dropWhile_not p m
  rw [← h] at this
  simp only [List.head?_cons] at this
  exact this
set_option maxRecDepth 100000 in
set_option maxHeartbeats 4000000 in
theorem wquoted_any (B b off cap : Nat) (l : List UInt8) (k : Nat) (w : World) (hr : Rb w B b off cap l k) (hk : k ≤ l.length) :
    Calls Tryz.prog 37 #[.pointer (some ⟨B, 0, none⟩)] w (QuoW B b off cap l w (quoW (l.drop k))) := by
  obtain ⟨i0, hi, hz⟩ := Option.map_eq_some_iff.1 Tryz.infoB
  simp only [Prod.mk.injEq] at hz
  obtain ⟨hz0, hz1, hz2⟩ := hz
  have hBw := hr.ltB
  have hbw := hr.lt
  have hsm := hr.sm
  have HR := Lib.hid hr
  have HRow := Lib.hid (fun j W (h : Rb W B b off cap l j) hj => wrow_unm B b off cap l j W h hj)
  unfold RowW at HRow
  have HTk := Lib.hid (fun j q p W x hq hp hx (h : Rb W B b off cap l j) hj => wtakes_any B b off cap l j q p W hq hp h hj x hx)
  have HR0 := HRow.out k w hr hk
  clear hr
  go_enter Tryz.func37, Tryz.ntmps37
  go_wp2_with fail
  with_reducible refine HR0.mono ?_
  rintro e w1 ⟨k1, rfl, hr1, hk1, hl1, ht1, hd1, hg1⟩
  have HR1 := Lib.hid hr1
  have HT1 : Hid (Told w1 w.heap.size B (cutV b off k k1) ((l.drop k).take (k1 - k))) := cutV_told hr1 hk1 hl1
  have HM1 : Hid (∀ h : k1 < l.length, unmB l[k1] = false) := fun h => mark_stop hd1 h
  have HS1 : Hid (quoB [] (quoW (l.drop k)) = quoB ((l.drop k).take (k1 - k)) (quoW (l.drop k1))) := by
    have := quoB_row (t := []) ht1 hd1
    rw [List.nil_append] at this
    exact this
  have HL1 : Hid (((l.drop k).take (k1 - k)).length ≤ k1) := by unfold Hid; rw [List.length_take]; omega
  have HG1 := Lib.hid hg1
  clear hr1 ht1 hd1 hg1 HR0 HR
  generalize (l.drop k).take (k1 - k) = t1 at HT1 HS1 HL1
  obtain ⟨v1, hv1⟩ : ∃ v, v = cutV b off k k1 := ⟨_, rfl⟩
  rw [← hv1] at HT1 ⊢
  clear hv1
  go_wp2_with fail
  go_loopg [4] (l.length - k1) (fun g v wr => ∃ (j : Nat) (t : List UInt8), g = l.length - j ∧ j ≤ l.length ∧ Hid (t.length ≤ j) ∧ Hid (Rb wr B b off cap l j) ∧ Hid (Told wr w.heap.size B v t) ∧ Hid (Gr B w wr) ∧ Hid (∀ h : j < l.length, unmB l[j] = false) ∧ Hid (quoB [] (quoW (l.drop k)) = quoB t (quoW (l.drop j))))
  case atStart => exact ⟨k1, t1, rfl, hl1, HL1, HR1, HT1, HG1, HM1, HS1⟩
  case round =>
    obtain ⟨j, t, rfl, hj, HLt, HRj, HTt, HG, HM, HS⟩ := hrel
    rcases Bool.eq_false_or_eq_true (([34] : List UInt8).isPrefixOf (l.drop j)) with hx1 | hx1
    · have HX := Lib.hid (pre_drop hx1 hj)
      have HT1 := Lib.hid (HTk.out j ⟨#[34]⟩ [34] wr true rfl (by decide) hx1 HRj.out hj)
      clear hx1
      go_wp2_with fail
      with_reducible refine HT1.out.mono ?_
      rintro e w2 ⟨rfl, hr2, hg2⟩
      have HR2 := Lib.hid hr2
      have HG2 := Lib.hid hg2
      clear hr2 hg2
      go_wp2_with fail
      try rw [Exit.noGoto_ret]
      go_ret2
      have e1 : quoW (l.drop k) = some (t, l.drop (j + 1)) := by
        have h := HS.out
        rw [HX.out.1] at h
        rw [show ([34] : List UInt8) ++ l.drop (j + ([34] : List UInt8).length) = 34 :: l.drop (j + 1) from rfl, quoW_end] at h
        unfold quoB at h
        cases hq : quoW (l.drop k) with
        | none => rw [hq] at h; simp at h
        | some p =>
          obtain ⟨p1, p2⟩ := p
          rw [hq] at h
          simp only [Option.map_some, List.nil_append, List.append_nil, Option.some.injEq, Prod.mk.injEq] at h
          rw [h.1, h.2]
      rw [e1]
      exact ⟨_, j + 1, rfl, (HTt.out.gr HG2.out hBw).arg, by have := HLt.out; omega, HX.out.2, HR2.out, rfl, HG.out.trans HG2.out⟩
    · have HT1 := Lib.hid (HTk.out j ⟨#[34]⟩ [34] wr false rfl (by decide) hx1 HRj.out hj)
      go_wp2_with fail
      with_reducible refine HT1.out.mono ?_
      rintro e w2 ⟨rfl, hr2, hg2⟩
      have HR2 : Hid (Rb w2 B b off cap l j) := hr2
      have HTt2 := Lib.hid (HTt.out.gr hg2 hBw)
      have HG2 := Lib.hid (HG.out.trans hg2)
      clear hr2 hg2 HT1 HRj HTt HG
      rcases Bool.eq_false_or_eq_true (([92, 34] : List UInt8).isPrefixOf (l.drop j)) with hx2 | hx2
      · have HX := Lib.hid (pre_drop hx2 hj)
        have HT2 := Lib.hid (HTk.out j ⟨#[92, 34]⟩ [92, 34] w2 true rfl (by decide) hx2 HR2.out hj)
        clear hx2
        go_wp2_with fail
        with_reducible refine HT2.out.mono ?_
        rintro e w3 ⟨rfl, hr3, hg3⟩
        have HR3 : Hid (Rb w3 B b off cap l (j + 2)) := hr3
        have HTt3 := Lib.hid (HTt2.out.gr hg3 hBw)
        have HG3 := Lib.hid (HG2.out.trans hg3)
        clear hr3 hg3 HT2 HR2 HTt2 HG2
        have hj2 : j + 2 ≤ l.length := HX.out.2
        go_wp2_with (at_builtin; refine wpList_append_told rfl _ _ 29 rfl w.heap.size B i0 Tryz.underlying29 hi hz0 hz1 hz2 _ t rfl ?c1 _ 1 1 [34] rfl rfl (sliceAt_new _ _ _ _ _ rfl) ?c2 ?c3 ?_)
        case c1 => exact HTt3.out.below ((Below.refl _ _).alloc (Nat.le_refl _) _) hBw
        case c2 => have := HLt.out; omega
        case c3 => have := HG3.out.size; simp; omega
        intro v4 w4 ht4 hb4
        have HB4 : Hid (Below w.heap.size w3 w4) := ((Below.refl w3.heap.size w3).alloc (Nat.le_refl _) _ |>.mono HG3.out.size).trans hb4
        have HR4 := Lib.hid (HR3.out.low HB4.out hBw hbw)
        have HT4 := Lib.hid ht4
        have HG4 := Lib.hid (HG3.out.low HB4.out)
        have HRo := HRow.out (j + 2) w4 HR4.out hj2
        clear ht4 hb4 HB4 HR3 HTt3 HG3
        go_wp2_with fail
        with_reducible refine HRo.mono ?_
        rintro e w5 ⟨k5, rfl, hr5, hk5, hl5, ht5, hd5, hg5⟩
        have HR5 := Lib.hid hr5
        have HG5 := Lib.hid (HG4.out.trans hg5)
        have HTl5 := Lib.hid (HT4.out.gr hg5 hBw)
        have HM5 : Hid (∀ h : k5 < l.length, unmB l[k5] = false) := fun h => mark_stop hd5 h
        have HS5 : Hid (quoB [] (quoW (l.drop k)) = quoB (t ++ 34 :: (l.drop (j + 2)).take (k5 - (j + 2))) (quoW (l.drop k5))) := by
          unfold Hid
          rw [HS.out, HX.out.1]
          show quoB t (quoW (92 :: 34 :: l.drop (j + 2))) = _
          rw [quoB_mark (by decide), quoB_row ht5 hd5, List.append_assoc]
          rfl
        have HSl : Hid (sliceAt w5 (some (fromA b off k5 (j + 2))) ((l.drop (j + 2)).take (k5 - (j + 2)))) := cutV_src hr5.src hk5 hl5
        have hE5 : ((l.drop (j + 2)).take (k5 - (j + 2))).length = k5 - (j + 2) := by rw [List.length_take, List.length_drop]; omega
        have HL5 := Lib.hid hE5
        clear hr5 hg5 ht5 hd5 HR4 HT4 HG4 HRo hE5
        generalize (l.drop (j + 2)).take (k5 - (j + 2)) = t5 at HS5 HSl HL5
        unfold cutV
        go_wp2_with (at_builtin; refine wpList_append_told rfl _ _ 29 rfl w.heap.size B i0 Tryz.underlying29 hi hz0 hz1 hz2 _ (t ++ [34]) rfl HTl5.out _ (k5 - (j + 2)) (k5 - (j + 2)) t5 HL5.out rfl HSl.out ?c2 ?c3 ?_)
        case c2 => have := HLt.out; simp; omega
        case c3 => exact HG5.out.size
        intro v6 w6 ht6 hb6
        have HR6 := Lib.hid (HR5.out.low hb6 hBw hbw)
        have HT6 := Lib.hid ht6
        have HG6 := Lib.hid (HG5.out.low hb6)
        clear ht6 hb6 HR5 HG5 HTl5 HSl
        go_wp2_with fail
        go_roundg (l.length - k5)
        case measure => omega
        case rel => exact ⟨k5, t ++ 34 :: t5, rfl, hl5, by have h1 := HLt.out; have h2 := HL5.out; unfold Hid; simp; omega, HR6.out, HT6.out, HG6.out, HM5.out, HS5.out⟩
      · have HT3 := Lib.hid (HTk.out j ⟨#[92, 34]⟩ [92, 34] w2 false rfl (by decide) hx2 HR2.out hj)
        go_wp2_with fail
        with_reducible refine HT3.out.mono ?_
        rintro e w3i ⟨rfl, hr3, hg3⟩
        have HR3i : Hid (Rb w3i B b off cap l j) := hr3
        have HTt3i := Lib.hid (HTt2.out.gr hg3 hBw)
        have HG3i := Lib.hid (HG2.out.trans hg3)
        clear hr3 hg3 HT3 HR2 HTt2 HG2
        rcases Bool.eq_false_or_eq_true (([92, 92] : List UInt8).isPrefixOf (l.drop j)) with hx3 | hx3
        · have HX := Lib.hid (pre_drop hx3 hj)
          have HT2 := Lib.hid (HTk.out j ⟨#[92, 92]⟩ [92, 92] w3i true rfl (by decide) hx3 HR3i.out hj)
          clear hx3
          go_wp2_with fail
          with_reducible refine HT2.out.mono ?_
          rintro e w3 ⟨rfl, hr3, hg3⟩
          have HR3 : Hid (Rb w3 B b off cap l (j + 2)) := hr3
          have HTt3 := Lib.hid (HTt3i.out.gr hg3 hBw)
          have HG3 := Lib.hid (HG3i.out.trans hg3)
          clear hr3 hg3 HT2 HR3i HTt3i HG3i
          have hj2 : j + 2 ≤ l.length := HX.out.2
          go_wp2_with (at_builtin; refine wpList_append_told rfl _ _ 29 rfl w.heap.size B i0 Tryz.underlying29 hi hz0 hz1 hz2 _ t rfl ?c1 _ 1 1 [92] rfl rfl (sliceAt_new _ _ _ _ _ rfl) ?c2 ?c3 ?_)
          case c1 => exact HTt3.out.below ((Below.refl _ _).alloc (Nat.le_refl _) _) hBw
          case c2 => have := HLt.out; omega
          case c3 => have := HG3.out.size; simp; omega
          intro v4 w4 ht4 hb4
          have HB4 : Hid (Below w.heap.size w3 w4) := ((Below.refl w3.heap.size w3).alloc (Nat.le_refl _) _ |>.mono HG3.out.size).trans hb4
          have HR4 := Lib.hid (HR3.out.low HB4.out hBw hbw)
          have HT4 := Lib.hid ht4
          have HG4 := Lib.hid (HG3.out.low HB4.out)
          have HRo := HRow.out (j + 2) w4 HR4.out hj2
          clear ht4 hb4 HB4 HR3 HTt3 HG3
          go_wp2_with fail
          with_reducible refine HRo.mono ?_
          rintro e w5 ⟨k5, rfl, hr5, hk5, hl5, ht5, hd5, hg5⟩
          have HR5 := Lib.hid hr5
          have HG5 := Lib.hid (HG4.out.trans hg5)
          have HTl5 := Lib.hid (HT4.out.gr hg5 hBw)
          have HM5 : Hid (∀ h : k5 < l.length, unmB l[k5] = false) := fun h => mark_stop hd5 h
          have HS5 : Hid (quoB [] (quoW (l.drop k)) = quoB (t ++ 92 :: (l.drop (j + 2)).take (k5 - (j + 2))) (quoW (l.drop k5))) := by
            unfold Hid
            rw [HS.out, HX.out.1]
            show quoB t (quoW (92 :: 92 :: l.drop (j + 2))) = _
            rw [quoB_mark (by decide), quoB_row ht5 hd5, List.append_assoc]
            rfl
          have HSl : Hid (sliceAt w5 (some (fromA b off k5 (j + 2))) ((l.drop (j + 2)).take (k5 - (j + 2)))) := cutV_src hr5.src hk5 hl5
          have hE5 : ((l.drop (j + 2)).take (k5 - (j + 2))).length = k5 - (j + 2) := by rw [List.length_take, List.length_drop]; omega
          have HL5 := Lib.hid hE5
          clear hr5 hg5 ht5 hd5 HR4 HT4 HG4 HRo hE5
          generalize (l.drop (j + 2)).take (k5 - (j + 2)) = t5 at HS5 HSl HL5
          unfold cutV
          go_wp2_with (at_builtin; refine wpList_append_told rfl _ _ 29 rfl w.heap.size B i0 Tryz.underlying29 hi hz0 hz1 hz2 _ (t ++ [92]) rfl HTl5.out _ (k5 - (j + 2)) (k5 - (j + 2)) t5 HL5.out rfl HSl.out ?c2 ?c3 ?_)
          case c2 => have := HLt.out; simp; omega
          case c3 => exact HG5.out.size
          intro v6 w6 ht6 hb6
          have HR6 := Lib.hid (HR5.out.low hb6 hBw hbw)
          have HT6 := Lib.hid ht6
          have HG6 := Lib.hid (HG5.out.low hb6)
          clear ht6 hb6 HR5 HG5 HTl5 HSl
          go_wp2_with fail
          go_roundg (l.length - k5)
          case measure => omega
          case rel => exact ⟨k5, t ++ 92 :: t5, rfl, hl5, by have h1 := HLt.out; have h2 := HL5.out; unfold Hid; simp; omega, HR6.out, HT6.out, HG6.out, HM5.out, HS5.out⟩
        · have HT4 := Lib.hid (HTk.out j ⟨#[92, 92]⟩ [92, 92] w3i false rfl (by decide) hx3 HR3i.out hj)
          have HQ : Hid (quoW (l.drop k) = none) := by
            have h := HS.out
            rw [quoW_stop hj HM.out hx1 hx2 hx3] at h
            unfold quoB at h
            unfold Hid
            cases hq : quoW (l.drop k) with
            | none => rfl
            | some p => rw [hq] at h; simp at h
          clear hx1 hx2 hx3
          go_wp2_with fail
          with_reducible refine HT4.out.mono ?_
          rintro e w4 ⟨rfl, hr4, hg4⟩
          have HR4 : Hid (Rb w4 B b off cap l j) := hr4
          have HG4 := Lib.hid (HG3i.out.trans hg4)
          clear hr4 hg4
          go_wp2_with fail
          try rw [Exit.noGoto_ret]
          go_ret2
          rw [HQ.out]
          exact ⟨rfl, j, hj, HR4.out, HG4.out⟩
end Go.Proofs.YtkkdplccneeaiaaGreatDoor
