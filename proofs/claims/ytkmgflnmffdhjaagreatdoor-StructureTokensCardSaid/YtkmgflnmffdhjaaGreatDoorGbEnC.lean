/- Contracts of package header: Value; whether a name is among some. -/
import Derived.Test.YtkmgflnmffdhjaaGreatDoorGbHdrF
import Derived.Test.YtkmgflnmffdhjaaGreatDoorGbAdG
import Derived.Test.YtkmgflnmffdhjaaGreatDoorGbEnA
import Derived.Test.YtkmgflnmffdhjaaGreatDoorGbAdC
import Derived.Test.YtkmgflnmffdhjaaGreatDoorGbAdT
namespace Go.Proofs.YtkmgflnmffdhjaaGreatDoor
open Go Go.RowKit

def valueS (l : List UInt8) (fs : List Fld) (nm : List UInt8) : List UInt8 :=
  if h : fI nm fs < fs.length then bodyS l (fs[fI nm fs].b : Int) (fs[fI nm fs].t : Int) else []
set_option maxHeartbeats 1000000 in
theorem value_any (v vf : Value) (l : List UInt8) (fs : List Fld) (nm : ByteArray) (w : World) (hv : bytesArg w v l) (hbig : l.length ≤ 1048576) (hf : rowF w vf fs) (hs : shortF fs) :
    Calls Tryz.prog 37 #[v, vf, .string nm] w fun e w' => e = .returned (.string ⟨(valueS l fs nm.data.toList).toArray⟩) ∧ Below w.heap.size w w' := by
  have HV := Lib.hid hv
  obtain ⟨ao, cap, rfl, hc, hm, hsl⟩ := hv
  obtain ⟨fo, fc, rfl, hfc, hfm, _⟩ := hf.at
  have HF := Lib.hid hf
  unfold maxLen at hm hfm
  clear hf hsl
  by_cases h : fI nm.data.toList fs < fs.length
  · obtain ⟨x, hx⟩ : ∃ x, fs[fI nm.data.toList fs] = x := ⟨_, rfl⟩
    have HFi := Lib.hid (fun W h1 => find_yes (.slice fo fs.length fc) fs nm (fI nm.data.toList fs) x W h1 hs rfl h hx)
    have HBo := Lib.hid (fun W h1 => body_any (.slice ao l.length cap) l ⟨x.nm.toArray⟩ (x.f : Int) (x.b : Int) (x.t : Int) W h1 hbig)
    have HR : Hid (valueS l fs nm.data.toList = bodyS l (x.b : Int) (x.t : Int)) := by
      unfold Hid valueS
      rw [dif_pos h, hx]
    clear hx h
    go_enter Tryz.func37, Tryz.ntmps37
    go_wp2_with fail
    with_reducible refine (HFi.out _ HF.out).mono ?_
    rintro e w1 ⟨rfl, hb1⟩
    have HB1 := Lib.hid hb1
    clear hb1
    go_wp2_with fail
    with_reducible refine (HBo.out _ ?h1).mono ?_
    case h1 => exact bytesArg.below HV.out (HB1.out.alloc HB1.out.size _)
    rintro e w2 ⟨rfl, hb2⟩
    have HB2 : Hid (Below w.heap.size w w2) := (HB1.out.alloc HB1.out.size _).trans (hb2.mono (by have := HB1.out.size; simp; omega))
    clear hb2
    go_wp2_with fail
    go_ret
    exact ⟨ret_str (by rw [HR.out]), HB2.out⟩
  · have HFi := Lib.hid (fun W h1 => find_no (.slice fo fs.length fc) fs nm W h1 hs h)
    have HR : Hid (valueS l fs nm.data.toList = []) := by
      unfold Hid valueS
      rw [dif_neg h]
    clear h
    go_enter Tryz.func37, Tryz.ntmps37
    go_wp2_with fail
    with_reducible refine (HFi.out _ HF.out).mono ?_
    rintro e w1 ⟨rfl, hb1⟩
    have HB1 := Lib.hid hb1
    clear hb1
    go_wp2_with fail
    go_ret
    exact ⟨ret_str (by rw [HR.out]), HB1.out.alloc HB1.out.size _⟩

end Go.Proofs.YtkmgflnmffdhjaaGreatDoor

/- Layer 19: contracts of package envelope: List. -/
namespace Go.Proofs.YtkmgflnmffdhjaaGreatDoor
open Go Go.RowKit

theorem list_bytes {l : List Adx} {T : ByteArray} (h : l ≠ []) (hT : T.data.toList = l.flatMap adrW) : (⟨#[40]⟩ ++ T ++ ⟨#[41]⟩ : ByteArray) = ⟨(listW l).toArray⟩ := by
  refine bytes_eq ?_
  rw [cat_toList, cat_toList, hT]
  unfold listW
  rw [if_neg h]
  rfl
theorem flat_take (l : List Adx) (i : Nat) : ((l.take i).flatMap adrW).length ≤ (l.flatMap adrW).length := by
  have e : l.flatMap adrW = (l.take i).flatMap adrW ++ (l.drop i).flatMap adrW := by rw [← List.flatMap_append, List.take_append_drop]
  rw [e, List.length_append]
  omega
set_option maxRecDepth 100000 in
set_option maxHeartbeats 8000000 in
theorem elist_gen (v : Value) (l : List Adx) (w : World) (hv : rowAdx w v l) (hs : smallX l 100000000) (hll : (l.flatMap adrW).length ≤ 1000000000) (ht : tab w) :
    Calls Tryz.prog 92 #[v] w fun e w' => e = .returned (.string ⟨(listW l).toArray⟩) ∧ Below w.heap.size w w' := by
  obtain ⟨ao, cap, rfl, hc, hm, hcells⟩ := hv.at
  unfold maxLen at hm
  have HC := Lib.hid hcells
  have HSm := Lib.hid hs
  have HTw := Lib.hid ht
  by_cases h0 : l = []
  · subst h0
    clear hcells hs ht hv
    go_enter Tryz.func92, Tryz.ntmps92
    go_wp2_with fail
    go_ret
    exact ⟨rfl, Below.refl _ _⟩
  obtain ⟨n, hn⟩ : ∃ n, n = l.length := ⟨_, rfl⟩
  have hn0 : 0 < n := by rw [hn]; exact List.length_pos_iff.2 h0
  rw [← hn] at hc ⊢
  have HLl := Lib.hid hll
  clear hll
  have HN := Lib.hid hn
  have H0 := Lib.hid h0
  have bn0 : ((n : Int) == 0) = false := beq_no (by omega)
  obtain ⟨bN, hbN⟩ : ∃ bN, bN = w.heap.size := ⟨_, rfl⟩
  have HBN := Lib.hid hbN
  clear hcells hs hn hbN hv h0 ht
  go_enter Tryz.func92, Tryz.ntmps92
  go_wp2_with fail
  rw [← HBN.out]
  obtain ⟨W0, hW0⟩ : ∃ W0, W0 = w.alloc (.cells #[.pointer none, .slice none 0 0] 53) := ⟨_, rfl⟩
  have HBu0 : Hid (Lib.IsBuilderF 53 5 bN bN (Lib.byteCells []) W0) := by unfold Hid; rw [hW0, HBN.out]; exact builder_new w
  have HB0 : Hid (Below w.heap.size w W0) := by rw [hW0]; exact (Below.refl _ _).alloc (Nat.le_refl _) _
  have hz0 : bN < W0.heap.size := by rw [hW0, HBN.out]; simp
  rw [← hW0]
  clear hW0
  go_loopg [11] n (fun g v8 wr => ∃ (i : Nat) (acc : List UInt8), g = n - i ∧ i ≤ n ∧ v8 = .int .i64 (i : Int) ∧ acc.length ≤ 1000000000 ∧ Hid (acc = (l.take i).flatMap adrW) ∧ Hid (Lib.IsBuilderF 53 5 bN bN (Lib.byteCells acc) wr) ∧ Hid (Below w.heap.size w wr) ∧ bN < wr.heap.size)
  case atStart => exact ⟨0, [], by omega, by omega, rfl, by simp, rfl, HBu0.out, HB0.out, hz0⟩
  case round =>
    obtain ⟨i, acc, rfl, hi, rfl, hal, HA, HBu, HB, hzr⟩ := hrel
    have hbw : w.heap.size ≤ bN := Nat.le_of_eq HBN.out.symm
    by_cases hlt : i < n
    · have hil : i < l.length := by rw [← HN.out]; exact hlt
      obtain ⟨g, off, rfl, hg, z0, z1, z2, z3⟩ := HC.out i hil
      obtain ⟨hs1, hs2, hs3⟩ := HSm.out l[i] (List.getElem_mem hil)
      have hil2 := adrW_size l[i] 100000000 (by decide) hs1 hs2 hs3
      have hT := List.take_succ_eq_append_getElem (l := l) (i := i) hil
      obtain ⟨a, ha⟩ : ∃ a, a = l[i] := ⟨_, rfl⟩
      rw [← ha] at z0 z1 z2 z3 hT hs1 hs2 hs3 hil2
      obtain ⟨K, nm, lo, ho⟩ := a
      simp only at z0 z1 z2 z3 hs1 hs2 hs3 hil2
      have c0 := (HB.out.cell (p := ⟨g, off + i * 4, none⟩) hg).trans z0
      have c1 := (HB.out.cell (p := ⟨g, off + i * 4 + 1, none⟩) hg).trans z1
      have c2 := (HB.out.cell (p := ⟨g, off + i * 4 + 2, none⟩) hg).trans z2
      have c3 := (HB.out.cell (p := ⟨g, off + i * 4 + 3, none⟩) hg).trans z3
      obtain ⟨N, hN⟩ : ∃ N : ByteArray, N = ⟨nm.toArray⟩ := ⟨_, rfl⟩
      obtain ⟨L, hL⟩ : ∃ L : ByteArray, L = ⟨lo.toArray⟩ := ⟨_, rfl⟩
      obtain ⟨H, hH⟩ : ∃ H : ByteArray, H = ⟨ho.toArray⟩ := ⟨_, rfl⟩
      have lN : N.data.toList = nm := by rw [hN]
      have lL : L.data.toList = lo := by rw [hL]
      have lH : H.data.toList = ho := by rw [hH]
      have HAd := Lib.hid (fun W h => eaddr_any K N L H W (by rw [← len_toList, lN]; omega) (by rw [← len_toList, lL]; omega) (by rw [← len_toList, lH]; omega) h)
      rw [lN, lL, lH] at HAd
      obtain ⟨T, hTt⟩ : ∃ T : ByteArray, T = ⟨(adrW ⟨K, nm, lo, ho⟩).toArray⟩ := ⟨_, rfl⟩
      rw [← hTt] at HAd
      have HTl : Hid (T.data.toList = adrW ⟨K, nm, lo, ho⟩) := by unfold Hid; rw [hTt]
      have hTs : T.size ≤ 900000000 := by rw [← len_toList, HTl.out]; omega
      rw [← hN] at c1
      rw [← hL] at c2
      rw [← hH] at c3
      have HST : Hid ((l.take (i + 1)).flatMap adrW = (l.take i).flatMap adrW ++ adrW ⟨K, nm, lo, ho⟩) := by
        unfold Hid
        rw [hT, List.flatMap_append]
        simp
      have hgw : g < wr.heap.size := Nat.lt_of_lt_of_le hg HB.out.size
      clear z0 z1 z2 z3 hT hN hL hH hs1 hs2 hs3 hil2 hTt lN lL lH ha
      go_wp2_with fail
      obtain ⟨W1, hW1⟩ : ∃ W1, W1 = wr.alloc (.cells #[.int .i64 K, .string N, .string L, .string H] 186) := ⟨_, rfl⟩
      rw [← hW1]
      have HB1 : Hid (Below w.heap.size w W1) := by rw [hW1]; exact HB.out.alloc HB.out.size _
      have HBu1 : Hid (Lib.IsBuilderF 53 5 bN bN (Lib.byteCells acc) W1) := by rw [hW1]; exact HBu.out.alloc _
      have hz1 : bN < W1.heap.size := by rw [hW1]; simp; omega
      clear hW1
      with_reducible refine (HAd.out _ (HTw.out.below HB1.out)).mono ?_
      rintro e w3 ⟨rfl, hb3⟩
      have HB3 : Hid (Below w.heap.size w w3) := HB1.out.trans (hb3.mono HB1.out.size)
      have HBu3 := Lib.hid (builder_below HBu1.out hb3)
      have hz3 : bN < w3.heap.size := by have := hb3.size; omega
      clear hb3
      go_wp2_with fail
      with_reducible refine (Tryz.Builder_WriteString_k bN bN (Lib.byteCells acc) T w3 HBu3.out ?h2 ?h3).mono ?_
      case h2 => rw [Lib.byteCells_length]; omega
      case h3 => omega
      rintro e w4 ⟨rfl, hA4, hb4, _⟩
      have HB4 : Hid (Below w.heap.size w w4) := HB3.out.trans (hb4.mono hbw)
      have HBu4 : Hid (Lib.IsBuilderF 53 5 bN bN (Lib.byteCells (acc ++ adrW ⟨K, nm, lo, ho⟩)) w4) := by
        right
        rw [Lib.byteCells_append, ← HTl.out]
        exact hA4
      have hz4 : bN < w4.heap.size := by have := hb4.size; omega
      have HA4 : Hid (acc ++ adrW ⟨K, nm, lo, ho⟩ = (l.take (i + 1)).flatMap adrW) := by
        unfold Hid
        rw [HST.out, ← HA.out]
      have hal4 : (acc ++ adrW ⟨K, nm, lo, ho⟩).length ≤ 1000000000 := by
        rw [HA4.out]
        exact Nat.le_trans (flat_take l (i + 1)) HLl.out
      clear hA4 hb4
      go_wp2_with fail
      go_roundg (n - (i + 1))
      case measure => omega
      case rel => exact ⟨i + 1, _, rfl, by omega, by go_num, hal4, HA4.out, HBu4.out, HB4.out, hz4⟩
    · have hA' : acc = l.flatMap adrW := by have := HA.out; rwa [List.take_of_length_le (by rw [← HN.out]; omega)] at this
      have HA' := Lib.hid hA'
      clear hA'
      have hal2 : acc.length ≤ 10000000000 := by omega
      obtain ⟨T, hT⟩ : ∃ T : ByteArray, T = ⟨acc.toArray⟩ := ⟨_, rfl⟩
      have hTs : T.size ≤ 10000000000 := by rw [hT]; simpa [ByteArray.size] using hal2
      have HStr := Lib.hid (Tryz.Builder_String_any_k bN bN acc wr HBu.out (by omega))
      rw [← hT] at HStr
      have HV := Lib.hid (list_bytes H0.out (T := T) (by rw [hT, HA'.out]))
      clear hT
      go_wp2_with fail
      with_reducible refine HStr.out.mono ?_
      rintro e w4 ⟨rfl, _, hb4, _⟩
      have HB4 : Hid (Below w.heap.size w w4) := HB.out.trans (hb4.mono hbw)
      clear hb4
      go_wp2_with fail
      go_ret
      exact ⟨ret_str HV.out, HB4.out⟩
end Go.Proofs.YtkmgflnmffdhjaaGreatDoor

/- Layer 19: what stands at a place of an array of six lists, of six or four texts. -/
namespace Go.Proofs.YtkmgflnmffdhjaaGreatDoor
open Go Go.RowKit

theorem Tryz.infoSlA : (Tryz.prog.info? 125).map (fun i => (i.zero, i.size, i.bytes)) = some (some (.slice none 0 0), 1, 24) := by kernel_rfl
theorem index_six (v0 v1 v2 v3 v4 v5 : Value) : (∀ W, (Instr.index 126 (.agg #[v0, v1, v2, v3, v4, v5]) (.int .i64 0)).run Tryz.prog W = .ok v0 W) ∧ (∀ W, (Instr.index 126 (.agg #[v0, v1, v2, v3, v4, v5]) (.int .i64 1)).run Tryz.prog W = .ok v1 W) ∧ (∀ W, (Instr.index 126 (.agg #[v0, v1, v2, v3, v4, v5]) (.int .i64 2)).run Tryz.prog W = .ok v2 W) ∧ (∀ W, (Instr.index 126 (.agg #[v0, v1, v2, v3, v4, v5]) (.int .i64 3)).run Tryz.prog W = .ok v3 W) ∧ (∀ W, (Instr.index 126 (.agg #[v0, v1, v2, v3, v4, v5]) (.int .i64 4)).run Tryz.prog W = .ok v4 W) ∧ (∀ W, (Instr.index 126 (.agg #[v0, v1, v2, v3, v4, v5]) (.int .i64 5)).run Tryz.prog W = .ok v5 W) := by
  obtain ⟨i0, hi, hz⟩ := Option.map_eq_some_iff.1 Tryz.infoSlA
  simp only [Prod.mk.injEq] at hz
  obtain ⟨hz0, hz1, hz2⟩ := hz
  refine ⟨?_, ?_, ?_, ?_, ?_, ?_⟩ <;> intro W <;> simp [Instr.index, run_underlying Tryz.underlying126, run_underlying Tryz.underlying125, asIntOf, sizeOf, typeInfo, part, isAgg, hi, hz1, go_sem]
theorem index_tx6 (v0 v1 v2 v3 v4 v5 : Value) : (∀ W, (Instr.index 188 (.agg #[v0, v1, v2, v3, v4, v5]) (.int .i64 0)).run Tryz.prog W = .ok v0 W) ∧ (∀ W, (Instr.index 188 (.agg #[v0, v1, v2, v3, v4, v5]) (.int .i64 1)).run Tryz.prog W = .ok v1 W) ∧ (∀ W, (Instr.index 188 (.agg #[v0, v1, v2, v3, v4, v5]) (.int .i64 2)).run Tryz.prog W = .ok v2 W) ∧ (∀ W, (Instr.index 188 (.agg #[v0, v1, v2, v3, v4, v5]) (.int .i64 3)).run Tryz.prog W = .ok v3 W) ∧ (∀ W, (Instr.index 188 (.agg #[v0, v1, v2, v3, v4, v5]) (.int .i64 4)).run Tryz.prog W = .ok v4 W) ∧ (∀ W, (Instr.index 188 (.agg #[v0, v1, v2, v3, v4, v5]) (.int .i64 5)).run Tryz.prog W = .ok v5 W) := by
  obtain ⟨i0, hi, hz⟩ := Option.map_eq_some_iff.1 Tryz.infoWs
  simp only [Prod.mk.injEq] at hz
  obtain ⟨hz0, hz1, hz2⟩ := hz
  refine ⟨?_, ?_, ?_, ?_, ?_, ?_⟩ <;> intro W <;> simp [Instr.index, run_underlying Tryz.underlying188, run_underlying Tryz.underlying9, asIntOf, sizeOf, typeInfo, part, isAgg, hi, hz1, go_sem]
theorem index_tx4 (v0 v1 v2 v3 : Value) : (∀ W, (Instr.index 159 (.agg #[v0, v1, v2, v3]) (.int .i64 0)).run Tryz.prog W = .ok v0 W) ∧ (∀ W, (Instr.index 159 (.agg #[v0, v1, v2, v3]) (.int .i64 1)).run Tryz.prog W = .ok v1 W) ∧ (∀ W, (Instr.index 159 (.agg #[v0, v1, v2, v3]) (.int .i64 2)).run Tryz.prog W = .ok v2 W) ∧ (∀ W, (Instr.index 159 (.agg #[v0, v1, v2, v3]) (.int .i64 3)).run Tryz.prog W = .ok v3 W) := by
  obtain ⟨i0, hi, hz⟩ := Option.map_eq_some_iff.1 Tryz.infoWs
  simp only [Prod.mk.injEq] at hz
  obtain ⟨hz0, hz1, hz2⟩ := hz
  refine ⟨?_, ?_, ?_, ?_⟩ <;> intro W <;> simp [Instr.index, run_underlying Tryz.underlying159, run_underlying Tryz.underlying9, asIntOf, sizeOf, typeInfo, part, isAgg, hi, hz1, go_sem]
end Go.Proofs.YtkmgflnmffdhjaaGreatDoor

/- A law of my own, of no function (after XQt): the same, where the first operation is waited for behind the head alone; it reads nothing, and is taken first. -/
namespace Go.Proofs.YtkmgflnmffdhjaaGreatDoor
open Go Go.RowKit
section
variable {P : Program} {ops : Array Oper} {md : Region.Mode} {C : World → Prop}
def sinkM (md : Region.Mode) (ops : Array Oper) (n : Nat) : Bool :=
  (List.range n).all fun i => decide (i < 1) || (List.range (n + 1)).any fun j => decide (i < j) && Region.waitsFor md ops j i
theorem tail_waitsM {n : Nat} {listed : Array Bool} (hs : sinkM md ops n = true) (hc : Region.chainB md ops n = true) (hn : n < ops.size) (inv : HeadInv md ops n listed) :
    ∀ (d i : Nat), n - i = d → 1 ≤ i → i < n → listed.getD i true = false → ∀ t, n ≤ t → t ∉ Region.ready md ops listed := by
  intro d
  induction d using Nat.strongRecOn with
  | _ d ih =>
    intro i hd h1i hi hun t ht hr
    obtain ⟨_, ot, hot, hall⟩ := mem_ready.1 hr
    have htlt : t < ops.size := (Array.getElem?_eq_some_iff.1 hot).1
    by_cases htn : t = n
    · subst htn
      have h1 := List.all_eq_true.1 hs i (List.mem_range.2 hi)
      simp only [Bool.or_eq_true, decide_eq_true_eq] at h1
      replace h1 := h1.resolve_left (by omega)
      obtain ⟨j, hj, hj2⟩ := List.any_eq_true.1 h1
      simp only [Bool.and_eq_true, decide_eq_true_eq] at hj2
      obtain ⟨oj, hoj, e, he, hb, hon⟩ := Region.waitsFor_spec hj2.2
      have hjle : j ≤ t := by have := List.mem_range.1 hj; omega
      by_cases hjt : j = t
      · subst hjt
        have : oj = ot := Option.some.inj (hoj.symm.trans hot)
        subst this
        have h2 := hall e he hb
        rw [hon, getD_both hun] at h2
        cases h2
      · cases hl : listed.getD j false with
        | true =>
          have h2 := inv.closed j oj hoj hl e he hb
          rw [hon, getD_both hun] at h2
          cases h2
        | false =>
          have hjs : j < listed.size := by rw [inv.size]; omega
          exact ih (t - j) (by omega) j rfl (by omega) (by omega) (getD_in hjs hl) t (Nat.le_refl _) hr
    · have h1 := List.all_eq_true.1 hc t (List.mem_range.2 htlt)
      simp only [Bool.or_eq_true, decide_eq_true_eq] at h1
      rcases h1 with h1 | h1
      · omega
      · obtain ⟨o', ho', e, he, hb, hon⟩ := Region.waitsFor_spec h1
        have : o' = ot := Option.some.inj (ho'.symm.trans hot)
        subst this
        have h2 := hall e he hb
        rw [hon, getD_both (inv.tail (t - 1) (by omega) (by omega))] at h2
        cases h2
theorem low_ge {listed : Array Bool} {i : Nat} (h0 : listed.getD 0 false = true) (hun : listed.getD i true = false) : 1 ≤ i := by
  rcases Nat.eq_zero_or_pos i with rfl | h
  · rw [getD_both hun] at h0
    cases h0
  · exact h
theorem wpAnyQL_firstM {n i : Nat} {oi : Oper} {v : Value} {L : Array Bool → Act → Prop} (hi : ops[i]? = some oi) (hsel : ∀ (j : Nat) (o : Oper) cs b, ops[j]? = some o → o.op ≠ .select cs b)
    (hs : sinkM md ops n = true) (hc : Region.chainB md ops n = true) (hn : n < ops.size) (hin : i < n)
    (hdone : ∀ listed a, L listed a → ∀ j ∈ Region.ready md ops listed, n ≤ j) :
    ∀ (f : Nat) (listed : Array Bool) (a : Act), HeadInv md ops n listed → listed.getD 0 false = true →
      (∀ j oj, ops[j]? = some oj → j ≠ i → listed.getD j true = false → (∀ e ∈ oj.after, Region.binds md e = true → e.on ≠ i) → oi.apart ops oj = true) →
      i ∈ Region.ready md ops listed → YieldsIn P ops C oi v a →
      wpAnyQL P md ops C n L f (listed.setIfInBounds i true) (a.put oi.dst v) → wpAnyQL P md ops C n L (f + 1) listed a := by
  intro f
  induction f with
  | zero =>
    intro listed a inv h0 _ hr hy H
    have hun := (mem_ready.1 hr).1
    refine ⟨fun h => (by rw [h] at hr; cases hr), fun j hj => ?_⟩
    have hjn : j < n := by
      rcases Nat.lt_or_ge j n with h | h
      · exact h
      · exact absurd hj (tail_waitsM hs hc hn inv _ i rfl (low_ge h0 hun) hin hun j h)
    refine ⟨hjn, ?_⟩
    by_cases hji : j = i
    · subst hji; exact hy.qOp hi H
    · have := hdone _ _ H j (ready_mono hj hji)
      omega
  | succ f ih =>
    intro listed a inv h0 hfree hr hy H
    have hun := (mem_ready.1 hr).1
    refine ⟨fun h => (by rw [h] at hr; cases hr), fun j hj => ?_⟩
    have hjn : j < n := by
      rcases Nat.lt_or_ge j n with h | h
      · exact h
      · exact absurd hj (tail_waitsM hs hc hn inv _ i rfl (low_ge h0 hun) hin hun j h)
    refine ⟨hjn, ?_⟩
    by_cases hji : j = i
    · subst hji; exact hy.qOp hi H
    · have h1 := (H.2 j (ready_mono hj hji)).2
      obtain ⟨hjun, oj, hoj, hall⟩ := mem_ready.1 hj
      have hnot : ∀ e ∈ oj.after, Region.binds md e = true → e.on ≠ i := fun e he hb heq => by
        have h1 := hall e he hb
        rw [heq, getD_both hun] at h1
        cases h1
      have h2 := qOp_put hoj (hfree j oj hoj hji hjun hnot) (fun cs b => hsel i oi cs b hi) (fun cs b => hsel j oj cs b hoj) hy h1
      have hfree' : ∀ k ok, ops[k]? = some ok → k ≠ i → (listed.setIfInBounds j true).getD k true = false →
          (∀ e ∈ ok.after, Region.binds md e = true → e.on ≠ i) → oi.apart ops ok = true := fun k ok hk hki hun hno => by
        refine hfree k ok hk hki ?_ hno
        by_cases hjk : j = k
        · subst hjk; exact hjun
        · rw [getD_set_ne true hjk] at hun; exact hun
      refine qOp_mono (fun a' h3 => ih (listed.setIfInBounds j true) a' (inv.set hj hjn) (getD_set_true h0) hfree' (ready_mono hr (Ne.symm hji)) h3.1 ?_) h2
      rw [Array.setIfInBounds_comm _ _ hji]
      exact h3.2
theorem wpAnyQL_lexM {n g : Nat} {Lq : Act → Prop} (hsel : Region.noSelect ops = true) (hs : sinkM md ops n = true) (hc : Region.chainB md ops n = true) (hn : n < ops.size) :
    ∀ (l : List Oper) (k : Nat) (listed : Array Bool) (a : Act), (∀ j, j < l.length → l[j]? = ops[k + j]?) → k + l.length = n → HeadInv md ops n listed → listed.getD 0 false = true →
    Region.lexHead md ops g l.length k listed = true → wpQuiet P ops C Lq l a →
    wpAnyQL P md ops C n (fun listed' a' => Region.seqB md ops g n listed' = true ∧ Lq a') l.length listed a
  | [], k, listed, a, _, hk, _, _, hB, h => by
    have : k = n := by simpa using hk
    subst this
    exact ⟨by simpa [Region.lexHead] using hB, h⟩
  | o :: l, k, listed, a, hl, hk, inv, h00, hB, h => by
    have h0 : ops[k]? = some o := by simpa using (hl 0 (by simp)).symm
    simp only [List.length_cons, Region.lexHead, Bool.and_eq_true] at hB
    obtain ⟨⟨hr, hf⟩, hB'⟩ := hB
    have hkn : k < n := by simp only [List.length_cons] at hk; omega
    have hr' : k ∈ Region.ready md ops listed := by simpa using hr
    have hst : qOp P ops C k (wpQuiet P ops C Lq l) a := by unfold qOp; simp only [h0]; exact h
    obtain ⟨v, hy, hK⟩ := yieldsIn_of_qOp h0 hst
    exact wpAnyQL_firstM h0 (Region.noSelect_spec hsel) hs hc hn hkn (fun listed' a' hL => seqB_ready hL.1) l.length listed a inv h00 (Region.free_spec h0 hf) hr' hy
      (wpAnyQL_lexM hsel hs hc hn l (k + 1) _ _ (fun j hj => by have := hl (j + 1) (by simp; omega); simpa [Nat.add_assoc, Nat.add_comm 1 j] using this) (by simp only [List.length_cons] at hk; omega) (inv.set hr' hkn) (getD_set_true h00) hB' hK)
def lexTailM (md : Region.Mode) (ops : Array Oper) (n : Nat) : Bool :=
  Region.noSelect ops && decide (n < ops.size) && decide (0 < n) && sinkM md ops n && Region.chainB md ops n && ((ops[0]?.map fun o => o.after.isEmpty) == some true) && Region.lexHead md ops (ops.size - n) (n - 1) 1 ((Array.replicate ops.size false).setIfInBounds 0 true)
theorem wp_any_quietM {Q : Exit → Act → World → Prop} {a : Act} {w : World} {l : List Oper} (n : Nat) (hB : lexTailM .any l.toArray n = true) (hC : C w)
    (h : wpQuiet P l.toArray C (fun a' => ∀ w', C w' → wpList P l.toArray Q (l.drop n) a' w') ((l.take n).drop 1) a) : wpAny P .any l.toArray Q (l.length - 1) ((Array.replicate l.toArray.size false).setIfInBounds 0 true) a w := by
  simp only [lexTailM, Bool.and_eq_true, decide_eq_true_eq, beq_iff_eq] at hB
  obtain ⟨⟨⟨⟨⟨⟨hsel, hn⟩, hn0⟩, hs⟩, hc⟩, hz⟩, hlex⟩ := hB
  have hn' : n < l.length := by simpa using hn
  have htl : ((l.take n).drop 1).length = n - 1 := by simp; omega
  have hdl : (l.drop n).length = l.toArray.size - n := by simp
  have hsz : 0 < l.toArray.size := by omega
  have inv0 : HeadInv .any l.toArray n ((Array.replicate l.toArray.size false).setIfInBounds 0 true) := by
    refine ⟨by simp, ?_, ?_⟩
    · intro j oj hj hl e he _
      by_cases h0 : 0 = j
      · subst h0
        rw [hj] at hz
        have hz' : oj.after.isEmpty = true := Option.some.inj hz
        rw [Array.isEmpty_iff] at hz'
        rw [hz'] at he
        simp at he
      · rw [getD_set_ne false h0, getD_replicate_false] at hl
        cases hl
    · intro t ht ht'
      rw [getD_set_ne true (by omega)]
      exact getD_in (by simpa using ht') (getD_replicate_false _ _)
  have h00 : ((Array.replicate l.toArray.size false).setIfInBounds 0 true).getD 0 false = true := by
    have : 0 < ((Array.replicate l.toArray.size false).setIfInBounds 0 true).size := by simpa using hsz
    rw [Array.getD, dif_pos this]
    simp
  have H := wpAnyQL_lexM (md := .any) (g := l.toArray.size - n) hsel hs hc hn ((l.take n).drop 1) 1 _ a (fun j hj => by
    have hj' : 1 + j < n := by rw [htl] at hj; omega
    rw [List.getElem?_drop, List.getElem?_take, if_pos hj']
    simp) (by rw [htl]; omega) inv0 h00 (by rw [htl]; exact hlex) h
  have := wpAny_of_headQ (C := C) (Q' := Q) (g := l.toArray.size - n) (fun listed a' w' hw' hL => by
    have := wpAny_of_seq (md := .any) (Q' := Q) (l.drop n) n listed a' w' (fun j => by simp [List.getElem?_drop]) (by rw [hdl]; exact hL.1) (hL.2 w' hw')
    rwa [hdl] at this) _ _ _ _ hC H
  rw [htl, show n - 1 + (l.toArray.size - n) = l.length - 1 by simp; omega] at this
  exact this
theorem wp_region_belowM {id : Nat} {Q : Exit → Act → World → Prop} {a : Act} {w : World} {o : Oper} {l : List Oper} (n : Nat) (hm : P.follows .mixedOrders = true) (hB : lexTailM .any (o :: l).toArray n = true)
    (hf : Region.free .any (o :: l).toArray (Array.replicate (o :: l).toArray.size false) 0 = true) (hr : (Region.ready .any (o :: l).toArray (Array.replicate (o :: l).toArray.size false)).contains 0 = true)
    (hQ : ∀ v c a w, Q (.panic c) (a.put o.dst v) w → Q (.panic c) a w) (hw : Region.wanted o (yielded (o :: l).toArray a.tmps) = true)
    (h : ∃ v, (∀ w, (execOp a.eval o).run P w = .ok (.value v) w) ∧ wpQuiet P (o :: l).toArray (fun w' => ∃ z : BW w, w' = z.v) (fun a' => ∀ w', (∃ z : BW w, w' = z.v) → wpList P (o :: l).toArray Q ((o :: l).drop n) a' w') (((o :: l).take n).drop 1) (a.put o.dst v)) : (Code.region id (o :: l).toArray true).wp P Q a w := by
  obtain ⟨v, h1, h2⟩ := h
  have hs : Region.noSelect (o :: l).toArray = true := by
    simp only [lexTailM, Bool.and_eq_true] at hB
    exact hB.1.1.1.1.1.1
  refine wp_region_any hm ?_
  show wpAny P .any (o :: l).toArray Q (((o :: l).length - 1) + 1) _ a w.drew
  exact wpAny_takeE (i := 0) (oi := o) rfl hs hf hr hQ hw ⟨v, h1, wp_any_quietM (C := fun w' => ∃ z : BW w, w' = z.v) n hB ⟨⟨w.drew, (Below.refl _ _).drew⟩, rfl⟩ h2⟩
end
end Go.Proofs.YtkmgflnmffdhjaaGreatDoor

/- Layer 19: contracts of package envelope: Put. -/
namespace Go.Proofs.YtkmgflnmffdhjaaGreatDoor
open Go Go.RowKit

theorem own_two (w : World) (base : Nat) (hb : base ≤ w.heap.size) (a b : Value) : (w.alloc (.cells #[a, b] 9)).ownsRow base 9 1 (.slice (some ⟨w.heap.size, 0, none⟩) 2 2) 2 [a, b] :=
  ⟨rfl, .inr ⟨w.heap.size, 2, #[a, b], rfl, hb, heap_alloc_new w _, Nat.le_refl _, by decide, rfl, rfl⟩⟩
theorem erow_own (v : Value) (xs : List ByteArray) (base n : Nat) (us : List Value) (w : World) (h : w.ownsRow base 9 1 v n us) (hn : n = xs.length) (hu : us = xs.map Value.string) (h0 : 0 < xs.length) (hN : xs.length ≤ 1000) (hlen : wsW (xs.map (·.data.toList)) ≤ 4000000000) :
    Calls Tryz.prog 93 #[v] w fun e w' => e = .returned (.string ⟨(rowW (xs.map (·.data.toList))).toArray⟩) ∧ Below w.heap.size w w' := by
  subst hn hu
  rcases h.2 with ⟨_, h1⟩ | ⟨g, cap, cur, rfl, _, hh, hc, hm, hsz, ht⟩
  · omega
  · refine erow_any g cap xs w ?_ (Array.getElem?_eq_some_iff.1 hh).1 hN hc hlen
    intro j x hx
    have hjl : j < xs.length := (List.getElem?_eq_some_iff.1 hx).1
    have e1 : (xs.map Value.string)[j]? = some (.string x) := by rw [List.getElem?_map, hx]; rfl
    rw [← ht, List.getElem?_take, if_pos (by omega)] at e1
    simp only [World.cell?, hh, Nat.zero_add]
    simpa using e1
def envV (e : Env) (v0 v1 v2 v3 v4 v5 : Value) : Value := .agg #[.string ⟨e.date.toArray⟩, .string ⟨e.subj.toArray⟩, v0, v1, v2, v3, v4, v5, .string ⟨e.reply.toArray⟩, .string ⟨e.id.toArray⟩, .bool e.h0, .bool e.h1, .bool e.h2, .bool e.h3]
structure EnvAt (W : World) (e : Env) (v0 v1 v2 v3 v4 v5 : Value) : Prop where
  r0 : rowAdx W v0 e.l0
  r1 : rowAdx W v1 e.l1
  r2 : rowAdx W v2 e.l2
  r3 : rowAdx W v3 e.l3
  r4 : rowAdx W v4 e.l4
  r5 : rowAdx W v5 e.l5
structure smallE (e : Env) (M N : Nat) : Prop where
  hd : e.date.length ≤ M
  hs : e.subj.length ≤ M
  hr : e.reply.length ≤ M
  hi : e.id.length ≤ M
  s0 : smallX e.l0 M
  s1 : smallX e.l1 M
  s2 : smallX e.l2 M
  s3 : smallX e.l3 M
  s4 : smallX e.l4 M
  s5 : smallX e.l5 M
  n0 : e.l0.length ≤ N
  n1 : e.l1.length ≤ N
  n2 : e.l2.length ≤ N
  n3 : e.l3.length ≤ N
  n4 : e.l4.length ≤ N
  n5 : e.l5.length ≤ N
/-- What is put is not too long. -/
structure sizedE (e : Env) : Prop where
  hd : e.date.length ≤ 100000000
  hs : e.subj.length ≤ 100000000
  hr : e.reply.length ≤ 100000000
  hi : e.id.length ≤ 100000000
  s0 : smallX e.l0 100000000
  s1 : smallX e.l1 100000000
  s2 : smallX e.l2 100000000
  s3 : smallX e.l3 100000000
  s4 : smallX e.l4 100000000
  s5 : smallX e.l5 100000000
  n0 : (listW e.l0).length ≤ 400000000
  n1 : (listW e.l1).length ≤ 400000000
  n2 : (listW e.l2).length ≤ 400000000
  n3 : (listW e.l3).length ≤ 400000000
  n4 : (listW e.l4).length ≤ 400000000
  n5 : (listW e.l5).length ≤ 400000000
theorem flat_list (l : List Adx) : (l.flatMap adrW).length ≤ (listW l).length := by
  unfold listW
  split
  · next h => rw [h]; simp
  · simp
    omega
set_option maxRecDepth 100000 in
set_option maxHeartbeats 8000000 in
theorem eput_gen (e : Env) (v0 v1 v2 v3 v4 v5 : Value) (w : World) (h : EnvAt w e v0 v1 v2 v3 v4 v5) (hs : sizedE e) (ht : tab w) :
    Calls Tryz.prog 60 #[envV e v0 v1 v2 v3 v4 v5] w fun o w' => o = .returned (.string ⟨(putE e).toArray⟩) ∧ Below w.heap.size w w' := by
  obtain ⟨i0, hi, hz⟩ := Option.map_eq_some_iff.1 Tryz.infoWs
  simp only [Prod.mk.injEq] at hz
  obtain ⟨hz0, hz1, hz2⟩ := hz
  have HEn := Lib.hid h
  have HSm := Lib.hid hs
  have HTw := Lib.hid ht
  obtain ⟨a0, k0, rfl, _, _, _⟩ := h.r0.at
  obtain ⟨a1, k1, rfl, _, _, _⟩ := h.r1.at
  obtain ⟨a2, k2, rfl, _, _, _⟩ := h.r2.at
  obtain ⟨a3, k3, rfl, _, _, _⟩ := h.r3.at
  obtain ⟨a4, k4, rfl, _, _, _⟩ := h.r4.at
  obtain ⟨a5, k5, rfl, _, _, _⟩ := h.r5.at
  clear h hs ht
  obtain ⟨A0, hA0⟩ : ∃ T : ByteArray, T = ⟨(nstW e.date e.h0).toArray⟩ := ⟨_, rfl⟩
  have lA0 : A0.data.toList = nstW e.date e.h0 := by rw [hA0]
  obtain ⟨A1, hA1⟩ : ∃ T : ByteArray, T = ⟨(nstW e.subj e.h1).toArray⟩ := ⟨_, rfl⟩
  have lA1 : A1.data.toList = nstW e.subj e.h1 := by rw [hA1]
  obtain ⟨B0, hB0⟩ : ∃ T : ByteArray, T = ⟨(listW e.l0).toArray⟩ := ⟨_, rfl⟩
  have lB0 : B0.data.toList = listW e.l0 := by rw [hB0]
  obtain ⟨B1, hB1⟩ : ∃ T : ByteArray, T = ⟨(listW e.l1).toArray⟩ := ⟨_, rfl⟩
  have lB1 : B1.data.toList = listW e.l1 := by rw [hB1]
  obtain ⟨B2, hB2⟩ : ∃ T : ByteArray, T = ⟨(listW e.l2).toArray⟩ := ⟨_, rfl⟩
  have lB2 : B2.data.toList = listW e.l2 := by rw [hB2]
  obtain ⟨B3, hB3⟩ : ∃ T : ByteArray, T = ⟨(listW e.l3).toArray⟩ := ⟨_, rfl⟩
  have lB3 : B3.data.toList = listW e.l3 := by rw [hB3]
  obtain ⟨B4, hB4⟩ : ∃ T : ByteArray, T = ⟨(listW e.l4).toArray⟩ := ⟨_, rfl⟩
  have lB4 : B4.data.toList = listW e.l4 := by rw [hB4]
  obtain ⟨B5, hB5⟩ : ∃ T : ByteArray, T = ⟨(listW e.l5).toArray⟩ := ⟨_, rfl⟩
  have lB5 : B5.data.toList = listW e.l5 := by rw [hB5]
  obtain ⟨A2, hA2⟩ : ∃ T : ByteArray, T = ⟨(nstW e.reply e.h2).toArray⟩ := ⟨_, rfl⟩
  have lA2 : A2.data.toList = nstW e.reply e.h2 := by rw [hA2]
  obtain ⟨A3, hA3⟩ : ∃ T : ByteArray, T = ⟨(nstW e.id e.h3).toArray⟩ := ⟨_, rfl⟩
  have lA3 : A3.data.toList = nstW e.id e.h3 := by rw [hA3]
  have zA0 : A0.size ≤ 200000100 := by
    have := nstW_size e.date e.h0 (by have := HSm.out.hd; omega)
    rw [← lA0, len_toList] at this
    have := HSm.out.hd
    omega
  have zA1 : A1.size ≤ 200000100 := by
    have := nstW_size e.subj e.h1 (by have := HSm.out.hs; omega)
    rw [← lA1, len_toList] at this
    have := HSm.out.hs
    omega
  have zA2 : A2.size ≤ 200000100 := by
    have := nstW_size e.reply e.h2 (by have := HSm.out.hr; omega)
    rw [← lA2, len_toList] at this
    have := HSm.out.hr
    omega
  have zA3 : A3.size ≤ 200000100 := by
    have := nstW_size e.id e.h3 (by have := HSm.out.hi; omega)
    rw [← lA3, len_toList] at this
    have := HSm.out.hi
    omega
  have zB0 : B0.size ≤ 400000000 := by
    have h1 := HSm.out.n0
    rw [← lB0, len_toList] at h1
    exact h1
  have zB1 : B1.size ≤ 400000000 := by
    have h1 := HSm.out.n1
    rw [← lB1, len_toList] at h1
    exact h1
  have zB2 : B2.size ≤ 400000000 := by
    have h1 := HSm.out.n2
    rw [← lB2, len_toList] at h1
    exact h1
  have zB3 : B3.size ≤ 400000000 := by
    have h1 := HSm.out.n3
    rw [← lB3, len_toList] at h1
    exact h1
  have zB4 : B4.size ≤ 400000000 := by
    have h1 := HSm.out.n4
    rw [← lB4, len_toList] at h1
    exact h1
  have zB5 : B5.size ≤ 400000000 := by
    have h1 := HSm.out.n5
    rw [← lB5, len_toList] at h1
    exact h1
  have HR := Lib.hid (fun v base us W (hw : World.ownsRow W base 9 1 v 10 us) hu => erow_own v [A0, A1, B0, B1, B2, B3, B4, B5, A2, A3] base 10 us W hw rfl hu (by simp) (by simp) (by
    simp only [List.map_cons, List.map_nil, wsW, List.sum_cons, List.sum_nil, len_toList]
    omega))
  have HE : Hid (rowW ([A0, A1, B0, B1, B2, B3, B4, B5, A2, A3].map (·.data.toList)) = putE e) := by
    unfold Hid putE envP
    simp only [List.map_cons, List.map_nil]
    rw [lA0, lA1, lB0, lB1, lB2, lB3, lB4, lB5, lA2, lA3]
  rw [HE.out] at HR
  obtain ⟨R, hR⟩ : ∃ R : ByteArray, R = ⟨(putE e).toArray⟩ := ⟨_, rfl⟩
  rw [← hR] at HR ⊢
  have HSA0 := Lib.hid (fun W h => enst_any ⟨e.date.toArray⟩ e.h0 W (by
    have := HSm.out.hd
    show e.date.toArray.size ≤ _
    simp
    omega) h)
  rw [show (⟨e.date.toArray⟩ : ByteArray).data.toList = e.date from rfl, ← hA0] at HSA0
  have HSA1 := Lib.hid (fun W h => enst_any ⟨e.subj.toArray⟩ e.h1 W (by
    have := HSm.out.hs
    show e.subj.toArray.size ≤ _
    simp
    omega) h)
  rw [show (⟨e.subj.toArray⟩ : ByteArray).data.toList = e.subj from rfl, ← hA1] at HSA1
  have HSA2 := Lib.hid (fun W h => enst_any ⟨e.reply.toArray⟩ e.h2 W (by
    have := HSm.out.hr
    show e.reply.toArray.size ≤ _
    simp
    omega) h)
  rw [show (⟨e.reply.toArray⟩ : ByteArray).data.toList = e.reply from rfl, ← hA2] at HSA2
  have HSA3 := Lib.hid (fun W h => enst_any ⟨e.id.toArray⟩ e.h3 W (by
    have := HSm.out.hi
    show e.id.toArray.size ≤ _
    simp
    omega) h)
  rw [show (⟨e.id.toArray⟩ : ByteArray).data.toList = e.id from rfl, ← hA3] at HSA3
  have HL0 := Lib.hid (fun W (hb : Below w.heap.size w W) => elist_gen (.slice a0 e.l0.length k0) e.l0 W (HEn.out.r0.below hb) HSm.out.s0 (by have h1 := HSm.out.n0; have h2 := Nat.le_trans (flat_list _) h1; omega) (HTw.out.below hb))
  rw [← hB0] at HL0
  have HL1 := Lib.hid (fun W (hb : Below w.heap.size w W) => elist_gen (.slice a1 e.l1.length k1) e.l1 W (HEn.out.r1.below hb) HSm.out.s1 (by have h1 := HSm.out.n1; have h2 := Nat.le_trans (flat_list _) h1; omega) (HTw.out.below hb))
  rw [← hB1] at HL1
  have HL2 := Lib.hid (fun W (hb : Below w.heap.size w W) => elist_gen (.slice a2 e.l2.length k2) e.l2 W (HEn.out.r2.below hb) HSm.out.s2 (by have h1 := HSm.out.n2; have h2 := Nat.le_trans (flat_list _) h1; omega) (HTw.out.below hb))
  rw [← hB2] at HL2
  have HL3 := Lib.hid (fun W (hb : Below w.heap.size w W) => elist_gen (.slice a3 e.l3.length k3) e.l3 W (HEn.out.r3.below hb) HSm.out.s3 (by have h1 := HSm.out.n3; have h2 := Nat.le_trans (flat_list _) h1; omega) (HTw.out.below hb))
  rw [← hB3] at HL3
  have HL4 := Lib.hid (fun W (hb : Below w.heap.size w W) => elist_gen (.slice a4 e.l4.length k4) e.l4 W (HEn.out.r4.below hb) HSm.out.s4 (by have h1 := HSm.out.n4; have h2 := Nat.le_trans (flat_list _) h1; omega) (HTw.out.below hb))
  rw [← hB4] at HL4
  have HL5 := Lib.hid (fun W (hb : Below w.heap.size w W) => elist_gen (.slice a5 e.l5.length k5) e.l5 W (HEn.out.r5.below hb) HSm.out.s5 (by have h1 := HSm.out.n5; have h2 := Nat.le_trans (flat_list _) h1; omega) (HTw.out.below hb))
  rw [← hB5] at HL5
  clear hA0 lA0 zA0 hA1 lA1 zA1 hB0 lB0 zB0 hB1 lB1 zB1 hB2 lB2 zB2 hB3 lB3 zB3 hB4 lB4 zB4 hB5 lB5 zB5 hA2 lA2 zA2 hA3 lA3 zA3 hR HE
  obtain ⟨dt, sj, l0, l1, l2, l3, l4, l5, rp, id, b0, b1, b2, b3⟩ := e
  unfold envV
  simp only at HSA0 HSA1 HSA2 HSA3 HL0 HL1 HL2 HL3 HL4 HL5 ⊢
  obtain ⟨D, hD⟩ : ∃ T : ByteArray, T = ⟨dt.toArray⟩ := ⟨_, rfl⟩
  obtain ⟨S, hS⟩ : ∃ T : ByteArray, T = ⟨sj.toArray⟩ := ⟨_, rfl⟩
  obtain ⟨P, hP⟩ : ∃ T : ByteArray, T = ⟨rp.toArray⟩ := ⟨_, rfl⟩
  obtain ⟨I, hI⟩ : ∃ T : ByteArray, T = ⟨id.toArray⟩ := ⟨_, rfl⟩
  rw [← hD] at HSA0 ⊢
  rw [← hS] at HSA1 ⊢
  rw [← hP] at HSA2 ⊢
  rw [← hI] at HSA3 ⊢
  obtain ⟨n0, hn0⟩ : ∃ n, n = l0.length := ⟨_, rfl⟩
  rw [← hn0] at HL0 ⊢
  obtain ⟨n1, hn1⟩ : ∃ n, n = l1.length := ⟨_, rfl⟩
  rw [← hn1] at HL1 ⊢
  obtain ⟨n2, hn2⟩ : ∃ n, n = l2.length := ⟨_, rfl⟩
  rw [← hn2] at HL2 ⊢
  obtain ⟨n3, hn3⟩ : ∃ n, n = l3.length := ⟨_, rfl⟩
  rw [← hn3] at HL3 ⊢
  obtain ⟨n4, hn4⟩ : ∃ n, n = l4.length := ⟨_, rfl⟩
  rw [← hn4] at HL4 ⊢
  obtain ⟨n5, hn5⟩ : ∃ n, n = l5.length := ⟨_, rfl⟩
  rw [← hn5] at HL5 ⊢
  clear hD hS hP hI hn0 hn1 hn2 hn3 hn4 hn5 HEn HSm
  obtain ⟨X, hX⟩ : ∃ X, X = w.alloc (.cells #[.string D, .string S, .slice a0 n0 k0, .slice a1 n1 k1, .slice a2 n2 k2, .slice a3 n3 k3, .slice a4 n4 k4, .slice a5 n5 k5, .string P, .string I, .bool b0, .bool b1, .bool b2, .bool b3] 129) := ⟨_, rfl⟩
  have hc : X.heap[w.heap.size]? = some (.cells #[.string D, .string S, .slice a0 n0 k0, .slice a1 n1 k1, .slice a2 n2 k2, .slice a3 n3 k3, .slice a4 n4 k4, .slice a5 n5 k5, .string P, .string I, .bool b0, .bool b1, .bool b2, .bool b3] 129 (0, 0)) := by rw [hX]; exact heap_alloc_new w _
  have x0 : X.cell? ⟨w.heap.size, 0, none⟩ = some (.string D) := by simp [World.cell?, hc]
  have x1 : X.cell? ⟨w.heap.size, 1, none⟩ = some (.string S) := by simp [World.cell?, hc]
  have x2 : X.cell? ⟨w.heap.size, 2, none⟩ = some (.slice a0 n0 k0) := by simp [World.cell?, hc]
  have x3 : X.cell? ⟨w.heap.size, 3, none⟩ = some (.slice a1 n1 k1) := by simp [World.cell?, hc]
  have x4 : X.cell? ⟨w.heap.size, 4, none⟩ = some (.slice a2 n2 k2) := by simp [World.cell?, hc]
  have x5 : X.cell? ⟨w.heap.size, 5, none⟩ = some (.slice a3 n3 k3) := by simp [World.cell?, hc]
  have x6 : X.cell? ⟨w.heap.size, 6, none⟩ = some (.slice a4 n4 k4) := by simp [World.cell?, hc]
  have x7 : X.cell? ⟨w.heap.size, 7, none⟩ = some (.slice a5 n5 k5) := by simp [World.cell?, hc]
  have x8 : X.cell? ⟨w.heap.size, 8, none⟩ = some (.string P) := by simp [World.cell?, hc]
  have x9 : X.cell? ⟨w.heap.size, 9, none⟩ = some (.string I) := by simp [World.cell?, hc]
  have x10 : X.cell? ⟨w.heap.size, 10, none⟩ = some (.bool b0) := by simp [World.cell?, hc]
  have x11 : X.cell? ⟨w.heap.size, 11, none⟩ = some (.bool b1) := by simp [World.cell?, hc]
  have x12 : X.cell? ⟨w.heap.size, 12, none⟩ = some (.bool b2) := by simp [World.cell?, hc]
  have x13 : X.cell? ⟨w.heap.size, 13, none⟩ = some (.bool b3) := by simp [World.cell?, hc]
  have HB0 : Hid (Below w.heap.size w X) := by rw [hX]; exact (Below.refl _ _).alloc (Nat.le_refl _) _
  have hw1 : w.heap.size < X.heap.size := by rw [hX]; simp
  have HT := Lib.hid (fun z : BW X => (HTw.out.below HB0.out).below z.h)
  have HX := Lib.hid hX
  obtain ⟨B, hB⟩ : ∃ B, B = w.heap.size := ⟨_, rfl⟩
  rw [← hB] at hw1 x0 x1 x2 x3 x4 x5 x6 x7 x8 x9 x10 x11 x12 x13
  have HBw := Lib.hid hB
  clear hX hc hB
  have y0 := BW.cell x0
  have y1 := BW.cell x1
  have y10 := BW.cell x10
  have y11 := BW.cell x11
  go_enter Tryz.func60, Tryz.ntmps60
  go_wp2_with fail
  rw [← HX.out, ← HBw.out]
  refine wp_region_belowT 12 (by kernel_rfl) (by kernel_rfl) ?_
  simp only [List.take_succ_cons, List.take_zero, List.drop_succ_cons, List.drop_zero]
  repeat (go_big_quiet_step (first | (go_at_call 90; first | exact BW.calls (HSA0.out _ (HT.out _)) | exact BW.calls (HSA1.out _ (HT.out _)))))
  refine wpQuiet_nil ?_
  rintro W1 ⟨⟨_, hb1⟩, rfl⟩
  have HC1 := Lib.hid hb1
  clear y0 y1 y10 y11
  have X2 := Lib.hid x2
  have X3 := Lib.hid x3
  have X4 := Lib.hid x4
  have X5 := Lib.hid x5
  have X6 := Lib.hid x6
  have X7 := Lib.hid x7
  have X8 := Lib.hid x8
  have X9 := Lib.hid x9
  have X12 := Lib.hid x12
  have X13 := Lib.hid x13
  replace x2 := (HC1.out.cell (p := ⟨B, 2, none⟩) hw1).trans X2.out
  replace x3 := (HC1.out.cell (p := ⟨B, 3, none⟩) hw1).trans X3.out
  replace x4 := (HC1.out.cell (p := ⟨B, 4, none⟩) hw1).trans X4.out
  replace x5 := (HC1.out.cell (p := ⟨B, 5, none⟩) hw1).trans X5.out
  replace x6 := (HC1.out.cell (p := ⟨B, 6, none⟩) hw1).trans X6.out
  replace x7 := (HC1.out.cell (p := ⟨B, 7, none⟩) hw1).trans X7.out
  replace x8 := (HC1.out.cell (p := ⟨B, 8, none⟩) hw1).trans X8.out
  replace x9 := (HC1.out.cell (p := ⟨B, 9, none⟩) hw1).trans X9.out
  replace x12 := (HC1.out.cell (p := ⟨B, 12, none⟩) hw1).trans X12.out
  replace x13 := (HC1.out.cell (p := ⟨B, 13, none⟩) hw1).trans X13.out
  have hsz := HC1.out.size
  have HO1 := Lib.hid (own_two W1 X.heap.size HC1.out.size (.string A0) (.string A1))
  have HD1 : Hid (Below X.heap.size X (W1.alloc (.cells #[.string A0, .string A1] 9))) := HC1.out.alloc HC1.out.size _
  have z2 := (HD1.out.cell (p := ⟨B, 2, none⟩) hw1).trans X2.out
  have z3 := (HD1.out.cell (p := ⟨B, 3, none⟩) hw1).trans X3.out
  have z4 := (HD1.out.cell (p := ⟨B, 4, none⟩) hw1).trans X4.out
  have z5 := (HD1.out.cell (p := ⟨B, 5, none⟩) hw1).trans X5.out
  have z6 := (HD1.out.cell (p := ⟨B, 6, none⟩) hw1).trans X6.out
  have z7 := (HD1.out.cell (p := ⟨B, 7, none⟩) hw1).trans X7.out
  have z8 := (HD1.out.cell (p := ⟨B, 8, none⟩) hw1).trans X8.out
  have z9 := (HD1.out.cell (p := ⟨B, 9, none⟩) hw1).trans X9.out
  have z12 := (HD1.out.cell (p := ⟨B, 12, none⟩) hw1).trans X12.out
  have z13 := (HD1.out.cell (p := ⟨B, 13, none⟩) hw1).trans X13.out
  clear x0 x1 x2 x3 x4 x5 x6 x7 x8 x9 x10 x11 x12 x13 hb1
  go_wp2_with fail
  have HW0 := Lib.hid HD1.out
  generalize hWW : W1.alloc (.cells #[.string A0, .string A1] 9) = Y0 at *
  clear hWW
  obtain ⟨ix0, ix1, ix2, ix3, ix4, ix5⟩ := index_six (.slice a0 n0 k0) (.slice a1 n1 k1) (.slice a2 n2 k2) (.slice a3 n3 k3) (.slice a4 n4 k4) (.slice a5 n5 k5)
  refine wp_loop_rounds 7 ?_
  have HOr := HO1
  rw [rounds_succ]
  go_wp2_with fail
  with_reducible refine (HL0.out _ (HB0.out.trans (HW0.out.mono HB0.out.size))).mono ?_
  rintro e w0 ⟨rfl, hb0⟩
  have HV0 : Hid (Below X.heap.size X w0) := HW0.out.trans (hb0.mono HW0.out.size)
  have HQ0 := Lib.hid (ownsRow_below HOr.out hb0)
  have hsz0 := HV0.out.size
  clear hb0 HOr HW0
  go_wp2_with (at_builtin; refine wpList_append_own _ rfl _ _ 94 rfl X.heap.size 9 i0 (.string ⟨#[]⟩) 1 16 Tryz.underlying94 hi hz0 hz1 hz2 rfl (by decide) _ 2 [.string A0, .string A1] rfl (HQ0.out.alloc _) ⟨w0.heap.size, 0, none⟩ 1 1 [.string B0] rfl rfl (cell_one_new w0 _ _) (by simp [Value.oneCell']) (by unfold maxLen; omega) (by omega) (by simp; omega) ?_; intro u0 y0 hown0 hgrow0 _)
  have HW0 : Hid (Below X.heap.size X y0) := (HV0.out.alloc HV0.out.size _).grown hgrow0 (by simp; omega) (fun q hq => (HQ0.out.lt q hq).1)
  have HOr := Lib.hid hown0
  clear hown0 hgrow0 HQ0 hsz0 HV0
  rw [rounds_succ]
  go_wp2_with fail
  with_reducible refine (HL1.out _ (HB0.out.trans (HW0.out.mono HB0.out.size))).mono ?_
  rintro e w1 ⟨rfl, hb1⟩
  have HV1 : Hid (Below X.heap.size X w1) := HW0.out.trans (hb1.mono HW0.out.size)
  have HQ1 := Lib.hid (ownsRow_below HOr.out hb1)
  have hsz1 := HV1.out.size
  clear hb1 HOr HW0
  go_wp2_with (at_builtin; refine wpList_append_own _ rfl _ _ 94 rfl X.heap.size 9 i0 (.string ⟨#[]⟩) 1 16 Tryz.underlying94 hi hz0 hz1 hz2 rfl (by decide) _ 3 [.string A0, .string A1, .string B0] rfl (HQ1.out.alloc _) ⟨w1.heap.size, 0, none⟩ 1 1 [.string B1] rfl rfl (cell_one_new w1 _ _) (by simp [Value.oneCell']) (by unfold maxLen; omega) (by omega) (by simp; omega) ?_; intro u1 y1 hown1 hgrow1 _)
  have HW0 : Hid (Below X.heap.size X y1) := (HV1.out.alloc HV1.out.size _).grown hgrow1 (by simp; omega) (fun q hq => (HQ1.out.lt q hq).1)
  have HOr := Lib.hid hown1
  clear hown1 hgrow1 HQ1 hsz1 HV1
  rw [rounds_succ]
  go_wp2_with fail
  with_reducible refine (HL2.out _ (HB0.out.trans (HW0.out.mono HB0.out.size))).mono ?_
  rintro e w2 ⟨rfl, hb2⟩
  have HV2 : Hid (Below X.heap.size X w2) := HW0.out.trans (hb2.mono HW0.out.size)
  have HQ2 := Lib.hid (ownsRow_below HOr.out hb2)
  have hsz2 := HV2.out.size
  clear hb2 HOr HW0
  go_wp2_with (at_builtin; refine wpList_append_own _ rfl _ _ 94 rfl X.heap.size 9 i0 (.string ⟨#[]⟩) 1 16 Tryz.underlying94 hi hz0 hz1 hz2 rfl (by decide) _ 4 [.string A0, .string A1, .string B0, .string B1] rfl (HQ2.out.alloc _) ⟨w2.heap.size, 0, none⟩ 1 1 [.string B2] rfl rfl (cell_one_new w2 _ _) (by simp [Value.oneCell']) (by unfold maxLen; omega) (by omega) (by simp; omega) ?_; intro u2 y2 hown2 hgrow2 _)
  have HW0 : Hid (Below X.heap.size X y2) := (HV2.out.alloc HV2.out.size _).grown hgrow2 (by simp; omega) (fun q hq => (HQ2.out.lt q hq).1)
  have HOr := Lib.hid hown2
  clear hown2 hgrow2 HQ2 hsz2 HV2
  rw [rounds_succ]
  go_wp2_with fail
  with_reducible refine (HL3.out _ (HB0.out.trans (HW0.out.mono HB0.out.size))).mono ?_
  rintro e w3 ⟨rfl, hb3⟩
  have HV3 : Hid (Below X.heap.size X w3) := HW0.out.trans (hb3.mono HW0.out.size)
  have HQ3 := Lib.hid (ownsRow_below HOr.out hb3)
  have hsz3 := HV3.out.size
  clear hb3 HOr HW0
  go_wp2_with (at_builtin; refine wpList_append_own _ rfl _ _ 94 rfl X.heap.size 9 i0 (.string ⟨#[]⟩) 1 16 Tryz.underlying94 hi hz0 hz1 hz2 rfl (by decide) _ 5 [.string A0, .string A1, .string B0, .string B1, .string B2] rfl (HQ3.out.alloc _) ⟨w3.heap.size, 0, none⟩ 1 1 [.string B3] rfl rfl (cell_one_new w3 _ _) (by simp [Value.oneCell']) (by unfold maxLen; omega) (by omega) (by simp; omega) ?_; intro u3 y3 hown3 hgrow3 _)
  have HW0 : Hid (Below X.heap.size X y3) := (HV3.out.alloc HV3.out.size _).grown hgrow3 (by simp; omega) (fun q hq => (HQ3.out.lt q hq).1)
  have HOr := Lib.hid hown3
  clear hown3 hgrow3 HQ3 hsz3 HV3
  rw [rounds_succ]
  go_wp2_with fail
  with_reducible refine (HL4.out _ (HB0.out.trans (HW0.out.mono HB0.out.size))).mono ?_
  rintro e w4 ⟨rfl, hb4⟩
  have HV4 : Hid (Below X.heap.size X w4) := HW0.out.trans (hb4.mono HW0.out.size)
  have HQ4 := Lib.hid (ownsRow_below HOr.out hb4)
  have hsz4 := HV4.out.size
  clear hb4 HOr HW0
  go_wp2_with (at_builtin; refine wpList_append_own _ rfl _ _ 94 rfl X.heap.size 9 i0 (.string ⟨#[]⟩) 1 16 Tryz.underlying94 hi hz0 hz1 hz2 rfl (by decide) _ 6 [.string A0, .string A1, .string B0, .string B1, .string B2, .string B3] rfl (HQ4.out.alloc _) ⟨w4.heap.size, 0, none⟩ 1 1 [.string B4] rfl rfl (cell_one_new w4 _ _) (by simp [Value.oneCell']) (by unfold maxLen; omega) (by omega) (by simp; omega) ?_; intro u4 y4 hown4 hgrow4 _)
  have HW0 : Hid (Below X.heap.size X y4) := (HV4.out.alloc HV4.out.size _).grown hgrow4 (by simp; omega) (fun q hq => (HQ4.out.lt q hq).1)
  have HOr := Lib.hid hown4
  clear hown4 hgrow4 HQ4 hsz4 HV4
  rw [rounds_succ]
  go_wp2_with fail
  with_reducible refine (HL5.out _ (HB0.out.trans (HW0.out.mono HB0.out.size))).mono ?_
  rintro e w5 ⟨rfl, hb5⟩
  have HV5 : Hid (Below X.heap.size X w5) := HW0.out.trans (hb5.mono HW0.out.size)
  have HQ5 := Lib.hid (ownsRow_below HOr.out hb5)
  have hsz5 := HV5.out.size
  clear hb5 HOr HW0
  go_wp2_with (at_builtin; refine wpList_append_own _ rfl _ _ 94 rfl X.heap.size 9 i0 (.string ⟨#[]⟩) 1 16 Tryz.underlying94 hi hz0 hz1 hz2 rfl (by decide) _ 7 [.string A0, .string A1, .string B0, .string B1, .string B2, .string B3, .string B4] rfl (HQ5.out.alloc _) ⟨w5.heap.size, 0, none⟩ 1 1 [.string B5] rfl rfl (cell_one_new w5 _ _) (by simp [Value.oneCell']) (by unfold maxLen; omega) (by omega) (by simp; omega) ?_; intro u5 y5 hown5 hgrow5 _)
  have HW0 : Hid (Below X.heap.size X y5) := (HV5.out.alloc HV5.out.size _).grown hgrow5 (by simp; omega) (fun q hq => (HQ5.out.lt q hq).1)
  have HOr := Lib.hid hown5
  clear hown5 hgrow5 HQ5 hsz5 HV5
  rw [rounds_succ]
  go_wp2_with fail
  have HTz := Lib.hid (fun z : BW y5 => ((HTw.out.below HB0.out).below HW0.out).below z.h)
  have t8 := (HW0.out.cell (p := ⟨B, 8, none⟩) hw1).trans X8.out
  have q8 := BW.cell t8
  have t9 := (HW0.out.cell (p := ⟨B, 9, none⟩) hw1).trans X9.out
  have q9 := BW.cell t9
  have t12 := (HW0.out.cell (p := ⟨B, 12, none⟩) hw1).trans X12.out
  have q12 := BW.cell t12
  have t13 := (HW0.out.cell (p := ⟨B, 13, none⟩) hw1).trans X13.out
  have q13 := BW.cell t13
  refine wp_region_belowM 13 (by kernel_rfl) (by kernel_rfl) (by kernel_rfl) (by kernel_rfl) (fun _ _ _ _ h => h) rfl ?_
  apply Exists.intro
  refine ⟨fun w => ?_, ?_⟩
  · go_simp
    try rfl
  try simp only [Act.put]
  try simp only [List.setIfInBounds_toArray]
  try simp only [List.set_cons_succ]
  try simp only [List.set_cons_zero]
  simp only [List.take_succ_cons, List.take_zero, List.drop_succ_cons, List.drop_zero]
  repeat (go_big_quiet_step (first | (go_at_call 90; first | exact BW.calls (HSA2.out _ (HTz.out _)) | exact BW.calls (HSA3.out _ (HTz.out _)))))
  refine wpQuiet_nil ?_
  rintro W7 ⟨⟨_, hb7⟩, rfl⟩
  have HV7 : Hid (Below X.heap.size X W7) := HW0.out.trans (hb7.mono HW0.out.size)
  have HQ7 := Lib.hid (ownsRow_below HOr.out hb7)
  have hsz7 := HV7.out.size
  clear hb7 HOr HW0
  go_wp2_with (at_builtin; refine wpList_append_own _ rfl _ _ 94 rfl X.heap.size 9 i0 (.string ⟨#[]⟩) 1 16 Tryz.underlying94 hi hz0 hz1 hz2 rfl (by decide) _ 8 [.string A0, .string A1, .string B0, .string B1, .string B2, .string B3, .string B4, .string B5] rfl (HQ7.out.alloc _) ⟨W7.heap.size, 0, none⟩ 2 2 [.string A2, .string A3] rfl rfl (World.news_of_block (cs := #[.string A2, .string A3]) (heap_alloc_new W7 _)) (by simp [Value.oneCell']) (by unfold maxLen; omega) (by omega) (by simp; omega) ?_; intro u7 y7 hown7 hgrow7 _)
  have HW7 : Hid (Below X.heap.size X y7) := (HV7.out.alloc HV7.out.size _).grown hgrow7 (by simp; omega) (fun q hq => (HQ7.out.lt q hq).1)
  have HO7 := Lib.hid hown7
  clear hown7 hgrow7 HQ7 hsz7 HV7
  go_wp2_with fail
  with_reducible refine (HR.out _ X.heap.size _ _ HO7.out rfl).mono ?_
  rintro e w8 ⟨rfl, hb8⟩
  go_wp2_with fail
  go_ret
  exact ⟨rfl, (HB0.out.trans (HW7.out.mono HB0.out.size)).trans (hb8.mono ((HB0.out.trans (HW7.out.mono HB0.out.size)).size))⟩
end Go.Proofs.YtkmgflnmffdhjaaGreatDoor
