/- Layer 19: contracts of package envelope: List. -/
import Derived.Test.YtbphnlaoiikebaaGreatDoorGbEnA
import Derived.Test.YtbphnlaoiikebaaGreatDoorGbHdrE
import Derived.Test.YtbphnlaoiikebaaGreatDoorGbAdC
import Derived.Test.YtbphnlaoiikebaaGreatDoorGbLst
namespace Go.Proofs.YtbphnlaoiikebaaGreatDoor
open Go Go.RowKit

theorem list_bytes {l : List Adx} {T : ByteArray} (h : l ≠ []) (hT : T.data.toList = l.flatMap adrW) : (⟨#[40]⟩ ++ T ++ ⟨#[41]⟩ : ByteArray) = ⟨(listW l).toArray⟩ := by
  refine bytes_eq ?_
  rw [cat_toList, cat_toList, hT]
  unfold listW
  rw [if_neg h]
  rfl
set_option maxRecDepth 100000 in
set_option maxHeartbeats 8000000 in
theorem elist_any (v : Value) (l : List Adx) (w : World) (hv : rowAdx w v l) (hs : smallX l 1048576) (hll : l.length ≤ 1000) (ht : tab w) :
    Calls Tryz.prog 7 #[v] w fun e w' => e = .returned (.string ⟨(listW l).toArray⟩) ∧ Below w.heap.size w w' := by
  obtain ⟨ao, cap, rfl, hc, hm, hcells⟩ := hv.at
  unfold maxLen at hm
  have HC := Lib.hid hcells
  have HSm := Lib.hid hs
  have HTw := Lib.hid ht
  by_cases h0 : l = []
  · subst h0
    clear hcells hs ht hv
    go_enter Tryz.func7, Tryz.ntmps7
    go_wp2_with fail
    go_ret
    exact ⟨rfl, Below.refl _ _⟩
  obtain ⟨n, hn⟩ : ∃ n, n = l.length := ⟨_, rfl⟩
  have hn0 : 0 < n := by rw [hn]; exact List.length_pos_iff.2 h0
  rw [← hn] at hc hll ⊢
  have HN := Lib.hid hn
  have H0 := Lib.hid h0
  have bn0 : ((n : Int) == 0) = false := beq_no (by omega)
  obtain ⟨bN, hbN⟩ : ∃ bN, bN = w.heap.size := ⟨_, rfl⟩
  have HBN := Lib.hid hbN
  clear hcells hs hn hbN hv h0 ht
  go_enter Tryz.func7, Tryz.ntmps7
  go_wp2_with fail
  rw [← HBN.out]
  obtain ⟨W0, hW0⟩ : ∃ W0, W0 = w.alloc (.cells #[.pointer none, .slice none 0 0] 56) := ⟨_, rfl⟩
  have HBu0 : Hid (Lib.IsBuilderF 56 5 bN bN (Lib.byteCells []) W0) := by unfold Hid; rw [hW0, HBN.out]; exact builder_new w
  have HB0 : Hid (Below w.heap.size w W0) := by rw [hW0]; exact (Below.refl _ _).alloc (Nat.le_refl _) _
  have hz0 : bN < W0.heap.size := by rw [hW0, HBN.out]; simp
  rw [← hW0]
  clear hW0
  go_loopg [11] n (fun g v8 wr => ∃ (i : Nat) (acc : List UInt8), g = n - i ∧ i ≤ n ∧ v8 = .int .i64 (i : Int) ∧ acc.length ≤ i * 10000000 ∧ Hid (acc = (l.take i).flatMap adrW) ∧ Hid (Lib.IsBuilderF 56 5 bN bN (Lib.byteCells acc) wr) ∧ Hid (Below w.heap.size w wr) ∧ bN < wr.heap.size)
  case atStart => exact ⟨0, [], by omega, by omega, rfl, by simp, rfl, HBu0.out, HB0.out, hz0⟩
  case round =>
    obtain ⟨i, acc, rfl, hi, rfl, hal, HA, HBu, HB, hzr⟩ := hrel
    have hbw : w.heap.size ≤ bN := Nat.le_of_eq HBN.out.symm
    by_cases hlt : i < n
    · have hil : i < l.length := by rw [← HN.out]; exact hlt
      obtain ⟨g, off, rfl, hg, z0, z1, z2, z3⟩ := HC.out i hil
      obtain ⟨hs1, hs2, hs3⟩ := HSm.out l[i] (List.getElem_mem hil)
      have hil2 := adrW_size l[i] 1048576 (by decide) hs1 hs2 hs3
      have hT := List.take_succ_eq_append_getElem (l := l) (i := i) hil
      obtain ⟨a, ha⟩ : ∃ a, a = l[i] := ⟨_, rfl⟩
      rw [← ha] at z0 z1 z2 z3 hT hs1 hs2 hs3 hil2
      obtain ⟨K, nm, lo, ho⟩ := a
      simp only at z0 z1 z2 z3 hs1 hs2 hs3 hil2
      have c0 := (HB.out.cell (p := ⟨g, off + i * 4, none⟩) hg).trans z0
      have c1 := (HB.out.cell (p := ⟨g, off + i * 4 + 1, none⟩) hg).trans z1
      have c2 := (HB.out.cell (p := ⟨g, off + i * 4 + 2, none⟩) hg).trans z2
      have c3 := (HB.out.cell (p := ⟨g, off + i * 4 + 3, none⟩) hg).trans z3
      obtain ⟨N, hN⟩ : ∃ N : ByteArray, N = ⟨nm.toArray⟩ := ⟨_, rfl⟩
      obtain ⟨L, hL⟩ : ∃ L : ByteArray, L = ⟨lo.toArray⟩ := ⟨_, rfl⟩
      obtain ⟨H, hH⟩ : ∃ H : ByteArray, H = ⟨ho.toArray⟩ := ⟨_, rfl⟩
      have lN : N.data.toList = nm := by rw [hN]
      have lL : L.data.toList = lo := by rw [hL]
      have lH : H.data.toList = ho := by rw [hH]
      have HAd := Lib.hid (fun W h => eaddr_any K N L H W (by rw [← len_toList, lN]; omega) (by rw [← len_toList, lL]; omega) (by rw [← len_toList, lH]; omega) h)
      rw [lN, lL, lH] at HAd
      obtain ⟨T, hTt⟩ : ∃ T : ByteArray, T = ⟨(adrW ⟨K, nm, lo, ho⟩).toArray⟩ := ⟨_, rfl⟩
      rw [← hTt] at HAd
      have HTl : Hid (T.data.toList = adrW ⟨K, nm, lo, ho⟩) := by unfold Hid; rw [hTt]
      have hTs : T.size ≤ 9000000 := by rw [← len_toList, HTl.out]; omega
      rw [← hN] at c1
      rw [← hL] at c2
      rw [← hH] at c3
      have HST : Hid ((l.take (i + 1)).flatMap adrW = (l.take i).flatMap adrW ++ adrW ⟨K, nm, lo, ho⟩) := by
        unfold Hid
        rw [hT, List.flatMap_append]
        simp
      have hgw : g < wr.heap.size := Nat.lt_of_lt_of_le hg HB.out.size
      clear z0 z1 z2 z3 hT hN hL hH hs1 hs2 hs3 hil2 hTt lN lL lH ha
      go_wp2_with fail
      obtain ⟨W1, hW1⟩ : ∃ W1, W1 = wr.alloc (.cells #[.int .i64 K, .string N, .string L, .string H] 26) := ⟨_, rfl⟩
      rw [← hW1]
      have HB1 : Hid (Below w.heap.size w W1) := by rw [hW1]; exact HB.out.alloc HB.out.size _
      have HBu1 : Hid (Lib.IsBuilderF 56 5 bN bN (Lib.byteCells acc) W1) := by rw [hW1]; exact HBu.out.alloc _
      have hz1 : bN < W1.heap.size := by rw [hW1]; simp; omega
      clear hW1
      with_reducible refine (HAd.out _ (HTw.out.below HB1.out)).mono ?_
      rintro e w3 ⟨rfl, hb3⟩
      have HB3 : Hid (Below w.heap.size w w3) := HB1.out.trans (hb3.mono HB1.out.size)
      have HBu3 := Lib.hid (builder_below HBu1.out hb3)
      have hz3 : bN < w3.heap.size := by have := hb3.size; omega
      clear hb3
      go_wp2_with fail
      with_reducible refine (Tryz.Builder_WriteString_k bN bN (Lib.byteCells acc) T w3 HBu3.out ?h2 ?h3).mono ?_
      case h2 => rw [Lib.byteCells_length]; omega
      case h3 => omega
      rintro e w4 ⟨rfl, hA4, hb4, _⟩
      have HB4 : Hid (Below w.heap.size w w4) := HB3.out.trans (hb4.mono hbw)
      have HBu4 : Hid (Lib.IsBuilderF 56 5 bN bN (Lib.byteCells (acc ++ adrW ⟨K, nm, lo, ho⟩)) w4) := by
        right
        rw [Lib.byteCells_append, ← HTl.out]
        exact hA4
      have hz4 : bN < w4.heap.size := by have := hb4.size; omega
      have HA4 : Hid (acc ++ adrW ⟨K, nm, lo, ho⟩ = (l.take (i + 1)).flatMap adrW) := by
        unfold Hid
        rw [HST.out, ← HA.out]
      have hal4 : (acc ++ adrW ⟨K, nm, lo, ho⟩).length ≤ (i + 1) * 10000000 := by
        rw [List.length_append, ← HTl.out, len_toList]
        omega
      clear hA4 hb4
      go_wp2_with fail
      go_roundg (n - (i + 1))
      case measure => omega
      case rel => exact ⟨i + 1, _, rfl, by omega, by go_num, hal4, HA4.out, HBu4.out, HB4.out, hz4⟩
    · have hA' : acc = l.flatMap adrW := by have := HA.out; rwa [List.take_of_length_le (by rw [← HN.out]; omega)] at this
      have HA' := Lib.hid hA'
      clear hA'
      have hal2 : acc.length ≤ 10000000000 := by
        have : i * 10000000 ≤ 1000 * 10000000 := Nat.mul_le_mul_right _ (by omega)
        omega
      obtain ⟨T, hT⟩ : ∃ T : ByteArray, T = ⟨acc.toArray⟩ := ⟨_, rfl⟩
      have hTs : T.size ≤ 10000000000 := by rw [hT]; simpa [ByteArray.size] using hal2
      have HStr := Lib.hid (Tryz.Builder_String_any_k bN bN acc wr HBu.out (by omega))
      rw [← hT] at HStr
      have HV := Lib.hid (list_bytes H0.out (T := T) (by rw [hT, HA'.out]))
      clear hT
      go_wp2_with fail
      with_reducible refine HStr.out.mono ?_
      rintro e w4 ⟨rfl, _, hb4, _⟩
      have HB4 : Hid (Below w.heap.size w w4) := HB.out.trans (hb4.mono hbw)
      clear hb4
      go_wp2_with fail
      go_ret
      exact ⟨ret_str HV.out, HB4.out⟩
end Go.Proofs.YtbphnlaoiikebaaGreatDoor

/- Layer 19: what stands at a place of an array of six lists, of six or four texts. -/
namespace Go.Proofs.YtbphnlaoiikebaaGreatDoor
open Go Go.RowKit

theorem Tryz.infoSlA : (Tryz.prog.info? 22).map (fun i => (i.zero, i.size, i.bytes)) = some (some (.slice none 0 0), 1, 24) := by kernel_rfl
theorem index_six (v0 v1 v2 v3 v4 v5 : Value) : (∀ W, (Instr.index 31 (.agg #[v0, v1, v2, v3, v4, v5]) (.int .i64 0)).run Tryz.prog W = .ok v0 W) ∧ (∀ W, (Instr.index 31 (.agg #[v0, v1, v2, v3, v4, v5]) (.int .i64 1)).run Tryz.prog W = .ok v1 W) ∧ (∀ W, (Instr.index 31 (.agg #[v0, v1, v2, v3, v4, v5]) (.int .i64 2)).run Tryz.prog W = .ok v2 W) ∧ (∀ W, (Instr.index 31 (.agg #[v0, v1, v2, v3, v4, v5]) (.int .i64 3)).run Tryz.prog W = .ok v3 W) ∧ (∀ W, (Instr.index 31 (.agg #[v0, v1, v2, v3, v4, v5]) (.int .i64 4)).run Tryz.prog W = .ok v4 W) ∧ (∀ W, (Instr.index 31 (.agg #[v0, v1, v2, v3, v4, v5]) (.int .i64 5)).run Tryz.prog W = .ok v5 W) := by
  obtain ⟨i0, hi, hz⟩ := Option.map_eq_some_iff.1 Tryz.infoSlA
  simp only [Prod.mk.injEq] at hz
  obtain ⟨hz0, hz1, hz2⟩ := hz
  refine ⟨?_, ?_, ?_, ?_, ?_, ?_⟩ <;> intro W <;> simp [Instr.index, run_underlying Tryz.underlying31, run_underlying Tryz.underlying22, asIntOf, sizeOf, typeInfo, part, isAgg, hi, hz1, go_sem]
theorem index_tx6 (v0 v1 v2 v3 v4 v5 : Value) : (∀ W, (Instr.index 109 (.agg #[v0, v1, v2, v3, v4, v5]) (.int .i64 0)).run Tryz.prog W = .ok v0 W) ∧ (∀ W, (Instr.index 109 (.agg #[v0, v1, v2, v3, v4, v5]) (.int .i64 1)).run Tryz.prog W = .ok v1 W) ∧ (∀ W, (Instr.index 109 (.agg #[v0, v1, v2, v3, v4, v5]) (.int .i64 2)).run Tryz.prog W = .ok v2 W) ∧ (∀ W, (Instr.index 109 (.agg #[v0, v1, v2, v3, v4, v5]) (.int .i64 3)).run Tryz.prog W = .ok v3 W) ∧ (∀ W, (Instr.index 109 (.agg #[v0, v1, v2, v3, v4, v5]) (.int .i64 4)).run Tryz.prog W = .ok v4 W) ∧ (∀ W, (Instr.index 109 (.agg #[v0, v1, v2, v3, v4, v5]) (.int .i64 5)).run Tryz.prog W = .ok v5 W) := by
  obtain ⟨i0, hi, hz⟩ := Option.map_eq_some_iff.1 Tryz.infoWs
  simp only [Prod.mk.injEq] at hz
  obtain ⟨hz0, hz1, hz2⟩ := hz
  refine ⟨?_, ?_, ?_, ?_, ?_, ?_⟩ <;> intro W <;> simp [Instr.index, run_underlying Tryz.underlying109, run_underlying Tryz.underlying9, asIntOf, sizeOf, typeInfo, part, isAgg, hi, hz1, go_sem]
theorem index_tx4 (v0 v1 v2 v3 : Value) : (∀ W, (Instr.index 76 (.agg #[v0, v1, v2, v3]) (.int .i64 0)).run Tryz.prog W = .ok v0 W) ∧ (∀ W, (Instr.index 76 (.agg #[v0, v1, v2, v3]) (.int .i64 1)).run Tryz.prog W = .ok v1 W) ∧ (∀ W, (Instr.index 76 (.agg #[v0, v1, v2, v3]) (.int .i64 2)).run Tryz.prog W = .ok v2 W) ∧ (∀ W, (Instr.index 76 (.agg #[v0, v1, v2, v3]) (.int .i64 3)).run Tryz.prog W = .ok v3 W) := by
  obtain ⟨i0, hi, hz⟩ := Option.map_eq_some_iff.1 Tryz.infoWs
  simp only [Prod.mk.injEq] at hz
  obtain ⟨hz0, hz1, hz2⟩ := hz
  refine ⟨?_, ?_, ?_, ?_⟩ <;> intro W <;> simp [Instr.index, run_underlying Tryz.underlying76, run_underlying Tryz.underlying9, asIntOf, sizeOf, typeInfo, part, isAgg, hi, hz1, go_sem]
end Go.Proofs.YtbphnlaoiikebaaGreatDoor

/- A law of my own, of no function (after XQt): the same, where the first operation is waited for behind the head alone; it reads nothing, and is taken first. -/
namespace Go.Proofs.YtbphnlaoiikebaaGreatDoor
open Go Go.RowKit
section
variable {P : Program} {ops : Array Oper} {md : Region.Mode} {C : World → Prop}
def sinkM (md : Region.Mode) (ops : Array Oper) (n : Nat) : Bool :=
  (List.range n).all fun i => decide (i < 1) || (List.range (n + 1)).any fun j => decide (i < j) && Region.waitsFor md ops j i
theorem tail_waitsM {n : Nat} {listed : Array Bool} (hs : sinkM md ops n = true) (hc : Region.chainB md ops n = true) (hn : n < ops.size) (inv : HeadInv md ops n listed) :
    ∀ (d i : Nat), n - i = d → 1 ≤ i → i < n → listed.getD i true = false → ∀ t, n ≤ t → t ∉ Region.ready md ops listed := by
  intro d
  induction d using Nat.strongRecOn with
  | _ d ih =>
    intro i hd h1i hi hun t ht hr
    obtain ⟨_, ot, hot, hall⟩ := mem_ready.1 hr
    have htlt : t < ops.size := (Array.getElem?_eq_some_iff.1 hot).1
    by_cases htn : t = n
    · subst htn
      have h1 := List.all_eq_true.1 hs i (List.mem_range.2 hi)
      simp only [Bool.or_eq_true, decide_eq_true_eq] at h1
      replace h1 := h1.resolve_left (by omega)
      obtain ⟨j, hj, hj2⟩ := List.any_eq_true.1 h1
      simp only [Bool.and_eq_true, decide_eq_true_eq] at hj2
      obtain ⟨oj, hoj, e, he, hb, hon⟩ := Region.waitsFor_spec hj2.2
      have hjle : j ≤ t := by have := List.mem_range.1 hj; omega
      by_cases hjt : j = t
      · subst hjt
        have : oj = ot := Option.some.inj (hoj.symm.trans hot)
        subst this
        have h2 := hall e he hb
        rw [hon, getD_both hun] at h2
        cases h2
      · cases hl : listed.getD j false with
        | true =>
          have h2 := inv.closed j oj hoj hl e he hb
          rw [hon, getD_both hun] at h2
          cases h2
        | false =>
          have hjs : j < listed.size := by rw [inv.size]; omega
          exact ih (t - j) (by omega) j rfl (by omega) (by omega) (getD_in hjs hl) t (Nat.le_refl _) hr
    · have h1 := List.all_eq_true.1 hc t (List.mem_range.2 htlt)
      simp only [Bool.or_eq_true, decide_eq_true_eq] at h1
      rcases h1 with h1 | h1
      · omega
      · obtain ⟨o', ho', e, he, hb, hon⟩ := Region.waitsFor_spec h1
        have : o' = ot := Option.some.inj (ho'.symm.trans hot)
        subst this
        have h2 := hall e he hb
        rw [hon, getD_both (inv.tail (t - 1) (by omega) (by omega))] at h2
        cases h2
theorem low_ge {listed : Array Bool} {i : Nat} (h0 : listed.getD 0 false = true) (hun : listed.getD i true = false) : 1 ≤ i := by
  rcases Nat.eq_zero_or_pos i with rfl | h
  · rw [getD_both hun] at h0
    cases h0
  · exact h
theorem wpAnyQL_firstM {n i : Nat} {oi : Oper} {v : Value} {L : Array Bool → Act → Prop} (hi : ops[i]? = some oi) (hsel : ∀ (j : Nat) (o : Oper) cs b, ops[j]? = some o → o.op ≠ .select cs b)
    (hs : sinkM md ops n = true) (hc : Region.chainB md ops n = true) (hn : n < ops.size) (hin : i < n)
    (hdone : ∀ listed a, L listed a → ∀ j ∈ Region.ready md ops listed, n ≤ j) :
    ∀ (f : Nat) (listed : Array Bool) (a : Act), HeadInv md ops n listed → listed.getD 0 false = true →
      (∀ j oj, ops[j]? = some oj → j ≠ i → listed.getD j true = false → (∀ e ∈ oj.after, Region.binds md e = true → e.on ≠ i) → oi.apart ops oj = true) →
      i ∈ Region.ready md ops listed → YieldsIn P ops C oi v a →
      wpAnyQL P md ops C n L f (listed.setIfInBounds i true) (a.put oi.dst v) → wpAnyQL P md ops C n L (f + 1) listed a := by
  intro f
  induction f with
  | zero =>
    intro listed a inv h0 _ hr hy H
    have hun := (mem_ready.1 hr).1
    refine ⟨fun h => (by rw [h] at hr; cases hr), fun j hj => ?_⟩
    have hjn : j < n := by
      rcases Nat.lt_or_ge j n with h | h
      · exact h
      · exact absurd hj (tail_waitsM hs hc hn inv _ i rfl (low_ge h0 hun) hin hun j h)
    refine ⟨hjn, ?_⟩
    by_cases hji : j = i
    · subst hji; exact hy.qOp hi H
    · have := hdone _ _ H j (ready_mono hj hji)
      omega
  | succ f ih =>
    intro listed a inv h0 hfree hr hy H
    have hun := (mem_ready.1 hr).1
    refine ⟨fun h => (by rw [h] at hr; cases hr), fun j hj => ?_⟩
    have hjn : j < n := by
      rcases Nat.lt_or_ge j n with h | h
      · exact h
      · exact absurd hj (tail_waitsM hs hc hn inv _ i rfl (low_ge h0 hun) hin hun j h)
    refine ⟨hjn, ?_⟩
    by_cases hji : j = i
    · subst hji; exact hy.qOp hi H
    · have h1 := (H.2 j (ready_mono hj hji)).2
      obtain ⟨hjun, oj, hoj, hall⟩ := mem_ready.1 hj
      have hnot : ∀ e ∈ oj.after, Region.binds md e = true → e.on ≠ i := fun e he hb heq => by
        have h1 := hall e he hb
        rw [heq, getD_both hun] at h1
        cases h1
      have h2 := qOp_put hoj (hfree j oj hoj hji hjun hnot) (fun cs b => hsel i oi cs b hi) (fun cs b => hsel j oj cs b hoj) hy h1
      have hfree' : ∀ k ok, ops[k]? = some ok → k ≠ i → (listed.setIfInBounds j true).getD k true = false →
          (∀ e ∈ ok.after, Region.binds md e = true → e.on ≠ i) → oi.apart ops ok = true := fun k ok hk hki hun hno => by
        refine hfree k ok hk hki ?_ hno
        by_cases hjk : j = k
        · subst hjk; exact hjun
        · rw [getD_set_ne true hjk] at hun; exact hun
      refine qOp_mono (fun a' h3 => ih (listed.setIfInBounds j true) a' (inv.set hj hjn) (getD_set_true h0) hfree' (ready_mono hr (Ne.symm hji)) h3.1 ?_) h2
      rw [Array.setIfInBounds_comm _ _ hji]
      exact h3.2
theorem wpAnyQL_lexM {n g : Nat} {Lq : Act → Prop} (hsel : Region.noSelect ops = true) (hs : sinkM md ops n = true) (hc : Region.chainB md ops n = true) (hn : n < ops.size) :
    ∀ (l : List Oper) (k : Nat) (listed : Array Bool) (a : Act), (∀ j, j < l.length → l[j]? = ops[k + j]?) → k + l.length = n → HeadInv md ops n listed → listed.getD 0 false = true →
    Region.lexHead md ops g l.length k listed = true → wpQuiet P ops C Lq l a →
    wpAnyQL P md ops C n (fun listed' a' => Region.seqB md ops g n listed' = true ∧ Lq a') l.length listed a
  | [], k, listed, a, _, hk, _, _, hB, h => by
    have : k = n := by simpa using hk
    subst this
    exact ⟨by simpa [Region.lexHead] using hB, h⟩
  | o :: l, k, listed, a, hl, hk, inv, h00, hB, h => by
    have h0 : ops[k]? = some o := by simpa using (hl 0 (by simp)).symm
    simp only [List.length_cons, Region.lexHead, Bool.and_eq_true] at hB
    obtain ⟨⟨hr, hf⟩, hB'⟩ := hB
    have hkn : k < n := by simp only [List.length_cons] at hk; omega
    have hr' : k ∈ Region.ready md ops listed := by simpa using hr
    have hst : qOp P ops C k (wpQuiet P ops C Lq l) a := by unfold qOp; simp only [h0]; exact h
    obtain ⟨v, hy, hK⟩ := yieldsIn_of_qOp h0 hst
    exact wpAnyQL_firstM h0 (Region.noSelect_spec hsel) hs hc hn hkn (fun listed' a' hL => seqB_ready hL.1) l.length listed a inv h00 (Region.free_spec h0 hf) hr' hy
      (wpAnyQL_lexM hsel hs hc hn l (k + 1) _ _ (fun j hj => by have := hl (j + 1) (by simp; omega); simpa [Nat.add_assoc, Nat.add_comm 1 j] using this) (by simp only [List.length_cons] at hk; omega) (inv.set hr' hkn) (getD_set_true h00) hB' hK)
def lexTailM (md : Region.Mode) (ops : Array Oper) (n : Nat) : Bool :=
  Region.noSelect ops && decide (n < ops.size) && decide (0 < n) && sinkM md ops n && Region.chainB md ops n && ((ops[0]?.map fun o => o.after.isEmpty) == some true) && Region.lexHead md ops (ops.size - n) (n - 1) 1 ((Array.replicate ops.size false).setIfInBounds 0 true)
theorem wp_any_quietM {Q : Exit → Act → World → Prop} {a : Act} {w : World} {l : List Oper} (n : Nat) (hB : lexTailM .any l.toArray n = true) (hC : C w)
    (h : wpQuiet P l.toArray C (fun a' => ∀ w', C w' → wpList P l.toArray Q (l.drop n) a' w') ((l.take n).drop 1) a) : wpAny P .any l.toArray Q (l.length - 1) ((Array.replicate l.toArray.size false).setIfInBounds 0 true) a w := by
  simp only [lexTailM, Bool.and_eq_true, decide_eq_true_eq, beq_iff_eq] at hB
  obtain ⟨⟨⟨⟨⟨⟨hsel, hn⟩, hn0⟩, hs⟩, hc⟩, hz⟩, hlex⟩ := hB
  have hn' : n < l.length := by simpa using hn
  have htl : ((l.take n).drop 1).length = n - 1 := by simp; omega
  have hdl : (l.drop n).length = l.toArray.size - n := by simp
  have hsz : 0 < l.toArray.size := by omega
  have inv0 : HeadInv .any l.toArray n ((Array.replicate l.toArray.size false).setIfInBounds 0 true) := by
    refine ⟨by simp, ?_, ?_⟩
    · intro j oj hj hl e he _
      by_cases h0 : 0 = j
      · subst h0
        rw [hj] at hz
        have hz' : oj.after.isEmpty = true := Option.some.inj hz
        rw [Array.isEmpty_iff] at hz'
        rw [hz'] at he
        simp at he
      · rw [getD_set_ne false h0, getD_replicate_false] at hl
        cases hl
    · intro t ht ht'
      rw [getD_set_ne true (by omega)]
      exact getD_in (by simpa using ht') (getD_replicate_false _ _)
  have h00 : ((Array.replicate l.toArray.size false).setIfInBounds 0 true).getD 0 false = true := by
    have : 0 < ((Array.replicate l.toArray.size false).setIfInBounds 0 true).size := by simpa using hsz
    rw [Array.getD, dif_pos this]
    simp
  have H := wpAnyQL_lexM (md := .any) (g := l.toArray.size - n) hsel hs hc hn ((l.take n).drop 1) 1 _ a (fun j hj => by
    have hj' : 1 + j < n := by rw [htl] at hj; omega
    rw [List.getElem?_drop, List.getElem?_take, if_pos hj']
    simp) (by rw [htl]; omega) inv0 h00 (by rw [htl]; exact hlex) h
  have := wpAny_of_headQ (C := C) (Q' := Q) (g := l.toArray.size - n) (fun listed a' w' hw' hL => by
    have := wpAny_of_seq (md := .any) (Q' := Q) (l.drop n) n listed a' w' (fun j => by simp [List.getElem?_drop]) (by rw [hdl]; exact hL.1) (hL.2 w' hw')
    rwa [hdl] at this) _ _ _ _ hC H
  rw [htl, show n - 1 + (l.toArray.size - n) = l.length - 1 by simp; omega] at this
  exact this
theorem wp_region_belowM {id : Nat} {Q : Exit → Act → World → Prop} {a : Act} {w : World} {o : Oper} {l : List Oper} (n : Nat) (hm : P.follows .mixedOrders = true) (hB : lexTailM .any (o :: l).toArray n = true)
    (hf : Region.free .any (o :: l).toArray (Array.replicate (o :: l).toArray.size false) 0 = true) (hr : (Region.ready .any (o :: l).toArray (Array.replicate (o :: l).toArray.size false)).contains 0 = true)
    (hQ : ∀ v c a w, Q (.panic c) (a.put o.dst v) w → Q (.panic c) a w) (hw : Region.wanted o (yielded (o :: l).toArray a.tmps) = true)
    (h : ∃ v, (∀ w, (execOp a.eval o).run P w = .ok (.value v) w) ∧ wpQuiet P (o :: l).toArray (fun w' => ∃ z : BW w, w' = z.v) (fun a' => ∀ w', (∃ z : BW w, w' = z.v) → wpList P (o :: l).toArray Q ((o :: l).drop n) a' w') (((o :: l).take n).drop 1) (a.put o.dst v)) : (Code.region id (o :: l).toArray true).wp P Q a w := by
  obtain ⟨v, h1, h2⟩ := h
  have hs : Region.noSelect (o :: l).toArray = true := by
    simp only [lexTailM, Bool.and_eq_true] at hB
    exact hB.1.1.1.1.1.1
  refine wp_region_any hm ?_
  show wpAny P .any (o :: l).toArray Q (((o :: l).length - 1) + 1) _ a w.drew
  exact wpAny_takeE (i := 0) (oi := o) rfl hs hf hr hQ hw ⟨v, h1, wp_any_quietM (C := fun w' => ∃ z : BW w, w' = z.v) n hB ⟨⟨w.drew, (Below.refl _ _).drew⟩, rfl⟩ h2⟩
end
end Go.Proofs.YtbphnlaoiikebaaGreatDoor
