/- Contracts of package addr: Text. -/
import Derived.Test.YtjlcphofkepajaaGreatAdY
namespace Go.Proofs.YtjlcphofkepajaaGreat
open Go Go.RowKit

/-- A row of addresses, of whatever kinds: what its cells hold. -/
def rowAdx (W : World) (v : Value) (l : List Adx) : Prop :=
  ∃ ao cap, v = .slice ao l.length cap ∧ l.length ≤ cap ∧ cap ≤ maxLen ∧ (l = [] ∨ ∃ g off, ao = some ⟨g, off, none⟩ ∧ g < W.heap.size ∧
    ∀ i, (h : i < l.length) → W.cell? ⟨g, off + i * 4, none⟩ = some (.int .i64 l[i].kind) ∧ W.cell? ⟨g, off + i * 4 + 1, none⟩ = some (.string ⟨l[i].name.toArray⟩) ∧ W.cell? ⟨g, off + i * 4 + 2, none⟩ = some (.string ⟨l[i].loc.toArray⟩) ∧ W.cell? ⟨g, off + i * 4 + 3, none⟩ = some (.string ⟨l[i].host.toArray⟩))
theorem rowAdx.below {W W' : World} {v : Value} {l : List Adx} (h : rowAdx W v l) (hb : Below W.heap.size W W') : rowAdx W' v l := by
  obtain ⟨ao, cap, e, h1, h2, h3⟩ := h
  refine ⟨ao, cap, e, h1, h2, h3.imp id ?_⟩
  rintro ⟨g, off, e, hg, hc⟩
  refine ⟨g, off, e, Nat.lt_of_lt_of_le hg hb.size, fun i hi => ?_⟩
  obtain ⟨c0, c1, c2, c3⟩ := hc i hi
  exact ⟨(hb.cell (p := ⟨g, off + i * 4, none⟩) hg).trans c0, (hb.cell (p := ⟨g, off + i * 4 + 1, none⟩) hg).trans c1, (hb.cell (p := ⟨g, off + i * 4 + 2, none⟩) hg).trans c2, (hb.cell (p := ⟨g, off + i * 4 + 3, none⟩) hg).trans c3⟩
theorem rowAdx.at {W : World} {v : Value} {l : List Adx} (h : rowAdx W v l) : ∃ ao cap, v = .slice ao l.length cap ∧ l.length ≤ cap ∧ cap ≤ maxLen ∧
    ∀ i, (h : i < l.length) → ∃ g off, ao = some ⟨g, off, none⟩ ∧ g < W.heap.size ∧ W.cell? ⟨g, off + i * 4, none⟩ = some (.int .i64 l[i].kind) ∧ W.cell? ⟨g, off + i * 4 + 1, none⟩ = some (.string ⟨l[i].name.toArray⟩) ∧ W.cell? ⟨g, off + i * 4 + 2, none⟩ = some (.string ⟨l[i].loc.toArray⟩) ∧ W.cell? ⟨g, off + i * 4 + 3, none⟩ = some (.string ⟨l[i].host.toArray⟩) := by
  obtain ⟨ao, cap, e, h1, h2, h3⟩ := h
  refine ⟨ao, cap, e, h1, h2, fun i hi => ?_⟩
  rcases h3 with rfl | ⟨g, off, e, hg, hc⟩
  · simp at hi
  · exact ⟨g, off, e, hg, hc i hi⟩

set_option maxRecDepth 100000 in
set_option maxHeartbeats 2000000 in
theorem textOf_any10 (k : Int) (nm lo ho : List UInt8) (w : World) (hN : nm.length ≤ 100000000) (hL : lo.length ≤ 100000000) (hH : ho.length ≤ 100000000) :
    Calls Tryz.prog 10 #[.agg #[.int .i64 k, .string ⟨nm.toArray⟩, .string ⟨lo.toArray⟩, .string ⟨ho.toArray⟩]] w fun e w' => e = .returned (.string ⟨(itemX ⟨k, nm, lo, ho⟩).toArray⟩) ∧ Below w.heap.size w w' := by
  have HBx := Lib.hid (fun W => boxText_any k ⟨nm.toArray⟩ ⟨lo.toArray⟩ ⟨ho.toArray⟩ W (by simpa [ByteArray.size] using hN) (by simpa [ByteArray.size] using hL) (by simpa [ByteArray.size] using hH))
  have HQ := Lib.hid (fun W => quoted_any ⟨nm.toArray⟩ W (by show nm.toArray.size ≤ _; simp; omega))
  obtain ⟨N, hN'⟩ : ∃ N : ByteArray, N = ⟨nm.toArray⟩ := ⟨_, rfl⟩
  obtain ⟨L, hL'⟩ : ∃ L : ByteArray, L = ⟨lo.toArray⟩ := ⟨_, rfl⟩
  obtain ⟨H, hH'⟩ : ∃ H : ByteArray, H = ⟨ho.toArray⟩ := ⟨_, rfl⟩
  rw [← hN', ← hL', ← hH'] at HBx
  rw [← hN'] at HQ
  rw [← hN', ← hL', ← hH']
  have HNl : Hid (N.data.toList = nm) := by unfold Hid; rw [hN']
  have HLl : Hid (L.data.toList = lo) := by unfold Hid; rw [hL']
  have HHl : Hid (H.data.toList = ho) := by unfold Hid; rw [hH']
  have HB0 : Hid (Below w.heap.size w (w.alloc (.cells #[.int .i64 k, .string N, .string L, .string H] 26))) := (Below.refl _ _).alloc (Nat.le_refl _) _
  clear hN' hL' hH'
  by_cases k0 : k = 0
  · subst k0
    have HI : Hid (itemX ⟨0, nm, lo, ho⟩ = boxL nm lo ho) := if_pos rfl
    go_enter Tryz.func10, Tryz.ntmps10
    go_wp2_with fail
    with_reducible refine (HBx.out _).mono ?_
    rintro e w1 ⟨rfl, hb1⟩
    have HB1 := Lib.hid (HB0.out.trans (hb1.mono HB0.out.size))
    clear hb1
    go_wp2_with fail
    go_ret
    refine ⟨?_, HB1.out⟩
    rw [HI.out, HNl.out, HLl.out, HHl.out]
    rfl
  · have b0 : (k == 0) = false := beq_no k0
    by_cases k1 : k = 1
    · subst k1
      have HI : Hid (itemX ⟨1, nm, lo, ho⟩ = quoteL nm ++ [58]) := rfl
      obtain ⟨Q, hQ⟩ : ∃ Q : ByteArray, Q = ⟨(quoteL N.data.toList).toArray⟩ := ⟨_, rfl⟩
      have sQ : Q.size ≤ 300000000 := by
        have h := quoteL_len N.data.toList
        rw [HNl.out] at h
        rw [hQ, HNl.out]
        show (quoteL nm).length ≤ _
        omega
      rw [← hQ] at HQ
      have eQ : Hid (Q.data.toList = quoteL nm) := by unfold Hid; rw [hQ, HNl.out]
      clear hQ k0
      go_enter Tryz.func10, Tryz.ntmps10
      go_wp2_with fail
      with_reducible refine (HQ.out _).mono ?_
      rintro e w1 ⟨rfl, hb1⟩
      have HB1 := Lib.hid (HB0.out.trans (hb1.mono HB0.out.size))
      clear hb1
      go_wp2_with fail
      go_ret
      refine ⟨ret_str (bytes_eq ?_), HB1.out⟩
      rw [cat_toList, eQ.out, HI.out]
    · have b1 : (k == 1) = false := beq_no k1
      by_cases k2 : k = 2
      · subst k2
        have HI : Hid (itemX ⟨2, nm, lo, ho⟩ = [59]) := rfl
        clear k0 k1
        go_enter Tryz.func10, Tryz.ntmps10
        go_wp2_with fail
        go_ret
        exact ⟨by rw [HI.out]; rfl, HB0.out⟩
      · have b2 : (k == 2) = false := beq_no k2
        have HI : Hid (itemX ⟨k, nm, lo, ho⟩ = []) := by unfold Hid itemX; rw [if_neg k0, if_neg k1, if_neg k2]
        clear k0 k1 k2
        go_enter Tryz.func10, Tryz.ntmps10
        go_wp2_with fail
        go_ret
        exact ⟨by rw [HI.out]; rfl, HB0.out⟩

theorem isB_others {b : Nat} {w w' : World} {k : Nat} {cs : Array Value} (h : w.heap[k]? = some (.cells cs 26 (0, 0))) (hk : k ≠ b) (ho : Lib.OthersKept 5 (some b) w w') : w'.heap[k]? = some (.cells cs 26 (0, 0)) :=
  ho k _ h (fun e => hk (Option.some.inj e)) (fun c fz e => by cases e)
def small (l : List Adx) (M : Nat) : Prop := ∀ a ∈ l, a.name.length ≤ M ∧ a.loc.length ≤ M ∧ a.host.length ≤ M
set_option maxRecDepth 100000 in
set_option maxHeartbeats 8000000 in
theorem text_any10 (v : Value) (l : List Adx) (w : World) (hv : rowAdx w v l) (hs : small l 10000000) (hll : l.length ≤ 1000) :
    Calls Tryz.prog 6 #[v] w fun e w' => e = .returned (.string ⟨(textA none l).toArray⟩) ∧ Below w.heap.size w w' := by
  obtain ⟨ao, cap, rfl, hc, hm, hcells⟩ := hv.at
  unfold maxLen at hm
  have HC := Lib.hid hcells
  have HSm := Lib.hid hs
  obtain ⟨n, hn⟩ : ∃ n, n = l.length := ⟨_, rfl⟩
  rw [← hn] at hc hll ⊢
  have HN := Lib.hid hn
  obtain ⟨bN, hbN⟩ : ∃ bN, bN = w.heap.size := ⟨_, rfl⟩
  have HBN := Lib.hid hbN
  clear hcells hs hn hbN hv
  go_enter Tryz.func6, Tryz.ntmps6
  go_wp2_with fail
  rw [← HBN.out]
  obtain ⟨W0, hW0⟩ : ∃ W0, W0 = w.alloc (.cells #[.pointer none, .slice none 0 0] 38) := ⟨_, rfl⟩
  have HBu0 : Hid (Lib.IsBuilderF 38 5 bN bN (Lib.byteCells []) W0) := by unfold Hid; rw [hW0, HBN.out]; exact builder_new w
  have HB0 : Hid (Below w.heap.size w W0) := by rw [hW0]; exact (Below.refl _ _).alloc (Nat.le_refl _) _
  have hz0 : bN < W0.heap.size := by rw [hW0, HBN.out]; simp
  rw [← hW0]
  clear hW0
  go_loopg [8] n (fun g v8 wr => ∃ (i : Nat) (acc : List UInt8), g = n - i ∧ i ≤ n ∧ v8 = .int .i64 (i : Int) ∧ acc.length ≤ i * 100000000 ∧ Hid (acc = textA none (l.take i)) ∧ Hid (Lib.IsBuilderF 38 5 bN bN (Lib.byteCells acc) wr) ∧ Hid (Below w.heap.size w wr) ∧ bN < wr.heap.size)
  case atStart => exact ⟨0, [], by omega, by omega, rfl, by simp, rfl, HBu0.out, HB0.out, hz0⟩
  case round =>
    obtain ⟨i, acc, rfl, hi, rfl, hal, HA, HBu, HB, hzr⟩ := hrel
    have hbw : w.heap.size ≤ bN := Nat.le_of_eq HBN.out.symm
    by_cases hlt : i < n
    · have hil : i < l.length := by rw [← HN.out]; exact hlt
      obtain ⟨g, off, rfl, hg, z0, z1, z2, z3⟩ := HC.out i hil
      have hstep := textA_step l i hil
      obtain ⟨hs1, hs2, hs3⟩ := HSm.out l[i] (List.getElem_mem hil)
      have hil2 := itemX_len l[i]
      obtain ⟨a, ha⟩ : ∃ a, a = l[i] := ⟨_, rfl⟩
      rw [← ha] at z0 z1 z2 z3 hstep hs1 hs2 hs3 hil2
      obtain ⟨K, nm, lo, ho⟩ := a
      simp only at z0 z1 z2 z3 hs1 hs2 hs3 hil2 hstep
      have c0 := (HB.out.cell (p := ⟨g, off + i * 4, none⟩) hg).trans z0
      have c1 := (HB.out.cell (p := ⟨g, off + i * 4 + 1, none⟩) hg).trans z1
      have c2 := (HB.out.cell (p := ⟨g, off + i * 4 + 2, none⟩) hg).trans z2
      have c3 := (HB.out.cell (p := ⟨g, off + i * 4 + 3, none⟩) hg).trans z3
      have HT := Lib.hid (fun W => textOf_any10 K nm lo ho W (by omega) (by omega) (by omega))
      obtain ⟨T, hT⟩ : ∃ T : ByteArray, T = ⟨(itemX ⟨K, nm, lo, ho⟩).toArray⟩ := ⟨_, rfl⟩
      rw [← hT] at HT
      have HTl : Hid (T.data.toList = itemX ⟨K, nm, lo, ho⟩) := by unfold Hid; rw [hT]
      have hTs : T.size ≤ 90000000 := by rw [← len_toList, HTl.out]; omega
      obtain ⟨N, hN⟩ : ∃ N : ByteArray, N = ⟨nm.toArray⟩ := ⟨_, rfl⟩
      obtain ⟨L, hL⟩ : ∃ L : ByteArray, L = ⟨lo.toArray⟩ := ⟨_, rfl⟩
      obtain ⟨H, hH⟩ : ∃ H : ByteArray, H = ⟨ho.toArray⟩ := ⟨_, rfl⟩
      rw [← hN] at c1
      rw [← hL] at c2
      rw [← hH] at c3
      rw [← hN, ← hL, ← hH] at HT
      have HST := Lib.hid hstep
      have hgw : g < wr.heap.size := Nat.lt_of_lt_of_le hg HB.out.size
      have HBx : Hid (Below wr.heap.size wr (wr.alloc (.cells #[.int .i64 K, .string N, .string L, .string H] 26))) := (Below.refl _ _).alloc (Nat.le_refl _) _
      clear z0 z1 z2 z3 hT hN hL hH hs1 hs2 hs3 hil2 hstep
      have HAa := Lib.hid ha
      clear ha
      by_cases hi0 : i = 0
      · have HSep : Hid (sepL (lastK none (l.take i)) K = []) := by unfold Hid; rw [hi0]; rfl
        have bi1 : ¬ (0 : Int) < (i : Int) := by omega
        have bi2 : decide ((0 : Int) < (i : Int)) = false := decide_eq_false bi1
        have HI0 := Lib.hid hi0
        clear hi0
        go_wp2_with fail
        obtain ⟨W1, hW1⟩ : ∃ W1, W1 = wr.alloc (.cells #[.int .i64 K, .string N, .string L, .string H] 26) := ⟨_, rfl⟩
        rw [← hW1]
        have hcell : W1.heap[wr.heap.size]? = some (.cells #[.int .i64 K, .string N, .string L, .string H] 26 (0, 0)) := by rw [hW1]; exact heap_alloc_new wr _
        have HB1 : Hid (Below w.heap.size w W1) := by rw [hW1]; exact HB.out.alloc HB.out.size _
        have HBu1 : Hid (Lib.IsBuilderF 38 5 bN bN (Lib.byteCells acc) W1) := by rw [hW1]; exact HBu.out.alloc _
        have hz1 : bN < W1.heap.size := by rw [hW1]; simp; omega
        obtain ⟨A, hA⟩ : ∃ A, A = wr.heap.size := ⟨_, rfl⟩
        rw [← hA] at hcell ⊢
        have hAb : A ≠ bN := by omega
        have d0 : W1.cell? ⟨A, 0, none⟩ = some (.int .i64 K) := by simp [World.cell?, hcell]
        have d1 : W1.cell? ⟨A, 1, none⟩ = some (.string N) := by simp [World.cell?, hcell]
        have d2 : W1.cell? ⟨A, 2, none⟩ = some (.string L) := by simp [World.cell?, hcell]
        have d3 : W1.cell? ⟨A, 3, none⟩ = some (.string H) := by simp [World.cell?, hcell]
        have HCE := Lib.hid hcell
        clear hW1 hA hcell
        go_wp2_with fail
        with_reducible refine (HT.out _).mono ?_
        rintro e w3 ⟨rfl, hb3⟩
        have HB3 : Hid (Below w.heap.size w w3) := HB1.out.trans (hb3.mono HB1.out.size)
        have HBu3 := Lib.hid (builder_below HBu1.out hb3)
        have hz3 : bN < w3.heap.size := by have := hb3.size; omega
        clear hb3
        go_wp2_with fail
        with_reducible refine (Tryz.Builder_WriteString_k bN bN (Lib.byteCells acc) T w3 HBu3.out ?h2 ?h3).mono ?_
        case h2 => rw [Lib.byteCells_length]; omega
        case h3 => omega
        rintro e w4 ⟨rfl, hA4, hb4, _⟩
        have HB4 : Hid (Below w.heap.size w w4) := HB3.out.trans (hb4.mono hbw)
        have HBu4 : Hid (Lib.IsBuilderF 38 5 bN bN (Lib.byteCells (acc ++ itemX ⟨K, nm, lo, ho⟩)) w4) := by
          right
          rw [Lib.byteCells_append, ← HTl.out]
          exact hA4
        have hz4 : bN < w4.heap.size := by have := hb4.size; omega
        have HA4 : Hid (acc ++ itemX ⟨K, nm, lo, ho⟩ = textA none (l.take (i + 1))) := by
          unfold Hid
          rw [HST.out, ← HA.out, HSep.out]
          simp
        have hal4 : (acc ++ itemX ⟨K, nm, lo, ho⟩).length ≤ (i + 1) * 100000000 := by
          rw [List.length_append, ← HTl.out, len_toList]
          omega
        clear hA4 hb4
        go_wp2_with fail
        go_roundg (n - (i + 1))
        case measure => omega
        case rel => exact ⟨i + 1, _, rfl, by omega, by go_num, hal4, HA4.out, HBu4.out, HB4.out, hz4⟩
      · obtain ⟨j, hj⟩ : ∃ j, i = j + 1 := ⟨i - 1, by omega⟩
        have hjl : j < l.length := by omega
        obtain ⟨_, _, e0, _, y0, _, _, _⟩ := HC.out j hjl
        cases e0
        have hlast := lastK_at l j hjl
        rw [← hj] at hlast
        obtain ⟨P, hP⟩ : ∃ P, P = l[j].kind := ⟨_, rfl⟩
        rw [← hP] at y0 hlast
        have p0 := (HB.out.cell (p := ⟨g, off + j * 4, none⟩) hg).trans y0
        have ei : (i : Int) - 1 = (j : Int) := by omega
        have hi0' : (0 : Int) < (i : Int) := by omega
        have hjn : j < n := by omega
        have hjc : (j : Int) < (n : Int) := by omega
        clear y0 hP
        have HJ := Lib.hid hj
        clear hj
        by_cases hP1 : P = 1
        · have bP : (P != 1) = false := by rw [hP1]; rfl
          have HSep : Hid (sepL (lastK none (l.take i)) K = []) := by unfold Hid; rw [hlast]; exact if_neg (fun h => h.1 hP1)
          clear hP1 hlast
          go_wp2_with fail
          obtain ⟨W1, hW1⟩ : ∃ W1, W1 = wr.alloc (.cells #[.int .i64 K, .string N, .string L, .string H] 26) := ⟨_, rfl⟩
          rw [← hW1]
          have hcell : W1.heap[wr.heap.size]? = some (.cells #[.int .i64 K, .string N, .string L, .string H] 26 (0, 0)) := by rw [hW1]; exact heap_alloc_new wr _
          have HB1 : Hid (Below w.heap.size w W1) := by rw [hW1]; exact HB.out.alloc HB.out.size _
          have HBu1 : Hid (Lib.IsBuilderF 38 5 bN bN (Lib.byteCells acc) W1) := by rw [hW1]; exact HBu.out.alloc _
          have hz1 : bN < W1.heap.size := by rw [hW1]; simp; omega
          obtain ⟨A, hA⟩ : ∃ A, A = wr.heap.size := ⟨_, rfl⟩
          rw [← hA] at hcell ⊢
          have hAb : A ≠ bN := by omega
          have d0 : W1.cell? ⟨A, 0, none⟩ = some (.int .i64 K) := by simp [World.cell?, hcell]
          have d1 : W1.cell? ⟨A, 1, none⟩ = some (.string N) := by simp [World.cell?, hcell]
          have d2 : W1.cell? ⟨A, 2, none⟩ = some (.string L) := by simp [World.cell?, hcell]
          have d3 : W1.cell? ⟨A, 3, none⟩ = some (.string H) := by simp [World.cell?, hcell]
          have HCE := Lib.hid hcell
          have p1 := ((show Below wr.heap.size wr W1 by rw [hW1]; exact HBx.out).cell (p := ⟨g, off + j * 4, none⟩) hgw).trans p0
          clear hW1 hA hcell
          go_wp2_with fail
          with_reducible refine (HT.out _).mono ?_
          rintro e w3 ⟨rfl, hb3⟩
          have HB3 : Hid (Below w.heap.size w w3) := HB1.out.trans (hb3.mono HB1.out.size)
          have HBu3 := Lib.hid (builder_below HBu1.out hb3)
          have hz3 : bN < w3.heap.size := by have := hb3.size; omega
          clear hb3
          go_wp2_with fail
          with_reducible refine (Tryz.Builder_WriteString_k bN bN (Lib.byteCells acc) T w3 HBu3.out ?h2 ?h3).mono ?_
          case h2 => rw [Lib.byteCells_length]; omega
          case h3 => omega
          rintro e w4 ⟨rfl, hA4, hb4, _⟩
          have HB4 : Hid (Below w.heap.size w w4) := HB3.out.trans (hb4.mono hbw)
          have HBu4 : Hid (Lib.IsBuilderF 38 5 bN bN (Lib.byteCells (acc ++ itemX ⟨K, nm, lo, ho⟩)) w4) := by
            right
            rw [Lib.byteCells_append, ← HTl.out]
            exact hA4
          have hz4 : bN < w4.heap.size := by have := hb4.size; omega
          have HA4 : Hid (acc ++ itemX ⟨K, nm, lo, ho⟩ = textA none (l.take (i + 1))) := by
            unfold Hid
            rw [HST.out, ← HA.out, HSep.out]
            simp
          have hal4 : (acc ++ itemX ⟨K, nm, lo, ho⟩).length ≤ (i + 1) * 100000000 := by
            rw [List.length_append, ← HTl.out, len_toList]
            omega
          clear hA4 hb4
          go_wp2_with fail
          go_roundg (n - (i + 1))
          case measure => omega
          case rel => exact ⟨i + 1, _, rfl, by omega, by go_num, hal4, HA4.out, HBu4.out, HB4.out, hz4⟩
        · have bP : (P != 1) = true := by rw [bne, beq_no hP1]; rfl
          by_cases hK2 : K = 2
          · have bK : (K != 2) = false := by rw [hK2]; rfl
            have HSep : Hid (sepL (lastK none (l.take i)) K = []) := by unfold Hid; rw [hlast]; exact if_neg (fun h => h.2 hK2)
            clear hP1 hK2 hlast
            go_wp2_with fail
            obtain ⟨W1, hW1⟩ : ∃ W1, W1 = wr.alloc (.cells #[.int .i64 K, .string N, .string L, .string H] 26) := ⟨_, rfl⟩
            rw [← hW1]
            have hcell : W1.heap[wr.heap.size]? = some (.cells #[.int .i64 K, .string N, .string L, .string H] 26 (0, 0)) := by rw [hW1]; exact heap_alloc_new wr _
            have HB1 : Hid (Below w.heap.size w W1) := by rw [hW1]; exact HB.out.alloc HB.out.size _
            have HBu1 : Hid (Lib.IsBuilderF 38 5 bN bN (Lib.byteCells acc) W1) := by rw [hW1]; exact HBu.out.alloc _
            have hz1 : bN < W1.heap.size := by rw [hW1]; simp; omega
            obtain ⟨A, hA⟩ : ∃ A, A = wr.heap.size := ⟨_, rfl⟩
            rw [← hA] at hcell ⊢
            have hAb : A ≠ bN := by omega
            have d0 : W1.cell? ⟨A, 0, none⟩ = some (.int .i64 K) := by simp [World.cell?, hcell]
            have d1 : W1.cell? ⟨A, 1, none⟩ = some (.string N) := by simp [World.cell?, hcell]
            have d2 : W1.cell? ⟨A, 2, none⟩ = some (.string L) := by simp [World.cell?, hcell]
            have d3 : W1.cell? ⟨A, 3, none⟩ = some (.string H) := by simp [World.cell?, hcell]
            have HCE := Lib.hid hcell
            have p1 := ((show Below wr.heap.size wr W1 by rw [hW1]; exact HBx.out).cell (p := ⟨g, off + j * 4, none⟩) hgw).trans p0
            clear hW1 hA hcell
            go_wp2_with fail
            with_reducible refine (HT.out _).mono ?_
            rintro e w3 ⟨rfl, hb3⟩
            have HB3 : Hid (Below w.heap.size w w3) := HB1.out.trans (hb3.mono HB1.out.size)
            have HBu3 := Lib.hid (builder_below HBu1.out hb3)
            have hz3 : bN < w3.heap.size := by have := hb3.size; omega
            clear hb3
            go_wp2_with fail
            with_reducible refine (Tryz.Builder_WriteString_k bN bN (Lib.byteCells acc) T w3 HBu3.out ?h2 ?h3).mono ?_
            case h2 => rw [Lib.byteCells_length]; omega
            case h3 => omega
            rintro e w4 ⟨rfl, hA4, hb4, _⟩
            have HB4 : Hid (Below w.heap.size w w4) := HB3.out.trans (hb4.mono hbw)
            have HBu4 : Hid (Lib.IsBuilderF 38 5 bN bN (Lib.byteCells (acc ++ itemX ⟨K, nm, lo, ho⟩)) w4) := by
              right
              rw [Lib.byteCells_append, ← HTl.out]
              exact hA4
            have hz4 : bN < w4.heap.size := by have := hb4.size; omega
            have HA4 : Hid (acc ++ itemX ⟨K, nm, lo, ho⟩ = textA none (l.take (i + 1))) := by
              unfold Hid
              rw [HST.out, ← HA.out, HSep.out]
              simp
            have hal4 : (acc ++ itemX ⟨K, nm, lo, ho⟩).length ≤ (i + 1) * 100000000 := by
              rw [List.length_append, ← HTl.out, len_toList]
              omega
            clear hA4 hb4
            go_wp2_with fail
            go_roundg (n - (i + 1))
            case measure => omega
            case rel => exact ⟨i + 1, _, rfl, by omega, by go_num, hal4, HA4.out, HBu4.out, HB4.out, hz4⟩
          · have bK : (K != 2) = true := by rw [bne, beq_no hK2]; rfl
            have HSep : Hid (sepL (lastK none (l.take i)) K = [44, 32]) := by unfold Hid; rw [hlast]; exact if_pos ⟨hP1, hK2⟩
            clear hP1 hK2 hlast
            go_wp2_with fail
            obtain ⟨W1, hW1⟩ : ∃ W1, W1 = wr.alloc (.cells #[.int .i64 K, .string N, .string L, .string H] 26) := ⟨_, rfl⟩
            rw [← hW1]
            have hcell : W1.heap[wr.heap.size]? = some (.cells #[.int .i64 K, .string N, .string L, .string H] 26 (0, 0)) := by rw [hW1]; exact heap_alloc_new wr _
            have HB1 : Hid (Below w.heap.size w W1) := by rw [hW1]; exact HB.out.alloc HB.out.size _
            have HBu1 : Hid (Lib.IsBuilderF 38 5 bN bN (Lib.byteCells acc) W1) := by rw [hW1]; exact HBu.out.alloc _
            have hz1 : bN < W1.heap.size := by rw [hW1]; simp; omega
            obtain ⟨A, hA⟩ : ∃ A, A = wr.heap.size := ⟨_, rfl⟩
            rw [← hA] at hcell ⊢
            have hAb : A ≠ bN := by omega
            have d0 : W1.cell? ⟨A, 0, none⟩ = some (.int .i64 K) := by simp [World.cell?, hcell]
            have d1 : W1.cell? ⟨A, 1, none⟩ = some (.string N) := by simp [World.cell?, hcell]
            have d2 : W1.cell? ⟨A, 2, none⟩ = some (.string L) := by simp [World.cell?, hcell]
            have d3 : W1.cell? ⟨A, 3, none⟩ = some (.string H) := by simp [World.cell?, hcell]
            have HCE := Lib.hid hcell
            have p1 := ((show Below wr.heap.size wr W1 by rw [hW1]; exact HBx.out).cell (p := ⟨g, off + j * 4, none⟩) hgw).trans p0
            clear hW1 hA hcell
            go_wp2_with fail
            with_reducible refine (Tryz.Builder_WriteString_k bN bN (Lib.byteCells acc) ⟨#[44, 32]⟩ W1 HBu1.out ?h2 ?h3).mono ?_
            case h2 => rw [Lib.byteCells_length]; show acc.length + 2 ≤ _; omega
            case h3 => omega
            rintro e w2 ⟨rfl, hA2, hb2, hk2⟩
            have hcell2 := isB_others HCE.out hAb hk2
            have HB2 : Hid (Below w.heap.size w w2) := HB1.out.trans (hb2.mono hbw)
            have HBu2 : Hid (Lib.IsBuilderF 38 5 bN bN (Lib.byteCells (acc ++ [44, 32])) w2) := by
              right
              rw [Lib.byteCells_append]
              exact hA2
            have hz2 : bN < w2.heap.size := by have := hb2.size; omega
            replace d0 : w2.cell? ⟨A, 0, none⟩ = some (.int .i64 K) := by simp [World.cell?, hcell2]
            replace d1 : w2.cell? ⟨A, 1, none⟩ = some (.string N) := by simp [World.cell?, hcell2]
            replace d2 : w2.cell? ⟨A, 2, none⟩ = some (.string L) := by simp [World.cell?, hcell2]
            replace d3 : w2.cell? ⟨A, 3, none⟩ = some (.string H) := by simp [World.cell?, hcell2]
            clear hA2 hb2 hk2 hcell2 HCE
            go_wp2_with fail
            with_reducible refine (HT.out _).mono ?_
            rintro e w3 ⟨rfl, hb3⟩
            have HB3 : Hid (Below w.heap.size w w3) := HB2.out.trans (hb3.mono HB2.out.size)
            have HBu3 := Lib.hid (builder_below HBu2.out hb3)
            have hz3 : bN < w3.heap.size := by have := hb3.size; omega
            clear hb3
            go_wp2_with fail
            with_reducible refine (Tryz.Builder_WriteString_k bN bN (Lib.byteCells (acc ++ [44, 32])) T w3 HBu3.out ?h2 ?h3).mono ?_
            case h2 => rw [Lib.byteCells_length]; simp only [List.length_append, List.length_cons, List.length_nil]; omega
            case h3 => omega
            rintro e w4 ⟨rfl, hA4, hb4, _⟩
            have HB4 : Hid (Below w.heap.size w w4) := HB3.out.trans (hb4.mono hbw)
            have HBu4 : Hid (Lib.IsBuilderF 38 5 bN bN (Lib.byteCells ((acc ++ [44, 32]) ++ itemX ⟨K, nm, lo, ho⟩)) w4) := by
              right
              rw [Lib.byteCells_append, ← HTl.out]
              exact hA4
            have hz4 : bN < w4.heap.size := by have := hb4.size; omega
            have HA4 : Hid ((acc ++ [44, 32]) ++ itemX ⟨K, nm, lo, ho⟩ = textA none (l.take (i + 1))) := by
              unfold Hid
              rw [HST.out, ← HA.out, HSep.out]
              simp
            have hal4 : ((acc ++ [44, 32]) ++ itemX ⟨K, nm, lo, ho⟩).length ≤ (i + 1) * 100000000 := by
              rw [List.length_append, List.length_append, ← HTl.out, len_toList]
              show acc.length + 2 + T.size ≤ _
              omega
            clear hA4 hb4
            go_wp2_with fail
            go_roundg (n - (i + 1))
            case measure => omega
            case rel => exact ⟨i + 1, _, rfl, by omega, by go_num, hal4, HA4.out, HBu4.out, HB4.out, hz4⟩
    · have hA' : acc = textA none l := by have := HA.out; rwa [List.take_of_length_le (by rw [← HN.out]; omega)] at this
      have HA' := Lib.hid hA'
      clear hA'
      go_wp2_with fail
      with_reducible refine (Tryz.Builder_String_any_k bN bN acc wr HBu.out ?h4).mono ?_
      case h4 => omega
      rintro e w4 ⟨rfl, _, hb4, _⟩
      have HB4 : Hid (Below w.heap.size w w4) := HB.out.trans (hb4.mono hbw)
      clear hb4
      go_wp2_with fail
      go_ret
      exact ⟨by rw [HA'.out]; rfl, HB4.out⟩
end Go.Proofs.YtjlcphofkepajaaGreat
