/- Layer 19: an envelope that came in by value. -/
import Derived.Test.YtbphnlaoiikebaaGreatDoorGbEnC
import Derived.Laws.IdiomArrays
namespace Go.Proofs.YtbphnlaoiikebaaGreatDoor
open Go Go.RowKit Go.ChangeShapes Go.WideShapes Go.ChangeAt Go.Deep Go.Joins

theorem bulk_pos {H : Type} (d : DataW H) : 1 ≤ Rows.uptoBulk d := by
  cases d with
  | lit x => cases x <;> simp [Rows.uptoBulk]
  | _ => simp [Rows.uptoBulk]
theorem bulkAll_len {H : Type} : ∀ (L : List (DataW H)), L.length ≤ Rows.uptoBulkAll L
  | [] => Nat.zero_le _
  | d :: r => by
    have := bulkAll_len r
    have h := bulk_pos d
    simp only [Rows.uptoBulkAll, List.length_cons]
    omega
set_option maxRecDepth 100000 in
theorem adxArg_cell {H : Type} {enc : TypeId × Value → H} {W : World} {v : Value} {fuel : Nat} {x : DataW H × List MemPlace}
    (hf : DataW.trod enc Tryz.prog W 0 (fun _ => true) true fuel 22 [v] = some x) : ∃ l, rowAdx W v l ∧ smallX l (Rows.uptoBulk x.1) ∧ l.length ≤ Rows.uptoBulk x.1 := by
  rcases open_slice Tryz.underlying22 hf with ⟨hcs, hx⟩ | ⟨a, len, cap, m, n, D, Pl, hcs, hb, hl, hm, hmm, hx, hi⟩
  · obtain rfl : v = .slice none 0 0 := by simpa using hcs
    exact ⟨[], ⟨none, 0, rfl, Nat.le_refl _, Nat.zero_le _, .inl rfl⟩, (fun a ha => by cases ha), Nat.zero_le _⟩
  · obtain rfl : v = .slice (some a) len cap := by simpa using hcs
    have hlm : len ≤ m := by rw [hmm]; split <;> omega
    have each : ∀ i, ∃ x : Adx, i < m → (W.cell? ((a.add (i * 4)).add 0) = some (.int .i64 x.kind) ∧ W.cell? ((a.add (i * 4)).add 1) = some (.string ⟨x.name.toArray⟩) ∧ W.cell? ((a.add (i * 4)).add 2) = some (.string ⟨x.loc.toArray⟩) ∧ W.cell? ((a.add (i * 4)).add 3) = some (.string ⟨x.host.toArray⟩) ∧
        x.name.length ≤ Rows.uptoBulk (D i) ∧ x.loc.length ≤ Rows.uptoBulk (D i) ∧ x.host.length ≤ Rows.uptoBulk (D i)) := by
      intro i
      by_cases him : i < m
      · obtain ⟨cs', h1, h2⟩ := hi i him
        rw [cellsOf_adr] at h1
        obtain ⟨_, hcl, hat⟩ := World.cells?_some h1
        obtain ⟨y0, y1, y2, y3, n', hd, _, t0, t1, t2, t3⟩ := trod_struct4 Tryz.underlying26 h2
        obtain ⟨K, e0, hy0, _⟩ := DataW.trod_int Tryz.underlying3 t0
        obtain ⟨s1, e1, hy1, _⟩ := DataW.trod_string Tryz.underlying9 t1
        obtain ⟨s2, e2, hy2, _⟩ := DataW.trod_string Tryz.underlying9 t2
        obtain ⟨s3, e3, hy3, _⟩ := DataW.trod_string Tryz.underlying9 t3
        simp only [cellsOf_intA, cellsOf_strA] at e0 e1 e2 e3
        have q0 := at_of_take e0
        have q1 := at_of_take e1
        have q2 := at_of_take e2
        have q3 := at_of_take e3
        have hD : D i = .agg [.lit (.int .i64 K), .lit (.string s1.data.toList), .lit (.string s2.data.toList), .lit (.string s3.data.toList)] := by
          have := (Prod.mk.inj hd).1
          rw [this, hy0, hy1, hy2, hy3]
        refine ⟨⟨K, s1.data.toList, s2.data.toList, s3.data.toList⟩, fun _ => ⟨?_, ?_, ?_, ?_, ?_⟩⟩
        · exact (hat 0 (by decide)).trans q0
        · exact (hat 1 (by decide)).trans q1
        · exact (hat 2 (by decide)).trans q2
        · exact (hat 3 (by decide)).trans q3
        · rw [hD]
          simp only [Rows.uptoBulk, Rows.uptoBulkAll]
          omega
      · exact ⟨⟨0, [], [], []⟩, fun h => absurd h him⟩
    obtain ⟨X, hX⟩ := Classical.axiomOfChoice each
    refine ⟨(List.range len).map X, ⟨some a, cap, by simp, by simpa using hl, hm, ?_⟩, ?_, ?_⟩
    · by_cases h0 : len = 0
      · left
        subst h0
        rfl
      · right
        have hc0 := (hX 0 (by omega)).1
        obtain ⟨b, off, spot⟩ := a
        have hspot : spot = none := by simpa [Addr.add] using World.cell?_spot hc0
        subst hspot
        refine ⟨b, off, rfl, ?_, fun i hi2 => ?_⟩
        · have := World.block_lt_of_cell? W _ hc0
          simpa [Addr.add_lit] using this
        · have hi3 : i < len := by simpa using hi2
          obtain ⟨c0, c1, c2, c3, _⟩ := hX i (by omega)
          simp only [Addr.add_lit, Nat.add_zero] at c0 c1 c2 c3
          simp only [List.getElem_map, List.getElem_range]
          exact ⟨c0, c1, c2, c3⟩
    · intro y hx2
      obtain ⟨i, hi2, rfl⟩ := List.mem_map.1 hx2
      have hil : i < len := List.mem_range.1 hi2
      obtain ⟨_, _, _, _, s1, s2, s3⟩ := hX i (by omega)
      have hd : x.1 = _ := congrArg Prod.fst hx
      have hbm : Rows.uptoBulk (D i) ≤ Rows.uptoBulkAll ((List.range len).map D) := bulk_mem (List.mem_map.2 ⟨i, hi2, rfl⟩)
      have hle : Rows.uptoBulk (D i) ≤ Rows.uptoBulk x.1 := by
        rw [hd]
        simp only [Rows.uptoBulk]
        omega
      exact ⟨by omega, by omega, by omega⟩
    · have hd : x.1 = _ := congrArg Prod.fst hx
      rw [hd]
      simp only [Rows.uptoBulk]
      have := bulkAll_len ((List.range len).map D)
      rw [List.length_map] at this ⊢
      omega
theorem array14 {α : Type} {cs : Array α} (h : cs.size = 14) : ∃ c0 c1 c2 c3 c4 c5 c6 c7 c8 c9 c10 c11 c12 c13, cs = #[c0, c1, c2, c3, c4, c5, c6, c7, c8, c9, c10, c11, c12, c13] := by
  obtain ⟨l⟩ := cs
  match l, h with
  | [c0, c1, c2, c3, c4, c5, c6, c7, c8, c9, c10, c11, c12, c13], _ => exact ⟨c0, c1, c2, c3, c4, c5, c6, c7, c8, c9, c10, c11, c12, c13, rfl⟩
theorem cellsOf_env : Tryz.prog.cellsOf 34 = 14 := by kernel_rfl
theorem cellsOf_ls6 : Tryz.prog.cellsOf 31 = 6 := by kernel_rfl
theorem cellsOf_b4 : Tryz.prog.cellsOf 32 = 4 := by kernel_rfl
theorem cellsOf_slA : Tryz.prog.cellsOf 22 = 1 := by kernel_rfl
theorem cellsOf_bl : Tryz.prog.cellsOf 4 = 1 := by kernel_rfl
theorem bulk_in {H : Type} {d : DataW H} {L : List (DataW H)} {M : Nat} (h : d ∈ L) (hM : Rows.uptoBulkAll L ≤ M) : Rows.uptoBulk d ≤ M := Nat.le_trans (bulk_mem h) hM
set_option maxRecDepth 100000 in
set_option maxHeartbeats 4000000 in
theorem envArg_open {H : Type} {enc : TypeId × Value → H} {W : World} {base : Nat} {v : Value} {d : DataW H} {p : List MemPlace} {M : Nat}
    (hv : Value.okWide Tryz.prog W .any base 34 v) (h : DataW.Trod enc Tryz.prog W 0 (fun _ => true) true 34 v d p) (hM : Rows.uptoBulk d ≤ M) :
    ∃ (e : Env) (v0 v1 v2 v3 v4 v5 : Value), v = envV e v0 v1 v2 v3 v4 v5 ∧ EnvAt W e v0 v1 v2 v3 v4 v5 ∧ e.date.length ≤ M ∧ e.subj.length ≤ M ∧ e.reply.length ≤ M ∧ e.id.length ≤ M ∧ smallX e.l0 M ∧ smallX e.l1 M ∧ smallX e.l2 M ∧ smallX e.l3 M ∧ smallX e.l4 M ∧ smallX e.l5 M ∧ e.l0.length ≤ M ∧ e.l1.length ≤ M ∧ e.l2.length ≤ M ∧ e.l3.length ≤ M ∧ e.l4.length ≤ M ∧ e.l5.length ≤ M := by
  obtain ⟨cs, rfl, hsz⟩ := okWide_struct Tryz.underlying34 hv
  obtain ⟨c0, c1, c2, c3, c4, c5, c6, c7, c8, c9, c10, c11, c12, c13, rfl⟩ := array14 (hsz.trans cellsOf_env)
  obtain ⟨fuel, hf⟩ := h
  obtain ⟨xs, n, _, hx, _, hlen, hfs⟩ := DataW.trod_struct Tryz.underlying34 hf
  match xs, hlen with
  | [y0, y1, y2, y3, y4, y5], _ =>
    have g0 := hfs 0 _ rfl
    have g1 := hfs 1 _ rfl
    have g2 := hfs 2 _ rfl
    have g3 := hfs 3 _ rfl
    have g4 := hfs 4 _ rfl
    have g5 := hfs 5 _ rfl
    simp [Value.cells, cellsOf_strA, cellsOf_ls6, cellsOf_b4] at g0 g1 g2 g3 g4 g5
    obtain ⟨s0, e0, hy0, _⟩ := DataW.trod_string Tryz.underlying9 g0
    obtain ⟨s1, e1, hy1, _⟩ := DataW.trod_string Tryz.underlying9 g1
    obtain ⟨s3, e3, hy3, _⟩ := DataW.trod_string Tryz.underlying9 g3
    obtain ⟨s4, e4, hy4, _⟩ := DataW.trod_string Tryz.underlying9 g4
    obtain ⟨x0, x1, x2, x3, m5, _, b0, b1, b2, b3⟩ := trod_array4 Tryz.underlying32 cellsOf_bl g5
    obtain ⟨z0, k0, _⟩ := DataW.trod_bool Tryz.underlying4 b0
    obtain ⟨z1, k1, _⟩ := DataW.trod_bool Tryz.underlying4 b1
    obtain ⟨z2, k2, _⟩ := DataW.trod_bool Tryz.underlying4 b2
    obtain ⟨z3, k3, _⟩ := DataW.trod_bool Tryz.underlying4 b3
    obtain ⟨ws, m2, _, hw, _, hwl, hws⟩ := DataW.trod_array Tryz.underlying31 g2
    match ws, hwl with
    | [w0, w1, w2, w3, w4, w5], _ =>
      have t0 := hws 0 (by decide)
      have t1 := hws 1 (by decide)
      have t2 := hws 2 (by decide)
      have t3 := hws 3 (by decide)
      have t4 := hws 4 (by decide)
      have t5 := hws 5 (by decide)
      simp [cellsOf_slA] at t0 t1 t2 t3 t4 t5
      obtain ⟨l0, r0, q0, p0⟩ := adxArg_cell t0
      obtain ⟨l1, r1, q1, p1⟩ := adxArg_cell t1
      obtain ⟨l2, r2, q2, p2⟩ := adxArg_cell t2
      obtain ⟨l3, r3, q3, p3⟩ := adxArg_cell t3
      obtain ⟨l4, r4, q4, p4⟩ := adxArg_cell t4
      obtain ⟨l5, r5, q5, p5⟩ := adxArg_cell t5
      simp only [List.cons.injEq, and_true] at e0 e1 e3 e4 k0 k1 k2 k3
      subst e0 e1 e3 e4 k0 k1 k2 k3
      have hd : d = .agg [y0.1, y1.1, y2.1, y3.1, y4.1, y5.1] := congrArg Prod.fst hx
      have hd2 : y2.1 = .agg [w0.1, w1.1, w2.1, w3.1, w4.1, w5.1] := congrArg Prod.fst hw
      rw [hd] at hM
      simp only [Rows.uptoBulk] at hM
      have hB : Rows.uptoBulkAll [y0.1, y1.1, y2.1, y3.1, y4.1, y5.1] ≤ M := by omega
      have n0 := bulk_in (d := y0.1) (by simp) hB
      have n1 := bulk_in (d := y1.1) (by simp) hB
      have n2 := bulk_in (d := y2.1) (by simp) hB
      have n3 := bulk_in (d := y3.1) (by simp) hB
      have n4 := bulk_in (d := y4.1) (by simp) hB
      rw [hd2] at n2
      simp only [Rows.uptoBulk] at n2
      have hB2 : Rows.uptoBulkAll [w0.1, w1.1, w2.1, w3.1, w4.1, w5.1] ≤ M := by omega
      rw [hy0] at n0
      rw [hy1] at n1
      rw [hy3] at n3
      rw [hy4] at n4
      simp only [Rows.uptoBulk] at n0 n1 n3 n4
      refine ⟨⟨s0.data.toList, s1.data.toList, l0, l1, l2, l3, l4, l5, s3.data.toList, s4.data.toList, z0, z1, z2, z3⟩, c2, c3, c4, c5, c6, c7, ?_, ⟨r0, r1, r2, r3, r4, r5⟩, ?_, ?_, ?_, ?_, smallX_more q0 (bulk_in (by simp) hB2), smallX_more q1 (bulk_in (by simp) hB2), smallX_more q2 (bulk_in (by simp) hB2), smallX_more q3 (bulk_in (by simp) hB2), smallX_more q4 (bulk_in (by simp) hB2), smallX_more q5 (bulk_in (by simp) hB2), Nat.le_trans p0 (bulk_in (by simp) hB2), Nat.le_trans p1 (bulk_in (by simp) hB2), Nat.le_trans p2 (bulk_in (by simp) hB2), Nat.le_trans p3 (bulk_in (by simp) hB2), Nat.le_trans p4 (bulk_in (by simp) hB2), Nat.le_trans p5 (bulk_in (by simp) hB2)⟩
      · rfl
      · simp only
        omega
      · simp only
        omega
      · simp only
        omega
      · simp only
        omega
end Go.Proofs.YtbphnlaoiikebaaGreatDoor
