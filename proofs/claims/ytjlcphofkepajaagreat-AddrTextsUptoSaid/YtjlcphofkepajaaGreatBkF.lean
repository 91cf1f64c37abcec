/- A slice of addresses that came in. -/
import Derived.Test.YtjlcphofkepajaaGreatAdZ
import Derived.Test.YtjlcphofkepajaaGreatRows
import Derived.Test.YtjlcphofkepajaaGreatRow
import Derived.Deep.Slices
import Derived.Lib.SmallJoins
namespace Go.Proofs.YtjlcphofkepajaaGreat
open Go Go.RowKit Go.ChangeShapes Go.WideShapes Go.ChangeAt Go.Deep Go.Joins

theorem cellsOf_adr : Tryz.prog.cellsOf 26 = 4 := by kernel_rfl
theorem cellsOf_intA : Tryz.prog.cellsOf 3 = 1 := by kernel_rfl
theorem cellsOf_strA : Tryz.prog.cellsOf 9 = 1 := by kernel_rfl
theorem at_of_take {α : Type} {l : List α} {j : Nat} {x : α} (h : (l.drop j).take 1 = [x]) : l[j]? = some x := by
  have := congrArg (fun m => m[0]?) h
  simpa [List.getElem?_take, List.getElem?_drop] using this
theorem bulk_mem {H : Type} {d : DataW H} : ∀ {L : List (DataW H)}, d ∈ L → Rows.uptoBulk d ≤ Rows.uptoBulkAll L
  | x :: L, h => by
    show _ ≤ Rows.uptoBulk x + Rows.uptoBulkAll L
    rcases List.mem_cons.1 h with rfl | h
    · omega
    · have := bulk_mem h
      omega
set_option maxRecDepth 100000 in
theorem adxArg_open {H : Type} {enc : TypeId × Value → H} {W : World} {base : Nat} {v : Value} {d : DataW H} {p : List MemPlace}
    (hv : Value.okWide Tryz.prog W .any base 22 v) (h : DataW.Trod enc Tryz.prog W 0 (fun _ => true) true 22 v d p) : ∃ l, rowAdx W v l ∧ small l (Rows.uptoBulk d) := by
  obtain ⟨a0, len, cap, rfl⟩ := okWide_slice Tryz.underlying22 hv
  obtain ⟨fuel, hf⟩ := h
  rcases open_slice Tryz.underlying22 hf with ⟨hcs, hx⟩ | ⟨a, len', cap', m, n, D, Pl, hcs, hb, hl, hm, hmm, hx, hi⟩
  · simp [Value.cells] at hcs
    obtain ⟨rfl, rfl, rfl⟩ := hcs
    exact ⟨[], ⟨none, 0, rfl, Nat.le_refl _, Nat.zero_le _, .inl rfl⟩, fun a ha => by cases ha⟩
  · simp [Value.cells] at hcs
    obtain ⟨rfl, rfl, rfl⟩ := hcs
    have hlm : len ≤ m := by rw [hmm]; split <;> omega
    have each : ∀ i, ∃ x : Adx, i < m → (W.cell? ((a.add (i * 4)).add 0) = some (.int .i64 x.kind) ∧ W.cell? ((a.add (i * 4)).add 1) = some (.string ⟨x.name.toArray⟩) ∧ W.cell? ((a.add (i * 4)).add 2) = some (.string ⟨x.loc.toArray⟩) ∧ W.cell? ((a.add (i * 4)).add 3) = some (.string ⟨x.host.toArray⟩) ∧
        x.name.length ≤ Rows.uptoBulk (D i) ∧ x.loc.length ≤ Rows.uptoBulk (D i) ∧ x.host.length ≤ Rows.uptoBulk (D i)) := by
      intro i
      by_cases him : i < m
      · obtain ⟨cs', h1, h2⟩ := hi i him
        rw [cellsOf_adr] at h1
        obtain ⟨_, hcl, hat⟩ := World.cells?_some h1
        obtain ⟨y0, y1, y2, y3, n', hd, _, t0, t1, t2, t3⟩ := trod_struct4 Tryz.underlying26 h2
        obtain ⟨K, e0, hy0, _⟩ := DataW.trod_int Tryz.underlying3 t0
        obtain ⟨s1, e1, hy1, _⟩ := DataW.trod_string Tryz.underlying9 t1
        obtain ⟨s2, e2, hy2, _⟩ := DataW.trod_string Tryz.underlying9 t2
        obtain ⟨s3, e3, hy3, _⟩ := DataW.trod_string Tryz.underlying9 t3
        simp only [cellsOf_intA, cellsOf_strA] at e0 e1 e2 e3
        have q0 := at_of_take e0
        have q1 := at_of_take e1
        have q2 := at_of_take e2
        have q3 := at_of_take e3
        have hD : D i = .agg [.lit (.int .i64 K), .lit (.string s1.data.toList), .lit (.string s2.data.toList), .lit (.string s3.data.toList)] := by
          have := (Prod.mk.inj hd).1
          rw [this, hy0, hy1, hy2, hy3]
        refine ⟨⟨K, s1.data.toList, s2.data.toList, s3.data.toList⟩, fun _ => ⟨?_, ?_, ?_, ?_, ?_⟩⟩
        · exact (hat 0 (by decide)).trans q0
        · exact (hat 1 (by decide)).trans q1
        · exact (hat 2 (by decide)).trans q2
        · exact (hat 3 (by decide)).trans q3
        · rw [hD]
          simp only [Rows.uptoBulk, Rows.uptoBulkAll]
          omega
      · exact ⟨⟨0, [], [], []⟩, fun h => absurd h him⟩
    obtain ⟨X, hX⟩ := Classical.axiomOfChoice each
    refine ⟨(List.range len).map X, ⟨some a, cap, by simp, by simpa using hl, hm, ?_⟩, ?_⟩
    · by_cases h0 : len = 0
      · left
        subst h0
        rfl
      · right
        have hc0 := (hX 0 (by omega)).1
        obtain ⟨b, off, spot⟩ := a
        have hspot : spot = none := by simpa [Addr.add] using World.cell?_spot hc0
        subst hspot
        refine ⟨b, off, rfl, ?_, fun i hi2 => ?_⟩
        · have := World.block_lt_of_cell? W _ hc0
          simpa [Addr.add_lit] using this
        · have hi3 : i < len := by simpa using hi2
          obtain ⟨c0, c1, c2, c3, _⟩ := hX i (by omega)
          simp only [Addr.add_lit, Nat.add_zero] at c0 c1 c2 c3
          simp only [List.getElem_map, List.getElem_range]
          exact ⟨c0, c1, c2, c3⟩
    · intro x hx2
      obtain ⟨i, hi2, rfl⟩ := List.mem_map.1 hx2
      have hil : i < len := List.mem_range.1 hi2
      obtain ⟨_, _, _, _, s1, s2, s3⟩ := hX i (by omega)
      have hd := (Prod.mk.inj hx).1
      have hbm : Rows.uptoBulk (D i) ≤ Rows.uptoBulkAll ((List.range len).map D) := bulk_mem (List.mem_map.2 ⟨i, hi2, rfl⟩)
      have hle : Rows.uptoBulk (D i) ≤ Rows.uptoBulk d := by
        rw [hd]
        simp only [Rows.uptoBulk]
        omega
      exact ⟨by omega, by omega, by omega⟩
end Go.Proofs.YtjlcphofkepajaaGreat
