/- A spec that came in by value. -/
import Derived.Test.YtahmhakdpmcdoaaGreatDoorGbFeK
import Derived.Test.YtahmhakdpmcdoaaGreatDoorRow
import Derived.Deep.Strs
import Derived.Lib.SmallJoins
import Derived.SizedLaws
namespace Go.Proofs.YtahmhakdpmcdoaaGreatDoor
open Go Go.RowKit Go.ChangeShapes Go.WideShapes Go.ChangeAt Go.Deep Go.Joins

theorem cellsOf_intE : Tryz.prog.cellsOf 3 = 1 := by kernel_rfl
theorem cellsOf_strE : Tryz.prog.cellsOf 9 = 1 := by kernel_rfl
theorem cellsOf_spec : Tryz.prog.cellsOf 26 = 6 := by kernel_rfl
theorem array6 {α : Type} {cs : Array α} (h : cs.size = 6) : ∃ c0 c1 c2 c3 c4 c5, cs = #[c0, c1, c2, c3, c4, c5] := by
  obtain ⟨l⟩ := cs
  match l, h with
  | [c0, c1, c2, c3, c4, c5], _ => exact ⟨c0, c1, c2, c3, c4, c5, rfl⟩
theorem rowOf_mk {W : World} {a : Addr} {cap : Nat} {xs : List Value} (h : ∀ j, (hj : j < xs.length) → W.cell? (a.add j) = some xs[j]) : rowOf W (.slice (some a) xs.length cap) xs := by
  by_cases h0 : xs = []
  · exact ⟨some a, cap, rfl, .inl h0⟩
  · have hl : 0 < xs.length := List.length_pos_iff.2 h0
    have hc0 := h 0 hl
    obtain ⟨b, off, spot⟩ := a
    have hspot : spot = none := by simpa [Addr.add] using World.cell?_spot hc0
    subst hspot
    refine ⟨_, cap, rfl, .inr ⟨b, off, rfl, ?_, fun j hj => ?_⟩⟩
    · have := World.block_lt_of_cell? W _ hc0
      simpa [Addr.add_lit] using this
    · have := h j hj
      rw [Addr.add_lit] at this
      exact this
section
variable {H : Type} {enc : TypeId × Value → H} {P : Program} {w : World} {base : Nat} {spare : Nat → Bool} {held : Bool}
theorem trod_struct6 {t : TypeId} {f0 f1 f2 f3 f4 f5 : Field} {fuel : Nat} {cs : List Value} {x : DataW H × List MemPlace} (ht : P.underlying t = some (.struct #[f0, f1, f2, f3, f4, f5])) (h : DataW.trod enc P w base spare held fuel t cs = some x) :
    ∃ (y0 y1 y2 y3 y4 y5 : DataW H × List MemPlace) (n : Nat), x.1 = .agg [y0.1, y1.1, y2.1, y3.1, y4.1, y5.1] ∧ DataW.trod enc P w base spare held n f0.type ((cs.drop f0.offset).take (P.cellsOf f0.type)) = some y0 ∧
      DataW.trod enc P w base spare held n f1.type ((cs.drop f1.offset).take (P.cellsOf f1.type)) = some y1 ∧ DataW.trod enc P w base spare held n f2.type ((cs.drop f2.offset).take (P.cellsOf f2.type)) = some y2 ∧
      DataW.trod enc P w base spare held n f3.type ((cs.drop f3.offset).take (P.cellsOf f3.type)) = some y3 ∧ DataW.trod enc P w base spare held n f4.type ((cs.drop f4.offset).take (P.cellsOf f4.type)) = some y4 ∧
      DataW.trod enc P w base spare held n f5.type ((cs.drop f5.offset).take (P.cellsOf f5.type)) = some y5 := by
  obtain ⟨xs, n, _, rfl, hl, hlen, hf⟩ := DataW.trod_struct ht h
  match xs, hlen with
  | [y0, y1, y2, y3, y4, y5], _ => exact ⟨y0, y1, y2, y3, y4, y5, n, by simp, by simpa using hf 0 f0 rfl, by simpa using hf 1 f1 rfl, by simpa using hf 2 f2 rfl, by simpa using hf 3 f3 rfl, by simpa using hf 4 f4 rfl, by simpa using hf 5 f5 rfl⟩
theorem open_agg6 {r : Reach} {b0 : Nat} {t : TypeId} {f0 f1 f2 f3 f4 f5 : Field} {v : Value} {d : DataW H} {p : List MemPlace} (hs : P.underlying t = some (.struct #[f0, f1, f2, f3, f4, f5])) (hone : oneCellFields P #[f0, f1, f2, f3, f4, f5] = true) (hC : P.cellsOf t = 6)
    (hv : Value.okWide P w r b0 t v) (h : DataW.Trod enc P w base spare held t v d p) :
    ∃ (v0 v1 v2 v3 v4 v5 : Value) (y0 y1 y2 y3 y4 y5 : DataW H × List MemPlace) (n : Nat), v = .agg #[v0, v1, v2, v3, v4, v5] ∧ d = .agg [y0.1, y1.1, y2.1, y3.1, y4.1, y5.1] ∧
      DataW.trod enc P w base spare held n f0.type [v0] = some y0 ∧ DataW.trod enc P w base spare held n f1.type [v1] = some y1 ∧ DataW.trod enc P w base spare held n f2.type [v2] = some y2 ∧
      DataW.trod enc P w base spare held n f3.type [v3] = some y3 ∧ DataW.trod enc P w base spare held n f4.type [v4] = some y4 ∧ DataW.trod enc P w base spare held n f5.type [v5] = some y5 := by
  obtain ⟨cs, rfl, hsz⟩ := okWide_struct hs hv
  obtain ⟨c0, c1, c2, c3, c4, c5, rfl⟩ := array6 (hsz.trans hC)
  obtain ⟨fuel, hf⟩ := h
  obtain ⟨y0, y1, y2, y3, y4, y5, n, hd, h0, h1, h2, h3, h4, h5⟩ := trod_struct6 hs hf
  obtain ⟨o0, k0⟩ := hone_of hone 0 f0 rfl
  obtain ⟨o1, k1⟩ := hone_of hone 1 f1 rfl
  obtain ⟨o2, k2⟩ := hone_of hone 2 f2 rfl
  obtain ⟨o3, k3⟩ := hone_of hone 3 f3 rfl
  obtain ⟨o4, k4⟩ := hone_of hone 4 f4 rfl
  obtain ⟨o5, k5⟩ := hone_of hone 5 f5 rfl
  exact ⟨c0, c1, c2, c3, c4, c5, y0, y1, y2, y3, y4, y5, n, rfl, hd, by simpa [Value.cells, o0, k0] using h0, by simpa [Value.cells, o1, k1] using h1, by simpa [Value.cells, o2, k2] using h2, by simpa [Value.cells, o3, k3] using h3, by simpa [Value.cells, o4, k4] using h4, by simpa [Value.cells, o5, k5] using h5⟩
end
theorem int_row {H : Type} {enc : TypeId × Value → H} {W : World} {v : Value} {n : Nat} {y : DataW H × List MemPlace} (h : DataW.trod enc Tryz.prog W 0 (fun _ => true) true n 23 [v] = some y) :
    ∃ (l : List Int) (a : Option Addr) (c : Nat), v = .slice a l.length c ∧ rowOf W (.slice a l.length c) (l.map intV) ∧ l.length ≤ 9223372036854775807 := by
  rcases open_ints Tryz.underlying23 Tryz.underlying3 cellsOf_intE h with ⟨hcs, _⟩ | ⟨a, len, cap, zs, hcs, _, hl, hm, hzl, _, hr, _⟩
  · obtain rfl : v = .slice none 0 0 := by simpa using hcs
    exact ⟨[], none, 0, rfl, rowOf_emp W, Nat.zero_le _⟩
  · obtain rfl : v = .slice (some a) len cap := by simpa using hcs
    rw [if_pos rfl] at hzl
    have hle : (zs.take len).length = len := by rw [List.length_take]; omega
    unfold maxLen at hm
    refine ⟨zs.take len, some a, cap, by rw [hle], ?_, by omega⟩
    have := rowOf_mk (W := W) (a := a) (cap := cap) (xs := (zs.take len).map intV) (fun j hj => by
      rw [List.length_map] at hj
      have hj2 : j < zs.length := by omega
      have := hr j hj2
      rw [List.getD_eq_getElem?_getD, List.getElem?_eq_getElem hj2] at this
      rw [this, List.getElem_map, List.getElem_take]
      rfl)
    rw [List.length_map] at this
    exact this
theorem weights_strs (e : TypeId) {H : Type} : ∀ (l : List (List UInt8)), ∀ x ∈ l, x.length ∈ DataW.weightsAll (H := H) Tryz.prog e (l.map fun b => .lit (.string b))
  | b :: l, x, h => by
    rw [List.map_cons, DataW.weightsAll, DataW.weights, List.mem_append]
    rcases List.mem_cons.1 h with rfl | h
    · exact .inl (List.mem_singleton.2 rfl)
    · exact .inr (weights_strs e l x h)
theorem str_row {H : Type} {enc : TypeId × Value → H} {W : World} {v : Value} {n : Nat} {y : DataW H × List MemPlace} (h : DataW.trod enc Tryz.prog W 0 (fun _ => true) true n 24 [v] = some y) :
    ∃ (l : List (List UInt8)) (a : Option Addr) (c : Nat), v = .slice a l.length c ∧ strsArg W (.slice a l.length c) (bsL l) ∧ (∀ x ∈ l, x.length ∈ y.1.weights Tryz.prog 24) ∧ l.length ≤ 9223372036854775807 := by
  rcases open_strs Tryz.underlying24 Tryz.underlying9 cellsOf_strE h with ⟨hcs, _⟩ | ⟨a, len, cap, m, Sx, hcs, _, hl, hm, hmm, hy, hr⟩
  · obtain rfl : v = .slice none 0 0 := by simpa using hcs
    exact ⟨[], none, 0, rfl, strs_emp W, (fun _ h => by cases h), Nat.zero_le _⟩
  · obtain rfl : v = .slice (some a) len cap := by simpa using hcs
    rw [if_pos rfl] at hmm
    have hm' := hm
    unfold maxLen at hm
    have hle : ((List.range len).map fun i => (Sx i).data.toList).length = len := by simp
    have hbs : bsL ((List.range len).map fun i => (Sx i).data.toList) = (List.range len).map Sx := by
      unfold bsL
      rw [List.map_map]
      exact List.map_congr_left fun i _ => bytes_eq (by simp)
    refine ⟨(List.range len).map fun i => (Sx i).data.toList, some a, cap, by rw [hle], ?_, ?_, by omega⟩
    · rw [hbs, hle]
      refine ⟨some a, cap, by simp, by simpa using hl, hm', ?_, ?_⟩
      · intro s hs
        obtain ⟨j, hj, rfl⟩ := List.mem_map.1 hs
        exact (hr j (by have := List.mem_range.1 hj; omega)).2
      · by_cases h0 : len = 0
        · left; subst h0; rfl
        · right
          have hc0 := (hr 0 (by omega)).1
          obtain ⟨b, off, spot⟩ := a
          have hspot : spot = none := by simpa [Addr.add] using World.cell?_spot hc0
          subst hspot
          refine ⟨b, off, rfl, ?_, fun j hj => ?_⟩
          · have := World.block_lt_of_cell? W _ hc0
            simpa [Addr.add_lit] using this
          · have hj' : j < len := by simpa using hj
            have := (hr j (by omega)).1
            rw [Addr.add_lit] at this
            rw [this]
            simp
    · intro x hx
      have hmem := weights_strs (H := H) 9 _ x hx
      rw [hy]
      simp only [DataW.weights, Tryz.underlying24, List.mem_cons, List.mem_append]
      rw [List.map_map] at hmem
      exact .inr (.inl hmem)
set_option maxRecDepth 100000 in
theorem specArg_open {H : Type} {enc : TypeId × Value → H} {W : World} {base : Nat} {v : Value} {d : DataW H} {p : List MemPlace}
    (hv : Value.okWide Tryz.prog W .any base 26 v) (h : DataW.Trod enc Tryz.prog W 0 (fun _ => true) true 26 v d p) (hw : ∀ n ∈ d.weights Tryz.prog 26, n ≤ 140737488355328) :
    ∃ (s : Spc) (a1 a2 : Option Addr) (c1 c2 : Nat), v = spV s a1 a2 c1 c2 ∧ rowOf W (.slice a1 s.path.length c1) (s.path.map intV) ∧ strsArg W (.slice a2 s.names.length c2) (bsL s.names) ∧ (∀ a ∈ s.names, a.length ≤ 140737488355328) ∧ s.path.length ≤ 9223372036854775807 ∧ s.names.length ≤ 9223372036854775807 := by
  obtain ⟨v0, v1, v2, v3, v4, v5, y0, y1, y2, y3, y4, y5, n, rfl, rfl, h0, h1, h2, h3, h4, h5⟩ := open_agg6 Tryz.underlying26 (by kernel_rfl) cellsOf_spec hv h
  obtain ⟨l1, a1, c1, rfl, r1, n1⟩ := int_row h0
  obtain ⟨q, e1, _, _⟩ := DataW.trod_int Tryz.underlying3 h1
  obtain ⟨l2, a2, c2, rfl, r2, m2, n2⟩ := str_row h2
  obtain ⟨c, e3, _⟩ := DataW.trod_bool Tryz.underlying4 h3
  obtain ⟨x, e4, _, _⟩ := DataW.trod_int Tryz.underlying3 h4
  obtain ⟨z, e5, _, _⟩ := DataW.trod_int Tryz.underlying3 h5
  obtain rfl : v1 = .int .i64 q := by simpa using e1
  obtain rfl : v3 = .bool c := by simpa using e3
  obtain rfl : v4 = .int .i64 x := by simpa using e4
  obtain rfl : v5 = .int .i64 z := by simpa using e5
  exact ⟨⟨l1, q, l2, c, x, z⟩, a1, a2, c1, c2, rfl, r1, r2, (fun a ha => hw _ (by
    simp only [DataW.weights, Tryz.underlying26, List.map_cons, List.map_nil, DataW.weightsEach, List.mem_append]
    exact .inr (.inr (.inl (m2 a ha))))), n1, n2⟩
end Go.Proofs.YtahmhakdpmcdoaaGreatDoor
