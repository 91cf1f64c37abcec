/- Addresses that were read; the example that every statement asks first. -/
import Derived.Test.YtjlcphofkepajaaGreatAdO
namespace Go.Proofs.YtjlcphofkepajaaGreat
open Go Go.RowKit

/-- A row of addresses: what its cells hold. -/
def rowAdr (W : World) (v : Value) (l : List Adr) : Prop :=
  ∃ ao cap, v = .slice ao l.length cap ∧ l.length ≤ cap ∧ cap ≤ maxLen ∧ (l = [] ∨ ∃ g, ao = some ⟨g, 0, none⟩ ∧ g < W.heap.size ∧
    ∀ i, (h : i < l.length) → W.cell? ⟨g, i * 4, none⟩ = some (.int .i64 (l[i].kind : Int)) ∧ W.cell? ⟨g, i * 4 + 1, none⟩ = some (.string ⟨l[i].name.toArray⟩) ∧ W.cell? ⟨g, i * 4 + 2, none⟩ = some (.string ⟨l[i].loc.toArray⟩) ∧ W.cell? ⟨g, i * 4 + 3, none⟩ = some (.string ⟨l[i].host.toArray⟩))
theorem rowAdr.below {W W' : World} {v : Value} {l : List Adr} (h : rowAdr W v l) (hb : Below W.heap.size W W') : rowAdr W' v l := by
  obtain ⟨ao, cap, e, h1, h2, h3⟩ := h
  refine ⟨ao, cap, e, h1, h2, h3.imp id ?_⟩
  rintro ⟨g, e, hg, hc⟩
  refine ⟨g, e, Nat.lt_of_lt_of_le hg hb.size, fun i hi => ?_⟩
  obtain ⟨c0, c1, c2, c3⟩ := hc i hi
  exact ⟨(hb.cell (p := ⟨g, i * 4, none⟩) hg).trans c0, (hb.cell (p := ⟨g, i * 4 + 1, none⟩) hg).trans c1, (hb.cell (p := ⟨g, i * 4 + 2, none⟩) hg).trans c2, (hb.cell (p := ⟨g, i * 4 + 3, none⟩) hg).trans c3⟩
theorem adrCells_at (l : List Adr) (i : Nat) (h : i < l.length) : (adrCells l)[i * 4]? = some (.int .i64 (l[i].kind : Int)) ∧ (adrCells l)[i * 4 + 1]? = some (.string ⟨l[i].name.toArray⟩) ∧ (adrCells l)[i * 4 + 2]? = some (.string ⟨l[i].loc.toArray⟩) ∧ (adrCells l)[i * 4 + 3]? = some (.string ⟨l[i].host.toArray⟩) := by
  induction l generalizing i with
  | nil => simp at h
  | cons x r ih =>
    have e : adrCells (x :: r) = adrC x ++ adrCells r := by simp [adrCells]
    rw [e]
    cases i with
    | zero => simp [adrC]
    | succ i =>
      have := ih i (by simpa using h)
      simp only [List.getElem_cons_succ]
      rw [List.getElem?_append_right (by simp [adrC]; omega), List.getElem?_append_right (by simp [adrC]; omega), List.getElem?_append_right (by simp [adrC]; omega), List.getElem?_append_right (by simp [adrC]; omega)]
      simp only [adrC, List.length_cons, List.length_nil]
      rw [show (i + 1) * 4 - (0 + 1 + 1 + 1 + 1) = i * 4 by omega, show (i + 1) * 4 + 1 - (0 + 1 + 1 + 1 + 1) = i * 4 + 1 by omega, show (i + 1) * 4 + 2 - (0 + 1 + 1 + 1 + 1) = i * 4 + 2 by omega, show (i + 1) * 4 + 3 - (0 + 1 + 1 + 1 + 1) = i * 4 + 3 by omega]
      exact this
theorem rowAdr_owned {w : World} {base : Nat} {e : TypeId} {v : Value} {l : List Adr} (h : w.ownsRow base e 4 v l.length (adrCells l)) : rowAdr w v l := by
  rcases h.2 with ⟨rfl, h0⟩ | ⟨g, cap, cur, rfl, _, hh, hc, hm, hs, ht⟩
  · obtain rfl : l = [] := List.eq_nil_of_length_eq_zero h0
    exact ⟨none, 0, rfl, Nat.le_refl _, Nat.zero_le _, .inl rfl⟩
  · refine ⟨_, cap, rfl, hc, hm, .inr ⟨g, rfl, (Array.getElem?_eq_some_iff.1 hh).1, fun i hi => ?_⟩⟩
    obtain ⟨c0, c1, c2, c3⟩ := adrCells_at l i hi
    rw [← ht] at c0 c1 c2 c3
    rw [List.getElem?_take, if_pos (by omega)] at c0 c1 c2 c3
    simp only [World.cell?, hh]
    exact ⟨by simpa using c0, by simpa using c1, by simpa using c2, by simpa using c3⟩
theorem rowAdr.at {W : World} {v : Value} {l : List Adr} (h : rowAdr W v l) : ∃ ao cap, v = .slice ao l.length cap ∧ l.length ≤ cap ∧ cap ≤ maxLen ∧
    ∀ i, (h : i < l.length) → ∃ g, ao = some ⟨g, 0, none⟩ ∧ g < W.heap.size ∧ W.cell? ⟨g, i * 4, none⟩ = some (.int .i64 (l[i].kind : Int)) ∧ W.cell? ⟨g, i * 4 + 1, none⟩ = some (.string ⟨l[i].name.toArray⟩) ∧ W.cell? ⟨g, i * 4 + 2, none⟩ = some (.string ⟨l[i].loc.toArray⟩) ∧ W.cell? ⟨g, i * 4 + 3, none⟩ = some (.string ⟨l[i].host.toArray⟩) := by
  obtain ⟨ao, cap, e, h1, h2, h3⟩ := h
  refine ⟨ao, cap, e, h1, h2, fun i hi => ?_⟩
  rcases h3 with rfl | ⟨g, e, hg, hc⟩
  · simp at hi
  · exact ⟨g, e, hg, hc i hi⟩
theorem list_some (s : ByteArray) (l : List Adr) (w : World) (hl : s.size ≤ 1000000000) (h : listA s.data.toList = some l) :
    Calls Tryz.prog 8 #[.string s] w fun e w' => ∃ v, e = .returned (.tuple #[v, .bool true]) ∧ rowAdr w' v l ∧ Below w.heap.size w w' :=
  (list_any s w hl).mono fun e w' ⟨v, b, he, hi, hb⟩ => by
    rw [h] at hi
    obtain ⟨rfl, hi⟩ := hi
    exact ⟨v, he, rowAdr_owned hi, hb⟩
theorem list_none (s : ByteArray) (w : World) (hl : s.size ≤ 1000000000) (h : listA s.data.toList = none) :
    Calls Tryz.prog 8 #[.string s] w fun e w' => e = .returned (.tuple #[.slice none 0 0, .bool false]) ∧ Below w.heap.size w w' :=
  (list_any s w hl).mono fun e w' ⟨v, b, he, hi, hb⟩ => by
    rw [h] at hi
    obtain ⟨rfl, rfl⟩ := hi
    exact ⟨he, hb⟩
theorem ex_one : listA [65, 32, 66, 32, 60, 99, 64, 100, 62, 44, 32, 101, 64, 102, 44, 32, 103, 58, 32, 104, 59] = some [⟨0, [65, 32, 66], [99], [100]⟩, ⟨0, [], [101], [102]⟩, ⟨1, [103], [], []⟩, ⟨0, [], [104], []⟩, ⟨2, [], [], []⟩] := by kernel_rfl
theorem ex_two : listA [97, 64] = none := by kernel_rfl
set_option maxRecDepth 100000 in
set_option maxHeartbeats 2000000 in
theorem awake_any10 (w : World) : Calls Tryz.prog 5 #[] w fun e w' => e = .returned (.bool true) ∧ Below w.heap.size w w' := by
  have H1 := Lib.hid (fun W => list_some ⟨#[65, 32, 66, 32, 60, 99, 64, 100, 62, 44, 32, 101, 64, 102, 44, 32, 103, 58, 32, 104, 59]⟩ _ W (by decide) ex_one)
  have H2 := Lib.hid (fun W => list_none ⟨#[97, 64]⟩ W (by decide) ex_two)
  go_enter Tryz.func5, Tryz.ntmps5
  go_wp2_with fail
  with_reducible refine (H1.out _).mono ?_
  rintro e w1 ⟨v, rfl, hr, hb1⟩
  have HR := Lib.hid hr
  obtain ⟨ao, cap, rfl, hc1, hc2, _⟩ := hr.at
  have HB1 := Lib.hid hb1
  clear hb1 hr
  go_wp2_with fail
  with_reducible refine (H2.out _).mono ?_
  rintro e w2 ⟨rfl, hb2⟩
  obtain ⟨ao', cap', he, _, _, hcells⟩ := (HR.out.below hb2).at
  cases he
  obtain ⟨g, rfl, hg, c00, c01, c02, c03⟩ := hcells 0 (by decide)
  obtain ⟨g', e1, _, _, _, c12, _⟩ := hcells 1 (by decide)
  cases e1
  obtain ⟨g', e1, _, c20, _⟩ := hcells 2 (by decide)
  cases e1
  obtain ⟨g', e1, _, c40, _⟩ := hcells 4 (by decide)
  cases e1
  have HB2 := Lib.hid (HB1.out.trans (hb2.mono HB1.out.size))
  have d01 : w2.cell? ⟨g, 1, none⟩ = some (.string ⟨#[65, 32, 66]⟩) := c01
  have d02 : w2.cell? ⟨g, 2, none⟩ = some (.string ⟨#[99]⟩) := c02
  have d03 : w2.cell? ⟨g, 3, none⟩ = some (.string ⟨#[100]⟩) := c03
  have d12 : w2.cell? ⟨g, 6, none⟩ = some (.string ⟨#[101]⟩) := c12
  have d20 : w2.cell? ⟨g, 8, none⟩ = some (.int .i64 1) := c20
  have d40 : w2.cell? ⟨g, 16, none⟩ = some (.int .i64 2) := c40
  clear hb2 hcells c00 c01 c02 c03 c12 c20 c40 HB1 HR
  go_wp2_with fail
  go_ret
  exact ⟨rfl, HB2.out⟩
end Go.Proofs.YtjlcphofkepajaaGreat
