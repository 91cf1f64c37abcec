/- Contracts: Empty, of package lines and of the document. -/
import Derived.Test.YtjgbcfecgbkefaaDoorLinesE
namespace Go.Proofs.YtjgbcfecgbkefaaDoor
open Go Go.RowKit

/-- A slice of lines: what its cells hold. -/
def rowLn (W : World) (v : Value) (ls : List Ln) : Prop :=
  ∃ ao cap, v = .slice ao ls.length cap ∧ ls.length ≤ cap ∧ cap ≤ maxLen ∧ (ls = [] ∨ ∃ g, ao = some ⟨g, 0, none⟩ ∧ g < W.heap.size ∧
    ∀ i, (h : i < ls.length) → W.cell? ⟨g, i * 3, none⟩ = some (.int .i64 (ls[i].f : Int)) ∧ W.cell? ⟨g, i * 3 + 1, none⟩ = some (.int .i64 (ls[i].t : Int)) ∧ W.cell? ⟨g, i * 3 + 2, none⟩ = some (.int .i64 (ls[i].n : Int)))
theorem rowLn.below {W W' : World} {v : Value} {ls : List Ln} (h : rowLn W v ls) (hb : Below W.heap.size W W') : rowLn W' v ls := by
  obtain ⟨ao, cap, e, h1, h2, h3⟩ := h
  refine ⟨ao, cap, e, h1, h2, h3.imp id ?_⟩
  rintro ⟨g, e, hg, hc⟩
  refine ⟨g, e, Nat.lt_of_lt_of_le hg hb.size, fun i hi => ?_⟩
  obtain ⟨c0, c1, c2⟩ := hc i hi
  exact ⟨(hb.cell (p := ⟨g, i * 3, none⟩) hg).trans c0, (hb.cell (p := ⟨g, i * 3 + 1, none⟩) hg).trans c1, (hb.cell (p := ⟨g, i * 3 + 2, none⟩) hg).trans c2⟩
theorem lnCells_at (ls : List Ln) (i : Nat) (h : i < ls.length) : (lnCells ls)[i * 3]? = some (.int .i64 (ls[i].f : Int)) ∧ (lnCells ls)[i * 3 + 1]? = some (.int .i64 (ls[i].t : Int)) ∧ (lnCells ls)[i * 3 + 2]? = some (.int .i64 (ls[i].n : Int)) := by
  induction ls generalizing i with
  | nil => simp at h
  | cons x r ih =>
    have e : lnCells (x :: r) = lnC x ++ lnCells r := by simp [lnCells]
    rw [e]
    cases i with
    | zero => simp [lnC]
    | succ i =>
      have := ih i (by simpa using h)
      simp only [List.getElem_cons_succ]
      rw [List.getElem?_append_right (by simp [lnC]; omega), List.getElem?_append_right (by simp [lnC]; omega), List.getElem?_append_right (by simp [lnC]; omega)]
      simp only [lnC, List.length_cons, List.length_nil]
      rw [show (i + 1) * 3 - (0 + 1 + 1 + 1) = i * 3 by omega, show (i + 1) * 3 + 1 - (0 + 1 + 1 + 1) = i * 3 + 1 by omega, show (i + 1) * 3 + 2 - (0 + 1 + 1 + 1) = i * 3 + 2 by omega]
      exact this
theorem rowLn_owned {w : World} {base : Nat} {e : TypeId} {v : Value} {ls : List Ln} (h : w.ownsRow base e 3 v ls.length (lnCells ls)) : rowLn w v ls := by
  rcases h.2 with ⟨rfl, h0⟩ | ⟨g, cap, cur, rfl, _, hh, hc, hm, hs, ht⟩
  · obtain rfl : ls = [] := List.eq_nil_of_length_eq_zero h0
    exact ⟨none, 0, rfl, Nat.le_refl _, Nat.zero_le _, .inl rfl⟩
  · refine ⟨_, cap, rfl, hc, hm, .inr ⟨g, rfl, (Array.getElem?_eq_some_iff.1 hh).1, fun i hi => ?_⟩⟩
    obtain ⟨c0, c1, c2⟩ := lnCells_at ls i hi
    rw [← ht] at c0 c1 c2
    rw [List.getElem?_take, if_pos (by omega)] at c0 c1 c2
    simp only [World.cell?, hh]
    exact ⟨by simpa using c0, by simpa using c1, by simpa using c2⟩
theorem rowLn.at {W : World} {v : Value} {ls : List Ln} (h : rowLn W v ls) : ∃ ao cap, v = .slice ao ls.length cap ∧ ls.length ≤ cap ∧ cap ≤ maxLen ∧
    ∀ i, (h : i < ls.length) → ∃ g, ao = some ⟨g, 0, none⟩ ∧ g < W.heap.size ∧ W.cell? ⟨g, i * 3, none⟩ = some (.int .i64 (ls[i].f : Int)) ∧ W.cell? ⟨g, i * 3 + 1, none⟩ = some (.int .i64 (ls[i].t : Int)) ∧ W.cell? ⟨g, i * 3 + 2, none⟩ = some (.int .i64 (ls[i].n : Int)) := by
  obtain ⟨ao, cap, e, h1, h2, h3⟩ := h
  refine ⟨ao, cap, e, h1, h2, fun i hi => ?_⟩
  rcases h3 with rfl | ⟨g, e, hg, hc⟩
  · simp at hi
  · exact ⟨g, e, hg, hc i hi⟩

/-- Which line is the first without text. -/
def eI (ls : List Ln) : Nat := ls.findIdx (fun x => x.f == x.t)
def emptyS (ls : List Ln) : Int := if eI ls < ls.length then (eI ls : Int) else -1
theorem eI_step {ls : List Ln} {i : Nat} (h1 : i ≤ eI ls) (h : i < ls.length) (hne : ¬ ls[i].f = ls[i].t) : i + 1 ≤ eI ls := by
  rcases Nat.lt_or_ge i (eI ls) with h2 | h2
  · exact h2
  · have e : eI ls = i := by omega
    exfalso
    have h3 := List.findIdx_getElem (p := fun x : Ln => x.f == x.t) (xs := ls) (w := by show eI ls < _; omega)
    have h4 : (fun x : Ln => x.f == x.t) ls[i] = true := by
      have : ls.findIdx (fun x : Ln => x.f == x.t) = i := e
      simp only [this] at h3
      exact h3
    exact hne (by simpa using h4)
theorem eI_hit {ls : List Ln} {i : Nat} (h1 : i ≤ eI ls) (h : i < ls.length) (he : ls[i].f = ls[i].t) : emptyS ls = i := by
  have e : eI ls = i := by
    rcases Nat.lt_or_ge i (eI ls) with h2 | h2
    · have := List.not_of_lt_findIdx (p := fun x : Ln => x.f == x.t) h2
      simp [he] at this
    · omega
  unfold emptyS
  rw [e, if_pos h]
theorem eI_miss {ls : List Ln} (h1 : ls.length ≤ eI ls) : emptyS ls = -1 := by
  unfold emptyS
  rw [if_neg (by omega)]

set_option maxHeartbeats 1000000 in
theorem empty_any (v : Value) (ls : List Ln) (w : World) (hv : rowLn w v ls) :
    Calls Tryd.prog 24 #[v] w fun e w' => e = .returned (.int .i64 (emptyS ls)) ∧ Below w.heap.size w w' := by
  obtain ⟨ao, cap, rfl, hc, hm, hcell⟩ := hv.at
  have HC := Lib.hid hcell
  clear hv hcell
  unfold maxLen at hm
  go_enter Tryd.func24, Tryd.ntmps24
  go_wp2
  go_loopg [7] ls.length (fun q x7 wr => ∃ i : Nat, i ≤ ls.length ∧ q = ls.length - i ∧ x7 = .int .i64 i ∧ Hid (i ≤ eI ls) ∧ Hid (Below w.heap.size w wr))
  case atStart => exact ⟨0, by omega, by omega, rfl, Nat.zero_le _, Below.refl _ _⟩
  case round =>
    obtain ⟨i, hi, rfl, rfl, HE, HB⟩ := hrel
    by_cases hlt : i < ls.length
    · obtain ⟨g, rfl, hg, c0, c1, c2⟩ := HC.out i hlt
      have HS := Lib.hid (fun h => eI_step HE.out hlt h)
      have HT := Lib.hid (fun h => eI_hit HE.out hlt h)
      obtain ⟨x, hx⟩ : ∃ x, x = ls[i] := ⟨_, rfl⟩
      rw [← hx] at c0 c1 c2 HS HT
      replace c0 := (HB.out.cell (p := ⟨g, i * 3, none⟩) hg).trans c0
      replace c1 := (HB.out.cell (p := ⟨g, i * 3 + 1, none⟩) hg).trans c1
      replace c2 := (HB.out.cell (p := ⟨g, i * 3 + 2, none⟩) hg).trans c2
      have HBa : Hid (Below w.heap.size w (wr.alloc (.cells #[.int .i64 (x.f : Int), .int .i64 (x.t : Int), .int .i64 (x.n : Int)] 43))) := HB.out.alloc HB.out.size _
      clear hx
      by_cases heq : x.f = x.t
      · have HR := Lib.hid (HT.out heq)
        have hb : ((x.f : Int) == (x.t : Int)) = true := beq_yes (by omega)
        clear heq
        go_wp2
        go_ret
        exact ⟨ret_int HR.out.symm, HBa.out⟩
      · have HR := Lib.hid (HS.out heq)
        have hb : ((x.f : Int) == (x.t : Int)) = false := beq_no (by omega)
        go_wp2
        go_roundg (ls.length - (i + 1))
        case measure => omega
        case rel => exact ⟨i + 1, by omega, rfl, by go_num, HR.out, HBa.out⟩
    · obtain rfl : i = ls.length := by omega
      have HR := Lib.hid (eI_miss HE.out)
      go_wp2
      go_ret
      exact ⟨ret_int HR.out.symm, HB.out⟩

end Go.Proofs.YtjgbcfecgbkefaaDoor
