/- Contracts of package header: Find, Value. -/
import Derived.Test.YtjgbcfecgbkefaaDoorHdrE
namespace Go.Proofs.YtjgbcfecgbkefaaDoor
open Go Go.RowKit

/-- A slice of fields: what its cells hold. -/
def rowF (W : World) (v : Value) (fs : List Fld) : Prop :=
  ∃ ao cap, v = .slice ao fs.length cap ∧ fs.length ≤ cap ∧ cap ≤ maxLen ∧ (fs = [] ∨ ∃ g, ao = some ⟨g, 0, none⟩ ∧ g < W.heap.size ∧
    ∀ i, (h : i < fs.length) → W.cell? ⟨g, i * 4, none⟩ = some (.string ⟨fs[i].nm.toArray⟩) ∧ W.cell? ⟨g, i * 4 + 1, none⟩ = some (.int .i64 (fs[i].f : Int)) ∧ W.cell? ⟨g, i * 4 + 2, none⟩ = some (.int .i64 (fs[i].b : Int)) ∧ W.cell? ⟨g, i * 4 + 3, none⟩ = some (.int .i64 (fs[i].t : Int)))
theorem rowF.below {W W' : World} {v : Value} {fs : List Fld} (h : rowF W v fs) (hb : Below W.heap.size W W') : rowF W' v fs := by
  obtain ⟨ao, cap, e, h1, h2, h3⟩ := h
  refine ⟨ao, cap, e, h1, h2, h3.imp id ?_⟩
  rintro ⟨g, e, hg, hc⟩
  refine ⟨g, e, Nat.lt_of_lt_of_le hg hb.size, fun i hi => ?_⟩
  obtain ⟨c0, c1, c2, c3⟩ := hc i hi
  exact ⟨(hb.cell (p := ⟨g, i * 4, none⟩) hg).trans c0, (hb.cell (p := ⟨g, i * 4 + 1, none⟩) hg).trans c1, (hb.cell (p := ⟨g, i * 4 + 2, none⟩) hg).trans c2, (hb.cell (p := ⟨g, i * 4 + 3, none⟩) hg).trans c3⟩
theorem fldCells_at (fs : List Fld) (i : Nat) (h : i < fs.length) : (fldCells fs)[i * 4]? = some (.string ⟨fs[i].nm.toArray⟩) ∧ (fldCells fs)[i * 4 + 1]? = some (.int .i64 (fs[i].f : Int)) ∧ (fldCells fs)[i * 4 + 2]? = some (.int .i64 (fs[i].b : Int)) ∧ (fldCells fs)[i * 4 + 3]? = some (.int .i64 (fs[i].t : Int)) := by
  induction fs generalizing i with
  | nil => simp at h
  | cons x r ih =>
    have e : fldCells (x :: r) = fldC x ++ fldCells r := by simp [fldCells]
    rw [e]
    cases i with
    | zero => simp [fldC]
    | succ i =>
      have := ih i (by simpa using h)
      simp only [List.getElem_cons_succ]
      rw [List.getElem?_append_right (by simp [fldC]; omega), List.getElem?_append_right (by simp [fldC]; omega), List.getElem?_append_right (by simp [fldC]; omega), List.getElem?_append_right (by simp [fldC]; omega)]
      simp only [fldC, List.length_cons, List.length_nil]
      rw [show (i + 1) * 4 - (0 + 1 + 1 + 1 + 1) = i * 4 by omega, show (i + 1) * 4 + 1 - (0 + 1 + 1 + 1 + 1) = i * 4 + 1 by omega, show (i + 1) * 4 + 2 - (0 + 1 + 1 + 1 + 1) = i * 4 + 2 by omega, show (i + 1) * 4 + 3 - (0 + 1 + 1 + 1 + 1) = i * 4 + 3 by omega]
      exact this
theorem rowF_owned {w : World} {base : Nat} {e : TypeId} {v : Value} {fs : List Fld} (h : w.ownsRow base e 4 v fs.length (fldCells fs)) : rowF w v fs := by
  rcases h.2 with ⟨rfl, h0⟩ | ⟨g, cap, cur, rfl, _, hh, hc, hm, hs, ht⟩
  · obtain rfl : fs = [] := List.eq_nil_of_length_eq_zero h0
    exact ⟨none, 0, rfl, Nat.le_refl _, Nat.zero_le _, .inl rfl⟩
  · refine ⟨_, cap, rfl, hc, hm, .inr ⟨g, rfl, (Array.getElem?_eq_some_iff.1 hh).1, fun i hi => ?_⟩⟩
    obtain ⟨c0, c1, c2, c3⟩ := fldCells_at fs i hi
    rw [← ht] at c0 c1 c2 c3
    rw [List.getElem?_take, if_pos (by omega)] at c0 c1 c2 c3
    simp only [World.cell?, hh]
    exact ⟨by simpa using c0, by simpa using c1, by simpa using c2, by simpa using c3⟩
theorem rowF.at {W : World} {v : Value} {fs : List Fld} (h : rowF W v fs) : ∃ ao cap, v = .slice ao fs.length cap ∧ fs.length ≤ cap ∧ cap ≤ maxLen ∧
    ∀ i, (h : i < fs.length) → ∃ g, ao = some ⟨g, 0, none⟩ ∧ g < W.heap.size ∧ W.cell? ⟨g, i * 4, none⟩ = some (.string ⟨fs[i].nm.toArray⟩) ∧ W.cell? ⟨g, i * 4 + 1, none⟩ = some (.int .i64 (fs[i].f : Int)) ∧ W.cell? ⟨g, i * 4 + 2, none⟩ = some (.int .i64 (fs[i].b : Int)) ∧ W.cell? ⟨g, i * 4 + 3, none⟩ = some (.int .i64 (fs[i].t : Int)) := by
  obtain ⟨ao, cap, e, h1, h2, h3⟩ := h
  refine ⟨ao, cap, e, h1, h2, fun i hi => ?_⟩
  rcases h3 with rfl | ⟨g, e, hg, hc⟩
  · simp at hi
  · exact ⟨g, e, hg, hc i hi⟩

/-- Two names are the same, but for small and capital letters. -/
def sameB (a b : List UInt8) : Bool := decide (foldS a = foldS b)
/-- Which field is the first of a name. -/
def fI (nm : List UInt8) (fs : List Fld) : Nat := fs.findIdx (fun x => sameB x.nm nm)
/-- Names of fields that aren't too long. -/
def shortF (fs : List Fld) : Prop := ∀ x ∈ fs, x.nm.length ≤ 1048576

set_option maxHeartbeats 1000000 in
theorem find1_any (x : Fld) (B : Nat) (nm : ByteArray) (w : World) (hc : w.cell? ⟨B, 0, none⟩ = some (.string nm)) (hs : x.nm.length ≤ 1048576) :
    Calls Tryd.prog 35 #[.agg #[.string ⟨x.nm.toArray⟩, .int .i64 (x.f : Int), .int .i64 (x.b : Int), .int .i64 (x.t : Int)], .pointer (some ⟨B, 0, none⟩)] w fun e w' => e = .returned (.bool (sameB x.nm nm.data.toList)) ∧ Below w.heap.size w w' := by
  have hB : B < w.heap.size := World.block_lt_of_cell? _ _ hc
  obtain ⟨A, hA⟩ : ∃ A : ByteArray, A = ⟨x.nm.toArray⟩ := ⟨_, rfl⟩
  have hAl : A.data.toList = x.nm := by rw [hA]
  have HSm := Lib.hid (fun W => same_any A nm W (by rw [← len_toList, hAl]; omega))
  rw [hAl] at HSm
  obtain ⟨z, hz⟩ : ∃ z, z = sameB x.nm nm.data.toList := ⟨_, rfl⟩
  have hz' : decide (foldS x.nm = foldS nm.data.toList) = z := hz.symm
  rw [hz'] at HSm
  rw [← hA, ← hz]
  clear hA hAl hz hz'
  go_enter Tryd.func35, Tryd.ntmps35
  go_wp2_with fail
  with_reducible refine (HSm.out _).mono ?_
  rintro e w1 ⟨rfl, k, rfl⟩
  go_wp2_with fail
  go_ret
  exact ⟨rfl, ((Below.refl _ _).alloc (Nat.le_refl _) _).trans ((below_drewN' _).mono (by simp))⟩

theorem fI_hit {nm : List UInt8} {fs : List Fld} {i : Nat} (h1 : i ≤ fI nm fs) (h : i < fs.length) (he : sameB fs[i].nm nm = true) : fI nm fs = i := by
  rcases Nat.lt_or_ge i (fI nm fs) with h2 | h2
  · have := List.not_of_lt_findIdx (p := fun x : Fld => sameB x.nm nm) h2
    simp [he] at this
  · omega
theorem fI_step {nm : List UInt8} {fs : List Fld} {i : Nat} (h1 : i ≤ fI nm fs) (h : i < fs.length) (hne : sameB fs[i].nm nm = false) : i + 1 ≤ fI nm fs := by
  rcases Nat.lt_or_ge i (fI nm fs) with h2 | h2
  · exact h2
  · have e : fI nm fs = i := by omega
    exfalso
    have h3 := List.findIdx_getElem (p := fun x : Fld => sameB x.nm nm) (xs := fs) (w := by show fI nm fs < _; omega)
    have h4 : (fun x : Fld => sameB x.nm nm) fs[i] = true := by
      have : fs.findIdx (fun x : Fld => sameB x.nm nm) = i := e
      simp only [this] at h3
      exact h3
    simp only [hne] at h4
    cases h4
theorem fI_le (nm : List UInt8) (fs : List Fld) : fI nm fs ≤ fs.length := List.findIdx_le_length
def idxV (nm : List UInt8) (fs : List Fld) : Int := if fI nm fs < fs.length then (fI nm fs : Int) else -1
set_option maxHeartbeats 1000000 in
theorem indexF_any (v : Value) (fs : List Fld) (B : Nat) (nm : ByteArray) (w : World) (hv : rowF w v fs) (hc : w.cell? ⟨B, 0, none⟩ = some (.string nm)) (hs : shortF fs) :
    Calls Tryd.prog 34 #[v, .func (.func 35) #[] #[.pointer (some ⟨B, 0, none⟩)]] w fun e w' => e = .returned (.int .i64 (idxV nm.data.toList fs)) ∧ Below w.heap.size w w' := by
  obtain ⟨ao, cap, rfl, hca, hm, hcell⟩ := hv.at
  have HC := Lib.hid hcell
  have hB : B < w.heap.size := World.block_lt_of_cell? _ _ hc
  have HN := Lib.hid hc
  unfold maxLen at hm
  clear hv hcell hc
  go_enter Tryd.func34, Tryd.ntmps34
  go_wp2_with fail
  go_loopg [8] fs.length (fun q xi wr => ∃ i : Nat, i ≤ fs.length ∧ q = fs.length - i ∧ xi = .int .i64 i ∧ Hid (i ≤ fI nm.data.toList fs) ∧ Hid (Below w.heap.size w wr))
  case atStart => exact ⟨0, by omega, by omega, rfl, Nat.zero_le _, Below.refl _ _⟩
  case round =>
    obtain ⟨i, hi, rfl, rfl, HE, HB⟩ := hrel
    by_cases hlt : i < fs.length
    · obtain ⟨g, rfl, hg, c0, c1, c2, c3⟩ := HC.out i hlt
      have hsx := hs fs[i] (List.getElem_mem hlt)
      have HH := Lib.hid (fun h => fI_hit HE.out hlt h)
      have HT := Lib.hid (fun h => fI_step HE.out hlt h)
      obtain ⟨x, hx⟩ : ∃ x, x = fs[i] := ⟨_, rfl⟩
      rw [← hx] at c0 c1 c2 c3 HH HT hsx
      replace c0 := (HB.out.cell (p := ⟨g, i * 4, none⟩) hg).trans c0
      replace c1 := (HB.out.cell (p := ⟨g, i * 4 + 1, none⟩) hg).trans c1
      replace c2 := (HB.out.cell (p := ⟨g, i * 4 + 2, none⟩) hg).trans c2
      replace c3 := (HB.out.cell (p := ⟨g, i * 4 + 3, none⟩) hg).trans c3
      have HF1 := Lib.hid (find1_any x B nm wr ((HB.out.cell (p := ⟨B, 0, none⟩) hB).trans HN.out) hsx)
      clear hx
      go_wp2_with fail
      with_reducible refine HF1.out.mono ?_
      rintro e w1 ⟨rfl, hb1⟩
      have HB1 := Lib.hid (HB.out.trans (hb1.mono HB.out.size))
      clear hb1 HF1 HB
      rcases Bool.eq_false_or_eq_true (sameB x.nm nm.data.toList) with hb | hb
      · have HR : Hid (idxV nm.data.toList fs = i) := by
          unfold Hid idxV
          rw [HH.out hb, if_pos hlt]
        rw [hb]
        go_wp2_with fail
        go_ret
        exact ⟨ret_int HR.out.symm, HB1.out⟩
      · have HR := Lib.hid (HT.out hb)
        rw [hb]
        go_wp2_with fail
        go_roundg (fs.length - (i + 1))
        case measure => omega
        case rel => exact ⟨i + 1, by omega, rfl, by go_num, HR, HB1⟩
    · obtain rfl : i = fs.length := by omega
      have HR : Hid (idxV nm.data.toList fs = -1) := by
        unfold Hid idxV
        rw [if_neg (by have := HE.out; omega)]
      go_wp2_with fail
      go_ret
      exact ⟨ret_int HR.out.symm, HB.out⟩
set_option maxHeartbeats 1000000 in
theorem find_yes (v : Value) (fs : List Fld) (nm : ByteArray) (k : Nat) (x : Fld) (w : World) (hv : rowF w v fs) (hs : shortF fs) (hk : k = fI nm.data.toList fs) (h : k < fs.length) (hx : fs[k] = x) :
    Calls Tryd.prog 23 #[v, .string nm] w fun e w' => e = .returned (.tuple #[.agg #[.string ⟨x.nm.toArray⟩, .int .i64 (x.f : Int), .int .i64 (x.b : Int), .int .i64 (x.t : Int)], .bool true]) ∧ Below w.heap.size w w' := by
  have HV := Lib.hid hv
  have HI := Lib.hid (fun W h hc => indexF_any v fs w.heap.size nm W h hc hs)
  have e1 : idxV nm.data.toList fs = k := by unfold idxV; rw [← hk, if_pos h]
  rw [e1] at HI
  clear e1 hk hv
  obtain ⟨ao, cap, rfl, hca, hm, _⟩ := HV.out.at
  unfold maxLen at hm
  go_enter Tryd.func23, Tryd.ntmps23
  go_wp2_with fail
  with_reducible refine (HI.out _ ?h1 ?h2).mono ?_
  case h1 => exact HV.out.below (((Below.refl _ _).alloc (Nat.le_refl _) _).alloc (by simp) _)
  case h2 => simp
  rintro e w1 ⟨rfl, hb1⟩
  have HB1 : Hid (Below w.heap.size w w1) := (((Below.refl _ _).alloc (Nat.le_refl _) _).alloc (by simp) _).trans (hb1.mono (by simp; omega))
  obtain ⟨hc, hf⟩ := bcell hb1
  have HR1 := HV.out.below HB1.out
  obtain ⟨_, _, e0, _, _, hcell⟩ := HR1.at
  cases e0
  obtain ⟨g, rfl, hg, c0, c1, c2, c3⟩ := hcell k h
  rw [hx] at c0 c1 c2 c3
  clear hb1 HR1 hcell HI HV hx
  go_wp2_with fail
  refine bodyPost_ret (v := .tuple #[.agg #[.string ⟨x.nm.toArray⟩, .int .i64 (x.f : Int), .int .i64 (x.b : Int), .int .i64 (x.t : Int)], .bool true]) (by simp [results, Tryd.results23, go_sem, hc]) rfl ⟨rfl, ?_⟩
  exact ((((HB1.out.setCell (by simp) _).setCell (by simp) _).setCell (by simp) _).setCell (by simp) _)
set_option maxHeartbeats 1000000 in
theorem find_no (v : Value) (fs : List Fld) (nm : ByteArray) (w : World) (hv : rowF w v fs) (hs : shortF fs) (h : ¬ fI nm.data.toList fs < fs.length) :
    Calls Tryd.prog 23 #[v, .string nm] w fun e w' => e = .returned (.tuple #[.agg #[.string ⟨#[]⟩, .int .i64 0, .int .i64 0, .int .i64 0], .bool false]) ∧ Below w.heap.size w w' := by
  have HV := Lib.hid hv
  have HI := Lib.hid (fun W h hc => indexF_any v fs w.heap.size nm W h hc hs)
  have e1 : idxV nm.data.toList fs = -1 := by unfold idxV; rw [if_neg h]
  rw [e1] at HI
  clear e1 hv
  go_enter Tryd.func23, Tryd.ntmps23
  go_wp2_with fail
  with_reducible refine (HI.out _ ?h1 ?h2).mono ?_
  case h1 => exact HV.out.below (((Below.refl _ _).alloc (Nat.le_refl _) _).alloc (by simp) _)
  case h2 => simp
  rintro e w1 ⟨rfl, hb1⟩
  have HB1 : Hid (Below w.heap.size w w1) := (((Below.refl _ _).alloc (Nat.le_refl _) _).alloc (by simp) _).trans (hb1.mono (by simp; omega))
  obtain ⟨hc, hf⟩ := bcell hb1
  clear hb1 HI HV
  go_wp2_with fail
  refine bodyPost_ret (v := .tuple #[.agg #[.string ⟨#[]⟩, .int .i64 0, .int .i64 0, .int .i64 0], .bool false]) (by simp [results, Tryd.results23, go_sem, hc]) rfl ⟨rfl, ?_⟩
  exact ((((HB1.out.setCell (by simp) _).setCell (by simp) _).setCell (by simp) _).setCell (by simp) _)
end Go.Proofs.YtjgbcfecgbkefaaDoor
