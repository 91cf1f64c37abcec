/- Contracts of package header: Body. -/
import Derived.Test.YtkmgflnmffdhjaaGreatDoorGbHdrD
import Derived.Test.YtkmgflnmffdhjaaGreatDoorShelf3
namespace Go.Proofs.YtkmgflnmffdhjaaGreatDoor
open Go Go.RowKit

theorem builder_below {T e : TypeId} {B b : Nat} {bs : List Value} {w w' : World} (h : Lib.IsBuilderF T e B b bs w) (hb : Below w.heap.size w w') : Lib.IsBuilderF T e B b bs w' := by
  have key : ∀ p, Lib.BuilderAtF T e B b p bs w → Lib.BuilderAtF T e B b p bs w' := by
    intro p h
    have hlt := h.lt
    obtain ⟨hB, v, hbk, hown, hne⟩ := h
    exact ⟨hB, v, (hb.block b hlt).trans hbk, hown.kept (row := none) ⟨hb.1, hb.2, hb.3, hb.size, fun k hk _ => hb.block k hk⟩ (by cases v.ownBlock <;> simp), hne⟩
  exact h.imp (key _) (key _)
/-- A slice of lines, its block told: it lies above lo. -/
def rowIn (lo : Nat) (W : World) (v : Value) (ls : List Ln) : Prop :=
  ∃ ao cap, v = .slice ao ls.length cap ∧ ls.length ≤ cap ∧ cap ≤ maxLen ∧ (ls = [] ∨ ∃ g cur fz, ao = some ⟨g, 0, none⟩ ∧ lo < g ∧ W.heap[g]? = some (.cells cur 104 fz) ∧
    ∀ i, (h : i < ls.length) → cur[i * 3]? = some (.int .i64 (ls[i].f : Int)) ∧ cur[i * 3 + 1]? = some (.int .i64 (ls[i].t : Int)) ∧ cur[i * 3 + 2]? = some (.int .i64 (ls[i].n : Int)))
theorem rowIn_owned {w : World} {base lo : Nat} {v : Value} {ls : List Ln} (hlo : lo < base) (h : w.ownsRow base 104 3 v ls.length (lnCells ls)) : rowIn lo w v ls := by
  rcases h.2 with ⟨rfl, h0⟩ | ⟨g, cap, cur, rfl, hbg, hh, hc, hm, hs, ht⟩
  · obtain rfl : ls = [] := List.eq_nil_of_length_eq_zero h0
    exact ⟨none, 0, rfl, Nat.le_refl _, Nat.zero_le _, .inl rfl⟩
  · refine ⟨_, cap, rfl, hc, hm, .inr ⟨g, cur, _, rfl, by omega, hh, fun i hi => ?_⟩⟩
    obtain ⟨c0, c1, c2⟩ := lnCells_at ls i hi
    rw [← ht] at c0 c1 c2
    rw [List.getElem?_take, if_pos (by omega)] at c0 c1 c2
    exact ⟨by simpa using c0, by simpa using c1, by simpa using c2⟩
theorem rowIn.to {lo : Nat} {W W' : World} {v : Value} {ls : List Ln} (h : rowIn lo W v ls) (hk : ∀ g cur fz, lo < g → W.heap[g]? = some (.cells cur 104 fz) → W'.heap[g]? = some (.cells cur 104 fz)) : rowIn lo W' v ls := by
  obtain ⟨ao, cap, e, h1, h2, h3⟩ := h
  refine ⟨ao, cap, e, h1, h2, h3.imp id ?_⟩
  rintro ⟨g, cur, fz, e, hg, hh, hc⟩
  exact ⟨g, cur, fz, e, hg, hk g cur fz hg hh, hc⟩
theorem rowIn.below {lo : Nat} {W W' : World} {v : Value} {ls : List Ln} (h : rowIn lo W v ls) (hb : Below W.heap.size W W') : rowIn lo W' v ls :=
  h.to fun g _ _ _ hh => (hb.block g (Array.getElem?_eq_some_iff.1 hh).1).trans hh
theorem rowIn.others {lo b : Nat} {W W' : World} {v : Value} {ls : List Ln} (h : rowIn lo W v ls) (hlo : b ≤ lo) (hk : Lib.OthersKept 5 (some b) W W') : rowIn lo W' v ls :=
  h.to fun g _ _ hg hh => hk g _ hh (fun e => by cases e; omega) (fun c fz e => by cases e)
theorem rowIn.at {lo : Nat} {W : World} {v : Value} {ls : List Ln} (h : rowIn lo W v ls) : ∃ ao cap, v = .slice ao ls.length cap ∧ ls.length ≤ cap ∧ cap ≤ maxLen ∧
    ∀ i, (h : i < ls.length) → ∃ g, ao = some ⟨g, 0, none⟩ ∧ g < W.heap.size ∧ W.cell? ⟨g, i * 3, none⟩ = some (.int .i64 (ls[i].f : Int)) ∧ W.cell? ⟨g, i * 3 + 1, none⟩ = some (.int .i64 (ls[i].t : Int)) ∧ W.cell? ⟨g, i * 3 + 2, none⟩ = some (.int .i64 (ls[i].n : Int)) := by
  obtain ⟨ao, cap, e, h1, h2, h3⟩ := h
  refine ⟨ao, cap, e, h1, h2, fun i hi => ?_⟩
  rcases h3 with rfl | ⟨g, cur, fz, e, _, hh, hc⟩
  · simp at hi
  · obtain ⟨c0, c1, c2⟩ := hc i hi
    refine ⟨g, e, (Array.getElem?_eq_some_iff.1 hh).1, ?_⟩
    simp only [World.cell?, hh]
    exact ⟨by simpa using c0, by simpa using c1, by simpa using c2⟩
/-- The texts of lines, one behind the other. -/
def textsL (l : List UInt8) (ls : List Ln) : List UInt8 := (ls.map (textOf l)).flatten
theorem textsL_snoc (l : List UInt8) (ls : List Ln) (i : Nat) (h : i < ls.length) : textsL l (ls.take (i + 1)) = textsL l (ls.take i) ++ textOf l ls[i] := by
  unfold textsL
  rw [List.take_succ_eq_append_getElem h, List.map_append, List.flatten_append]
  simp only [List.map_cons, List.map_nil, List.flatten_cons, List.flatten_nil, List.append_nil]
def bodyS (l : List UInt8) (b t : Int) : List UInt8 := trimS (textsL l (linesZ l b t))
theorem strCells_bytes (a : List UInt8) : Lib.strCells ⟨a.toArray⟩ = Lib.byteCells a := by
  unfold Lib.strCells Lib.byteCells
  simp
theorem byteCells_app (a b : List UInt8) : Lib.byteCells (a ++ b) = Lib.byteCells a ++ Lib.byteCells b := by
  unfold Lib.byteCells
  simp
theorem byteCells_len (a : List UInt8) : (Lib.byteCells a).length = a.length := by
  unfold Lib.byteCells
  simp

theorem linesZ_bounds {l : List UInt8} {f t : Int} {x : Ln} (h : x ∈ linesZ l f t) : x.f ≤ x.t ∧ x.t ≤ x.n ∧ x.n ≤ l.length := by
  unfold linesZ at h
  split at h
  · next hw =>
    have hw := of_decide_eq_true hw
    obtain ⟨k, hk, rfl⟩ := List.getElem_of_mem h
    have := chainL_at k hk (chainL_lines l _ f.toNat t.toNat (Nat.le_refl _) (by omega) (by omega))
    omega
  · cases h
theorem linesZ_len (l : List UInt8) (f t : Int) : (linesZ l f t).length ≤ l.length := by
  unfold linesZ
  split
  · next hw =>
    have hw := of_decide_eq_true hw
    have := linesS_len l f.toNat t.toNat
    omega
  · simp
set_option maxHeartbeats 2000000 in
theorem body_any (v : Value) (l : List UInt8) (nm : ByteArray) (f b t : Int) (w : World) (hv : bytesArg w v l) (hbig : l.length ≤ 1048576) :
    Calls Tryz.prog 70 #[v, .agg #[.string nm, .int .i64 f, .int .i64 b, .int .i64 t]] w fun e w' => e = .returned (.string ⟨(bodyS l b t).toArray⟩) ∧ Below w.heap.size w w' := by
  have HV := Lib.hid hv
  obtain ⟨ao, cap, rfl, hc, hm, hs⟩ := hv
  have HO := Lib.hid (fun W h => of_any (.slice ao l.length cap) l b t W h hbig)
  have HR : Hid (bodyS l b t = trimS (textsL l (linesZ l b t))) := rfl
  obtain ⟨ls, hls⟩ : ∃ ls, ls = linesZ l b t := ⟨_, rfl⟩
  rw [← hls] at HO HR
  have hll : ls.length ≤ 1048576 := by rw [hls]; have := linesZ_len l b t; omega
  have HX : Hid (∀ x ∈ ls, x.f ≤ x.t ∧ x.t ≤ l.length) := by
    intro x hx
    rw [hls] at hx
    have := linesZ_bounds hx
    omega
  rw [HR.out]
  clear hls HR hs
  go_enter Tryz.func70, Tryz.ntmps70
  go_wp2_with fail
  with_reducible refine (HO.out _ ?h1).mono ?_
  case h1 => exact bytesArg.below HV.out (((Below.refl _ _).alloc (Nat.le_refl _) _).alloc (by simp) _)
  rintro e w1 ⟨u, rfl, hown, hb1⟩
  have HRow : Hid (rowIn (w.heap.size + 1) w1 u ls) := rowIn_owned (by simp) hown
  have HBu : Hid (Lib.IsBuilderF 53 5 (w.heap.size + 1) (w.heap.size + 1) (Lib.byteCells []) w1) :=
    builder_below (.inl ⟨Nat.le_refl _, .slice none 0 0, by simpa using heap_alloc_new (w.alloc (.cells #[.string nm, .int .i64 f, .int .i64 b, .int .i64 t] 100)) (.cells #[.pointer none, .slice none 0 0] 53), World.ownsRowF_nil _ _ _ _, by simp [Value.ownBlock]⟩) hb1
  have HB1 : Hid (Below w.heap.size w w1) := (((Below.refl _ _).alloc (Nat.le_refl _) _).alloc (by simp) _).trans (hb1.mono (by simp; omega))
  have hz : w.heap.size + 1 < w1.heap.size := by have := hb1.size; simp at this; omega
  obtain ⟨bN, hbN⟩ : ∃ bN, bN = w.heap.size + 1 := ⟨_, rfl⟩
  have hbw : w.heap.size ≤ bN := by omega
  rw [← hbN] at HRow HBu hz ⊢
  clear hown hb1 hbN HO
  obtain ⟨uo, uc, rfl, huc, hum, _⟩ := HRow.out.at
  unfold maxLen at hum
  go_wp2_with fail
  go_loopg [16] ls.length (fun q xi wr => ∃ (i : Nat) (acc : List UInt8), i ≤ ls.length ∧ q = ls.length - i ∧ xi = .int .i64 i ∧ acc.length ≤ i * 1048576 ∧ Hid (acc = textsL l (ls.take i)) ∧ Hid (Lib.IsBuilderF 53 5 bN bN (Lib.byteCells acc) wr) ∧ Hid (rowIn bN wr (.slice uo ls.length uc) ls) ∧ Hid (Below w.heap.size w wr) ∧ bN < wr.heap.size)
  case atStart => exact ⟨0, [], Nat.zero_le _, by omega, rfl, by simp, rfl, HBu, HRow, HB1, hz⟩
  case round =>
    clear HBu HRow HB1 hz
    obtain ⟨i, acc, hi, rfl, rfl, hal, HA, HBu, HRow, HB, hz⟩ := hrel
    by_cases hlt : i < ls.length
    · obtain ⟨_, _, e0, _, _, hcell⟩ := HRow.out.at
      cases e0
      obtain ⟨g, rfl, hg, c0, c1, c2⟩ := hcell i hlt
      obtain ⟨hx1, hx2⟩ := HX.out ls[i] (List.getElem_mem hlt)
      have HS := Lib.hid (textsL_snoc l ls i hlt)
      obtain ⟨x, hx⟩ : ∃ x, x = ls[i] := ⟨_, rfl⟩
      rw [← hx] at c0 c1 c2 hx1 hx2 HS
      have HT := Lib.hid (fun W h => text_any (.slice ao l.length cap) l (x.f : Int) (x.t : Int) (x.n : Int) W h)
      rw [textS_nat l hx1 hx2] at HT
      obtain ⟨T, hT⟩ : ∃ T : ByteArray, T = ⟨(partS l x.f x.t).toArray⟩ := ⟨_, rfl⟩
      have hTs : T.size ≤ 1048576 := by
        have := textOf_len (l := l) (x := x) hx2
        rw [hT]
        show (partS l x.f x.t).toArray.size ≤ _
        unfold textOf at this
        simp only [List.size_toArray]
        omega
      have HTl : Hid (T.data.toList = textOf l x) := by rw [hT]; rfl
      rw [← hT] at HT
      clear hcell hx hT
      go_wp2_with fail
      with_reducible refine (HT.out _ ?h1).mono ?_
      case h1 => exact bytesArg.below HV.out (HB.out.alloc HB.out.size _)
      rintro e w2 ⟨rfl, hb2⟩
      have HB2 : Hid (Below w.heap.size w w2) := (HB.out.alloc HB.out.size _).trans (hb2.mono (by have := HB.out.size; simp; omega))
      have HRow2 := Lib.hid ((HRow.out.below ((Below.refl _ _).alloc (Nat.le_refl _) (.cells #[.int .i64 (x.f : Int), .int .i64 (x.t : Int), .int .i64 (x.n : Int)] 104))).below hb2)
      have HBu2 := Lib.hid (builder_below (HBu.out.alloc (.cells #[.int .i64 (x.f : Int), .int .i64 (x.t : Int), .int .i64 (x.n : Int)] 104)) hb2)
      have hz2 : bN < w2.heap.size := by have := hb2.size; simp at this; omega
      clear hb2 HRow HBu HB c0 c1 c2
      go_wp2_with fail
      with_reducible refine (Tryz.Builder_WriteString_k bN bN (Lib.byteCells acc) T w2 HBu2.out ?h2 ?h3).mono ?_
      case h2 => rw [Lib.byteCells_length]; omega
      case h3 => omega
      rintro e w3 ⟨rfl, hA3, hb3, hk3⟩
      have HB3 : Hid (Below w.heap.size w w3) := HB2.out.trans (hb3.mono hbw)
      have HRow3 := Lib.hid (HRow2.out.others (Nat.le_refl _) hk3)
      have HBu3 : Hid (Lib.IsBuilderF 53 5 bN bN (Lib.byteCells (acc ++ textOf l x)) w3) := by
        right
        rw [Lib.byteCells_append, ← HTl.out]
        exact hA3
      have hz3 : bN < w3.heap.size := by have := hb3.size; omega
      have HA3 : Hid (acc ++ textOf l x = textsL l (ls.take (i + 1))) := by unfold Hid; rw [HS.out, HA.out]
      have hal3 : (acc ++ textOf l x).length ≤ (i + 1) * 1048576 := by
        rw [List.length_append, ← HTl.out, len_toList]
        omega
      clear hA3 hb3 hk3 HBu2 HRow2 HB2 HA HS
      go_wp2_with fail
      go_roundg (ls.length - (i + 1))
      case measure => omega
      case rel => exact ⟨i + 1, _, by omega, rfl, by go_num, hal3, HA3, HBu3, HRow3, HB3, hz3⟩
    · obtain rfl : i = ls.length := by omega
      have HA' : Hid (acc = textsL l ls) := by have := HA.out; rwa [List.take_length] at this
      go_wp2_with fail
      with_reducible refine (Tryz.Builder_String_any_k bN bN acc wr HBu.out ?h4).mono ?_
      case h4 => omega
      rintro e w4 ⟨rfl, _, hb4, _⟩
      have HB4 : Hid (Below w.heap.size w w4) := HB.out.trans (hb4.mono hbw)
      clear hb4
      obtain ⟨A, hA⟩ : ∃ A : ByteArray, A = ⟨acc.toArray⟩ := ⟨_, rfl⟩
      have hAl : A.data.toList = acc := by rw [hA]
      have HTr := Lib.hid (fun W => trim_any A W (by rw [← len_toList, hAl]; omega))
      rw [hAl, HA'.out] at HTr
      rw [← hA]
      clear hA hAl
      go_wp2_with fail
      with_reducible refine (HTr.out _).mono ?_
      rintro e w5 ⟨rfl, rfl⟩
      go_wp2_with fail
      go_ret
      exact ⟨rfl, HB4.out⟩
end Go.Proofs.YtkmgflnmffdhjaaGreatDoor

/- Contracts of package header: Find, Value. -/
namespace Go.Proofs.YtkmgflnmffdhjaaGreatDoor
open Go Go.RowKit

/-- A slice of fields: what its cells hold. -/
def rowF (W : World) (v : Value) (fs : List Fld) : Prop :=
  ∃ ao cap, v = .slice ao fs.length cap ∧ fs.length ≤ cap ∧ cap ≤ maxLen ∧ (fs = [] ∨ ∃ g, ao = some ⟨g, 0, none⟩ ∧ g < W.heap.size ∧
    ∀ i, (h : i < fs.length) → W.cell? ⟨g, i * 4, none⟩ = some (.string ⟨fs[i].nm.toArray⟩) ∧ W.cell? ⟨g, i * 4 + 1, none⟩ = some (.int .i64 (fs[i].f : Int)) ∧ W.cell? ⟨g, i * 4 + 2, none⟩ = some (.int .i64 (fs[i].b : Int)) ∧ W.cell? ⟨g, i * 4 + 3, none⟩ = some (.int .i64 (fs[i].t : Int)))
theorem rowF.below {W W' : World} {v : Value} {fs : List Fld} (h : rowF W v fs) (hb : Below W.heap.size W W') : rowF W' v fs := by
  obtain ⟨ao, cap, e, h1, h2, h3⟩ := h
  refine ⟨ao, cap, e, h1, h2, h3.imp id ?_⟩
  rintro ⟨g, e, hg, hc⟩
  refine ⟨g, e, Nat.lt_of_lt_of_le hg hb.size, fun i hi => ?_⟩
  obtain ⟨c0, c1, c2, c3⟩ := hc i hi
  exact ⟨(hb.cell (p := ⟨g, i * 4, none⟩) hg).trans c0, (hb.cell (p := ⟨g, i * 4 + 1, none⟩) hg).trans c1, (hb.cell (p := ⟨g, i * 4 + 2, none⟩) hg).trans c2, (hb.cell (p := ⟨g, i * 4 + 3, none⟩) hg).trans c3⟩
theorem fldCells_at (fs : List Fld) (i : Nat) (h : i < fs.length) : (fldCells fs)[i * 4]? = some (.string ⟨fs[i].nm.toArray⟩) ∧ (fldCells fs)[i * 4 + 1]? = some (.int .i64 (fs[i].f : Int)) ∧ (fldCells fs)[i * 4 + 2]? = some (.int .i64 (fs[i].b : Int)) ∧ (fldCells fs)[i * 4 + 3]? = some (.int .i64 (fs[i].t : Int)) := by
  induction fs generalizing i with
  | nil => simp at h
  | cons x r ih =>
    have e : fldCells (x :: r) = fldC x ++ fldCells r := by simp [fldCells]
    rw [e]
    cases i with
    | zero => simp [fldC]
    | succ i =>
      have := ih i (by simpa using h)
      simp only [List.getElem_cons_succ]
      rw [List.getElem?_append_right (by simp [fldC]; omega), List.getElem?_append_right (by simp [fldC]; omega), List.getElem?_append_right (by simp [fldC]; omega), List.getElem?_append_right (by simp [fldC]; omega)]
      simp only [fldC, List.length_cons, List.length_nil]
      rw [show (i + 1) * 4 - (0 + 1 + 1 + 1 + 1) = i * 4 by omega, show (i + 1) * 4 + 1 - (0 + 1 + 1 + 1 + 1) = i * 4 + 1 by omega, show (i + 1) * 4 + 2 - (0 + 1 + 1 + 1 + 1) = i * 4 + 2 by omega, show (i + 1) * 4 + 3 - (0 + 1 + 1 + 1 + 1) = i * 4 + 3 by omega]
      exact this
theorem rowF_owned {w : World} {base : Nat} {e : TypeId} {v : Value} {fs : List Fld} (h : w.ownsRow base e 4 v fs.length (fldCells fs)) : rowF w v fs := by
  rcases h.2 with ⟨rfl, h0⟩ | ⟨g, cap, cur, rfl, _, hh, hc, hm, hs, ht⟩
  · obtain rfl : fs = [] := List.eq_nil_of_length_eq_zero h0
    exact ⟨none, 0, rfl, Nat.le_refl _, Nat.zero_le _, .inl rfl⟩
  · refine ⟨_, cap, rfl, hc, hm, .inr ⟨g, rfl, (Array.getElem?_eq_some_iff.1 hh).1, fun i hi => ?_⟩⟩
    obtain ⟨c0, c1, c2, c3⟩ := fldCells_at fs i hi
    rw [← ht] at c0 c1 c2 c3
    rw [List.getElem?_take, if_pos (by omega)] at c0 c1 c2 c3
    simp only [World.cell?, hh]
    exact ⟨by simpa using c0, by simpa using c1, by simpa using c2, by simpa using c3⟩
theorem rowF.at {W : World} {v : Value} {fs : List Fld} (h : rowF W v fs) : ∃ ao cap, v = .slice ao fs.length cap ∧ fs.length ≤ cap ∧ cap ≤ maxLen ∧
    ∀ i, (h : i < fs.length) → ∃ g, ao = some ⟨g, 0, none⟩ ∧ g < W.heap.size ∧ W.cell? ⟨g, i * 4, none⟩ = some (.string ⟨fs[i].nm.toArray⟩) ∧ W.cell? ⟨g, i * 4 + 1, none⟩ = some (.int .i64 (fs[i].f : Int)) ∧ W.cell? ⟨g, i * 4 + 2, none⟩ = some (.int .i64 (fs[i].b : Int)) ∧ W.cell? ⟨g, i * 4 + 3, none⟩ = some (.int .i64 (fs[i].t : Int)) := by
  obtain ⟨ao, cap, e, h1, h2, h3⟩ := h
  refine ⟨ao, cap, e, h1, h2, fun i hi => ?_⟩
  rcases h3 with rfl | ⟨g, e, hg, hc⟩
  · simp at hi
  · exact ⟨g, e, hg, hc i hi⟩

/-- Two names are the same, but for small and capital letters. -/
def sameB (a b : List UInt8) : Bool := decide (foldS a = foldS b)
/-- Which field is the first of a name. -/
def fI (nm : List UInt8) (fs : List Fld) : Nat := fs.findIdx (fun x => sameB x.nm nm)
/-- Names of fields that aren't too long. -/
def shortF (fs : List Fld) : Prop := ∀ x ∈ fs, x.nm.length ≤ 1048576

set_option maxHeartbeats 1000000 in
theorem find1_any (x : Fld) (B : Nat) (nm : ByteArray) (w : World) (hc : w.cell? ⟨B, 0, none⟩ = some (.string nm)) (hs : x.nm.length ≤ 1048576) :
    Calls Tryz.prog 107 #[.agg #[.string ⟨x.nm.toArray⟩, .int .i64 (x.f : Int), .int .i64 (x.b : Int), .int .i64 (x.t : Int)], .pointer (some ⟨B, 0, none⟩)] w fun e w' => e = .returned (.bool (sameB x.nm nm.data.toList)) ∧ Below w.heap.size w w' := by
  have hB : B < w.heap.size := World.block_lt_of_cell? _ _ hc
  obtain ⟨A, hA⟩ : ∃ A : ByteArray, A = ⟨x.nm.toArray⟩ := ⟨_, rfl⟩
  have hAl : A.data.toList = x.nm := by rw [hA]
  have HSm := Lib.hid (fun W => same_any A nm W (by rw [← len_toList, hAl]; omega))
  rw [hAl] at HSm
  obtain ⟨z, hz⟩ : ∃ z, z = sameB x.nm nm.data.toList := ⟨_, rfl⟩
  have hz' : decide (foldS x.nm = foldS nm.data.toList) = z := hz.symm
  rw [hz'] at HSm
  rw [← hA, ← hz]
  clear hA hAl hz hz'
  go_enter Tryz.func107, Tryz.ntmps107
  go_wp2_with fail
  with_reducible refine (HSm.out _).mono ?_
  rintro e w1 ⟨rfl, k, rfl⟩
  go_wp2_with fail
  go_ret
  exact ⟨rfl, ((Below.refl _ _).alloc (Nat.le_refl _) _).trans ((below_drewN' _).mono (by simp))⟩

theorem fI_hit {nm : List UInt8} {fs : List Fld} {i : Nat} (h1 : i ≤ fI nm fs) (h : i < fs.length) (he : sameB fs[i].nm nm = true) : fI nm fs = i := by
  rcases Nat.lt_or_ge i (fI nm fs) with h2 | h2
  · have := List.not_of_lt_findIdx (p := fun x : Fld => sameB x.nm nm) h2
    simp [he] at this
  · omega
theorem fI_step {nm : List UInt8} {fs : List Fld} {i : Nat} (h1 : i ≤ fI nm fs) (h : i < fs.length) (hne : sameB fs[i].nm nm = false) : i + 1 ≤ fI nm fs := by
  rcases Nat.lt_or_ge i (fI nm fs) with h2 | h2
  · exact h2
  · have e : fI nm fs = i := by omega
    exfalso
    have h3 := List.findIdx_getElem (p := fun x : Fld => sameB x.nm nm) (xs := fs) (w := by show fI nm fs < _; omega)
    have h4 : (fun x : Fld => sameB x.nm nm) fs[i] = true := by
      have : fs.findIdx (fun x : Fld => sameB x.nm nm) = i := e
      simp only [this] at h3
      exact h3
    simp only [hne] at h4
    cases h4
def idxV (nm : List UInt8) (fs : List Fld) : Int := if fI nm fs < fs.length then (fI nm fs : Int) else -1
set_option maxHeartbeats 1000000 in
theorem indexF_any (v : Value) (fs : List Fld) (B : Nat) (nm : ByteArray) (w : World) (hv : rowF w v fs) (hc : w.cell? ⟨B, 0, none⟩ = some (.string nm)) (hs : shortF fs) :
    Calls Tryz.prog 106 #[v, .func (.func 107) #[] #[.pointer (some ⟨B, 0, none⟩)]] w fun e w' => e = .returned (.int .i64 (idxV nm.data.toList fs)) ∧ Below w.heap.size w w' := by
  obtain ⟨ao, cap, rfl, hca, hm, hcell⟩ := hv.at
  have HC := Lib.hid hcell
  have hB : B < w.heap.size := World.block_lt_of_cell? _ _ hc
  have HN := Lib.hid hc
  unfold maxLen at hm
  clear hv hcell hc
  go_enter Tryz.func106, Tryz.ntmps106
  go_wp2_with fail
  go_loopg [8] fs.length (fun q xi wr => ∃ i : Nat, i ≤ fs.length ∧ q = fs.length - i ∧ xi = .int .i64 i ∧ Hid (i ≤ fI nm.data.toList fs) ∧ Hid (Below w.heap.size w wr))
  case atStart => exact ⟨0, by omega, by omega, rfl, Nat.zero_le _, Below.refl _ _⟩
  case round =>
    obtain ⟨i, hi, rfl, rfl, HE, HB⟩ := hrel
    by_cases hlt : i < fs.length
    · obtain ⟨g, rfl, hg, c0, c1, c2, c3⟩ := HC.out i hlt
      have hsx := hs fs[i] (List.getElem_mem hlt)
      have HH := Lib.hid (fun h => fI_hit HE.out hlt h)
      have HT := Lib.hid (fun h => fI_step HE.out hlt h)
      obtain ⟨x, hx⟩ : ∃ x, x = fs[i] := ⟨_, rfl⟩
      rw [← hx] at c0 c1 c2 c3 HH HT hsx
      replace c0 := (HB.out.cell (p := ⟨g, i * 4, none⟩) hg).trans c0
      replace c1 := (HB.out.cell (p := ⟨g, i * 4 + 1, none⟩) hg).trans c1
      replace c2 := (HB.out.cell (p := ⟨g, i * 4 + 2, none⟩) hg).trans c2
      replace c3 := (HB.out.cell (p := ⟨g, i * 4 + 3, none⟩) hg).trans c3
      have HF1 := Lib.hid (find1_any x B nm wr ((HB.out.cell (p := ⟨B, 0, none⟩) hB).trans HN.out) hsx)
      clear hx
      go_wp2_with fail
      with_reducible refine HF1.out.mono ?_
      rintro e w1 ⟨rfl, hb1⟩
      have HB1 := Lib.hid (HB.out.trans (hb1.mono HB.out.size))
      clear hb1 HF1 HB
      rcases Bool.eq_false_or_eq_true (sameB x.nm nm.data.toList) with hb | hb
      · have HR : Hid (idxV nm.data.toList fs = i) := by
          unfold Hid idxV
          rw [HH.out hb, if_pos hlt]
        rw [hb]
        go_wp2_with fail
        go_ret
        exact ⟨ret_int HR.out.symm, HB1.out⟩
      · have HR := Lib.hid (HT.out hb)
        rw [hb]
        go_wp2_with fail
        go_roundg (fs.length - (i + 1))
        case measure => omega
        case rel => exact ⟨i + 1, by omega, rfl, by go_num, HR, HB1⟩
    · obtain rfl : i = fs.length := by omega
      have HR : Hid (idxV nm.data.toList fs = -1) := by
        unfold Hid idxV
        rw [if_neg (by have := HE.out; omega)]
      go_wp2_with fail
      go_ret
      exact ⟨ret_int HR.out.symm, HB.out⟩
set_option maxHeartbeats 1000000 in
theorem find_yes (v : Value) (fs : List Fld) (nm : ByteArray) (k : Nat) (x : Fld) (w : World) (hv : rowF w v fs) (hs : shortF fs) (hk : k = fI nm.data.toList fs) (h : k < fs.length) (hx : fs[k] = x) :
    Calls Tryz.prog 69 #[v, .string nm] w fun e w' => e = .returned (.tuple #[.agg #[.string ⟨x.nm.toArray⟩, .int .i64 (x.f : Int), .int .i64 (x.b : Int), .int .i64 (x.t : Int)], .bool true]) ∧ Below w.heap.size w w' := by
  have HV := Lib.hid hv
  have HI := Lib.hid (fun W h hc => indexF_any v fs w.heap.size nm W h hc hs)
  have e1 : idxV nm.data.toList fs = k := by unfold idxV; rw [← hk, if_pos h]
  rw [e1] at HI
  clear e1 hk hv
  obtain ⟨ao, cap, rfl, hca, hm, _⟩ := HV.out.at
  unfold maxLen at hm
  go_enter Tryz.func69, Tryz.ntmps69
  go_wp2_with fail
  with_reducible refine (HI.out _ ?h1 ?h2).mono ?_
  case h1 => exact HV.out.below (((Below.refl _ _).alloc (Nat.le_refl _) _).alloc (by simp) _)
  case h2 => simp
  rintro e w1 ⟨rfl, hb1⟩
  have HB1 : Hid (Below w.heap.size w w1) := (((Below.refl _ _).alloc (Nat.le_refl _) _).alloc (by simp) _).trans (hb1.mono (by simp; omega))
  obtain ⟨hc, hf⟩ := bcell hb1
  have HR1 := HV.out.below HB1.out
  obtain ⟨_, _, e0, _, _, hcell⟩ := HR1.at
  cases e0
  obtain ⟨g, rfl, hg, c0, c1, c2, c3⟩ := hcell k h
  rw [hx] at c0 c1 c2 c3
  clear hb1 HR1 hcell HI HV hx
  go_wp2_with fail
  refine bodyPost_ret (v := .tuple #[.agg #[.string ⟨x.nm.toArray⟩, .int .i64 (x.f : Int), .int .i64 (x.b : Int), .int .i64 (x.t : Int)], .bool true]) (by simp [results, Tryz.results69, go_sem, hc]) rfl ⟨rfl, ?_⟩
  exact ((((HB1.out.setCell (by simp) _).setCell (by simp) _).setCell (by simp) _).setCell (by simp) _)
set_option maxHeartbeats 1000000 in
theorem find_no (v : Value) (fs : List Fld) (nm : ByteArray) (w : World) (hv : rowF w v fs) (hs : shortF fs) (h : ¬ fI nm.data.toList fs < fs.length) :
    Calls Tryz.prog 69 #[v, .string nm] w fun e w' => e = .returned (.tuple #[.agg #[.string ⟨#[]⟩, .int .i64 0, .int .i64 0, .int .i64 0], .bool false]) ∧ Below w.heap.size w w' := by
  have HV := Lib.hid hv
  have HI := Lib.hid (fun W h hc => indexF_any v fs w.heap.size nm W h hc hs)
  have e1 : idxV nm.data.toList fs = -1 := by unfold idxV; rw [if_neg h]
  rw [e1] at HI
  clear e1 hv
  go_enter Tryz.func69, Tryz.ntmps69
  go_wp2_with fail
  with_reducible refine (HI.out _ ?h1 ?h2).mono ?_
  case h1 => exact HV.out.below (((Below.refl _ _).alloc (Nat.le_refl _) _).alloc (by simp) _)
  case h2 => simp
  rintro e w1 ⟨rfl, hb1⟩
  have HB1 : Hid (Below w.heap.size w w1) := (((Below.refl _ _).alloc (Nat.le_refl _) _).alloc (by simp) _).trans (hb1.mono (by simp; omega))
  obtain ⟨hc, hf⟩ := bcell hb1
  clear hb1 HI HV
  go_wp2_with fail
  refine bodyPost_ret (v := .tuple #[.agg #[.string ⟨#[]⟩, .int .i64 0, .int .i64 0, .int .i64 0], .bool false]) (by simp [results, Tryz.results69, go_sem, hc]) rfl ⟨rfl, ?_⟩
  exact ((((HB1.out.setCell (by simp) _).setCell (by simp) _).setCell (by simp) _).setCell (by simp) _)
end Go.Proofs.YtkmgflnmffdhjaaGreatDoor
