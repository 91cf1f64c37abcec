/- Contracts of package header: Body. -/
import Derived.Test.YtbphnlaoiikebaaGreatDoorGbHdrD
import Derived.Test.YtbphnlaoiikebaaGreatDoorShelf3
namespace Go.Proofs.YtbphnlaoiikebaaGreatDoor
open Go Go.RowKit

theorem builder_below {T e : TypeId} {B b : Nat} {bs : List Value} {w w' : World} (h : Lib.IsBuilderF T e B b bs w) (hb : Below w.heap.size w w') : Lib.IsBuilderF T e B b bs w' := by
  have key : ∀ p, Lib.BuilderAtF T e B b p bs w → Lib.BuilderAtF T e B b p bs w' := by
    intro p h
    have hlt := h.lt
    obtain ⟨hB, v, hbk, hown, hne⟩ := h
    exact ⟨hB, v, (hb.block b hlt).trans hbk, hown.kept (row := none) ⟨hb.1, hb.2, hb.3, hb.size, fun k hk _ => hb.block k hk⟩ (by cases v.ownBlock <;> simp), hne⟩
  exact h.imp (key _) (key _)
/-- A slice of lines, its block told: it lies above lo. -/
def rowIn (lo : Nat) (W : World) (v : Value) (ls : List Ln) : Prop :=
  ∃ ao cap, v = .slice ao ls.length cap ∧ ls.length ≤ cap ∧ cap ≤ maxLen ∧ (ls = [] ∨ ∃ g cur fz, ao = some ⟨g, 0, none⟩ ∧ lo < g ∧ W.heap[g]? = some (.cells cur 103 fz) ∧
    ∀ i, (h : i < ls.length) → cur[i * 3]? = some (.int .i64 (ls[i].f : Int)) ∧ cur[i * 3 + 1]? = some (.int .i64 (ls[i].t : Int)) ∧ cur[i * 3 + 2]? = some (.int .i64 (ls[i].n : Int)))
theorem rowIn_owned {w : World} {base lo : Nat} {v : Value} {ls : List Ln} (hlo : lo < base) (h : w.ownsRow base 103 3 v ls.length (lnCells ls)) : rowIn lo w v ls := by
  rcases h.2 with ⟨rfl, h0⟩ | ⟨g, cap, cur, rfl, hbg, hh, hc, hm, hs, ht⟩
  · obtain rfl : ls = [] := List.eq_nil_of_length_eq_zero h0
    exact ⟨none, 0, rfl, Nat.le_refl _, Nat.zero_le _, .inl rfl⟩
  · refine ⟨_, cap, rfl, hc, hm, .inr ⟨g, cur, _, rfl, by omega, hh, fun i hi => ?_⟩⟩
    obtain ⟨c0, c1, c2⟩ := lnCells_at ls i hi
    rw [← ht] at c0 c1 c2
    rw [List.getElem?_take, if_pos (by omega)] at c0 c1 c2
    exact ⟨by simpa using c0, by simpa using c1, by simpa using c2⟩
theorem rowIn.to {lo : Nat} {W W' : World} {v : Value} {ls : List Ln} (h : rowIn lo W v ls) (hk : ∀ g cur fz, lo < g → W.heap[g]? = some (.cells cur 103 fz) → W'.heap[g]? = some (.cells cur 103 fz)) : rowIn lo W' v ls := by
  obtain ⟨ao, cap, e, h1, h2, h3⟩ := h
  refine ⟨ao, cap, e, h1, h2, h3.imp id ?_⟩
  rintro ⟨g, cur, fz, e, hg, hh, hc⟩
  exact ⟨g, cur, fz, e, hg, hk g cur fz hg hh, hc⟩
theorem rowIn.below {lo : Nat} {W W' : World} {v : Value} {ls : List Ln} (h : rowIn lo W v ls) (hb : Below W.heap.size W W') : rowIn lo W' v ls :=
  h.to fun g _ _ _ hh => (hb.block g (Array.getElem?_eq_some_iff.1 hh).1).trans hh
theorem rowIn.others {lo b : Nat} {W W' : World} {v : Value} {ls : List Ln} (h : rowIn lo W v ls) (hlo : b ≤ lo) (hk : Lib.OthersKept 5 (some b) W W') : rowIn lo W' v ls :=
  h.to fun g _ _ hg hh => hk g _ hh (fun e => by cases e; omega) (fun c fz e => by cases e)
theorem rowIn.at {lo : Nat} {W : World} {v : Value} {ls : List Ln} (h : rowIn lo W v ls) : ∃ ao cap, v = .slice ao ls.length cap ∧ ls.length ≤ cap ∧ cap ≤ maxLen ∧
    ∀ i, (h : i < ls.length) → ∃ g, ao = some ⟨g, 0, none⟩ ∧ g < W.heap.size ∧ W.cell? ⟨g, i * 3, none⟩ = some (.int .i64 (ls[i].f : Int)) ∧ W.cell? ⟨g, i * 3 + 1, none⟩ = some (.int .i64 (ls[i].t : Int)) ∧ W.cell? ⟨g, i * 3 + 2, none⟩ = some (.int .i64 (ls[i].n : Int)) := by
  obtain ⟨ao, cap, e, h1, h2, h3⟩ := h
  refine ⟨ao, cap, e, h1, h2, fun i hi => ?_⟩
  rcases h3 with rfl | ⟨g, cur, fz, e, _, hh, hc⟩
  · simp at hi
  · obtain ⟨c0, c1, c2⟩ := hc i hi
    refine ⟨g, e, (Array.getElem?_eq_some_iff.1 hh).1, ?_⟩
    simp only [World.cell?, hh]
    exact ⟨by simpa using c0, by simpa using c1, by simpa using c2⟩
/-- The texts of lines, one behind the other. -/
def textsL (l : List UInt8) (ls : List Ln) : List UInt8 := (ls.map (textOf l)).flatten
theorem textsL_snoc (l : List UInt8) (ls : List Ln) (i : Nat) (h : i < ls.length) : textsL l (ls.take (i + 1)) = textsL l (ls.take i) ++ textOf l ls[i] := by
  unfold textsL
  rw [List.take_succ_eq_append_getElem h, List.map_append, List.flatten_append]
  simp only [List.map_cons, List.map_nil, List.flatten_cons, List.flatten_nil, List.append_nil]
def bodyS (l : List UInt8) (b t : Int) : List UInt8 := trimS (textsL l (linesZ l b t))
theorem strCells_bytes (a : List UInt8) : Lib.strCells ⟨a.toArray⟩ = Lib.byteCells a := by
  unfold Lib.strCells Lib.byteCells
  simp
theorem byteCells_app (a b : List UInt8) : Lib.byteCells (a ++ b) = Lib.byteCells a ++ Lib.byteCells b := by
  unfold Lib.byteCells
  simp
theorem byteCells_len (a : List UInt8) : (Lib.byteCells a).length = a.length := by
  unfold Lib.byteCells
  simp

theorem linesZ_bounds {l : List UInt8} {f t : Int} {x : Ln} (h : x ∈ linesZ l f t) : x.f ≤ x.t ∧ x.t ≤ x.n ∧ x.n ≤ l.length := by
  unfold linesZ at h
  split at h
  · next hw =>
    have hw := of_decide_eq_true hw
    obtain ⟨k, hk, rfl⟩ := List.getElem_of_mem h
    have := chainL_at k hk (chainL_lines l _ f.toNat t.toNat (Nat.le_refl _) (by omega) (by omega))
    omega
  · cases h
theorem linesZ_len (l : List UInt8) (f t : Int) : (linesZ l f t).length ≤ l.length := by
  unfold linesZ
  split
  · next hw =>
    have hw := of_decide_eq_true hw
    have := linesS_len l f.toNat t.toNat
    omega
  · simp
set_option maxHeartbeats 2000000 in
theorem body_any (v : Value) (l : List UInt8) (nm : ByteArray) (f b t : Int) (w : World) (hv : bytesArg w v l) (hbig : l.length ≤ 1048576) :
    Calls Tryz.prog 41 #[v, .agg #[.string nm, .int .i64 f, .int .i64 b, .int .i64 t]] w fun e w' => e = .returned (.string ⟨(bodyS l b t).toArray⟩) ∧ Below w.heap.size w w' := by
  have HV := Lib.hid hv
  obtain ⟨ao, cap, rfl, hc, hm, hs⟩ := hv
  have HO := Lib.hid (fun W h => of_any (.slice ao l.length cap) l b t W h hbig)
  have HR : Hid (bodyS l b t = trimS (textsL l (linesZ l b t))) := rfl
  obtain ⟨ls, hls⟩ : ∃ ls, ls = linesZ l b t := ⟨_, rfl⟩
  rw [← hls] at HO HR
  have hll : ls.length ≤ 1048576 := by rw [hls]; have := linesZ_len l b t; omega
  have HX : Hid (∀ x ∈ ls, x.f ≤ x.t ∧ x.t ≤ l.length) := by
    intro x hx
    rw [hls] at hx
    have := linesZ_bounds hx
    omega
  rw [HR.out]
  clear hls HR hs
  go_enter Tryz.func41, Tryz.ntmps41
  go_wp2_with fail
  with_reducible refine (HO.out _ ?h1).mono ?_
  case h1 => exact bytesArg.below HV.out (((Below.refl _ _).alloc (Nat.le_refl _) _).alloc (by simp) _)
  rintro e w1 ⟨u, rfl, hown, hb1⟩
  have HRow : Hid (rowIn (w.heap.size + 1) w1 u ls) := rowIn_owned (by simp) hown
  have HBu : Hid (Lib.IsBuilderF 56 5 (w.heap.size + 1) (w.heap.size + 1) (Lib.byteCells []) w1) :=
    builder_below (.inl ⟨Nat.le_refl _, .slice none 0 0, by simpa using heap_alloc_new (w.alloc (.cells #[.string nm, .int .i64 f, .int .i64 b, .int .i64 t] 79)) (.cells #[.pointer none, .slice none 0 0] 56), World.ownsRowF_nil _ _ _ _, by simp [Value.ownBlock]⟩) hb1
  have HB1 : Hid (Below w.heap.size w w1) := (((Below.refl _ _).alloc (Nat.le_refl _) _).alloc (by simp) _).trans (hb1.mono (by simp; omega))
  have hz : w.heap.size + 1 < w1.heap.size := by have := hb1.size; simp at this; omega
  obtain ⟨bN, hbN⟩ : ∃ bN, bN = w.heap.size + 1 := ⟨_, rfl⟩
  have hbw : w.heap.size ≤ bN := by omega
  rw [← hbN] at HRow HBu hz ⊢
  clear hown hb1 hbN HO
  obtain ⟨uo, uc, rfl, huc, hum, _⟩ := HRow.out.at
  unfold maxLen at hum
  go_wp2_with fail
  go_loopg [16] ls.length (fun q xi wr => ∃ (i : Nat) (acc : List UInt8), i ≤ ls.length ∧ q = ls.length - i ∧ xi = .int .i64 i ∧ acc.length ≤ i * 1048576 ∧ Hid (acc = textsL l (ls.take i)) ∧ Hid (Lib.IsBuilderF 56 5 bN bN (Lib.byteCells acc) wr) ∧ Hid (rowIn bN wr (.slice uo ls.length uc) ls) ∧ Hid (Below w.heap.size w wr) ∧ bN < wr.heap.size)
  case atStart => exact ⟨0, [], Nat.zero_le _, by omega, rfl, by simp, rfl, HBu, HRow, HB1, hz⟩
  case round =>
    clear HBu HRow HB1 hz
    obtain ⟨i, acc, hi, rfl, rfl, hal, HA, HBu, HRow, HB, hz⟩ := hrel
    by_cases hlt : i < ls.length
    · obtain ⟨_, _, e0, _, _, hcell⟩ := HRow.out.at
      cases e0
      obtain ⟨g, rfl, hg, c0, c1, c2⟩ := hcell i hlt
      obtain ⟨hx1, hx2⟩ := HX.out ls[i] (List.getElem_mem hlt)
      have HS := Lib.hid (textsL_snoc l ls i hlt)
      obtain ⟨x, hx⟩ : ∃ x, x = ls[i] := ⟨_, rfl⟩
      rw [← hx] at c0 c1 c2 hx1 hx2 HS
      have HT := Lib.hid (fun W h => text_any (.slice ao l.length cap) l (x.f : Int) (x.t : Int) (x.n : Int) W h)
      rw [textS_nat l hx1 hx2] at HT
      obtain ⟨T, hT⟩ : ∃ T : ByteArray, T = ⟨(partS l x.f x.t).toArray⟩ := ⟨_, rfl⟩
      have hTs : T.size ≤ 1048576 := by
        have := textOf_len (l := l) (x := x) hx2
        rw [hT]
        show (partS l x.f x.t).toArray.size ≤ _
        unfold textOf at this
        simp only [List.size_toArray]
        omega
      have HTl : Hid (T.data.toList = textOf l x) := by rw [hT]; rfl
      rw [← hT] at HT
      clear hcell hx hT
      go_wp2_with fail
      with_reducible refine (HT.out _ ?h1).mono ?_
      case h1 => exact bytesArg.below HV.out (HB.out.alloc HB.out.size _)
      rintro e w2 ⟨rfl, hb2⟩
      have HB2 : Hid (Below w.heap.size w w2) := (HB.out.alloc HB.out.size _).trans (hb2.mono (by have := HB.out.size; simp; omega))
      have HRow2 := Lib.hid ((HRow.out.below ((Below.refl _ _).alloc (Nat.le_refl _) (.cells #[.int .i64 (x.f : Int), .int .i64 (x.t : Int), .int .i64 (x.n : Int)] 103))).below hb2)
      have HBu2 := Lib.hid (builder_below (HBu.out.alloc (.cells #[.int .i64 (x.f : Int), .int .i64 (x.t : Int), .int .i64 (x.n : Int)] 103)) hb2)
      have hz2 : bN < w2.heap.size := by have := hb2.size; simp at this; omega
      clear hb2 HRow HBu HB c0 c1 c2
      go_wp2_with fail
      with_reducible refine (Tryz.Builder_WriteString_k bN bN (Lib.byteCells acc) T w2 HBu2.out ?h2 ?h3).mono ?_
      case h2 => rw [Lib.byteCells_length]; omega
      case h3 => omega
      rintro e w3 ⟨rfl, hA3, hb3, hk3⟩
      have HB3 : Hid (Below w.heap.size w w3) := HB2.out.trans (hb3.mono hbw)
      have HRow3 := Lib.hid (HRow2.out.others (Nat.le_refl _) hk3)
      have HBu3 : Hid (Lib.IsBuilderF 56 5 bN bN (Lib.byteCells (acc ++ textOf l x)) w3) := by
        right
        rw [Lib.byteCells_append, ← HTl.out]
        exact hA3
      have hz3 : bN < w3.heap.size := by have := hb3.size; omega
      have HA3 : Hid (acc ++ textOf l x = textsL l (ls.take (i + 1))) := by unfold Hid; rw [HS.out, HA.out]
      have hal3 : (acc ++ textOf l x).length ≤ (i + 1) * 1048576 := by
        rw [List.length_append, ← HTl.out, len_toList]
        omega
      clear hA3 hb3 hk3 HBu2 HRow2 HB2 HA HS
      go_wp2_with fail
      go_roundg (ls.length - (i + 1))
      case measure => omega
      case rel => exact ⟨i + 1, _, by omega, rfl, by go_num, hal3, HA3, HBu3, HRow3, HB3, hz3⟩
    · obtain rfl : i = ls.length := by omega
      have HA' : Hid (acc = textsL l ls) := by have := HA.out; rwa [List.take_length] at this
      go_wp2_with fail
      with_reducible refine (Tryz.Builder_String_any_k bN bN acc wr HBu.out ?h4).mono ?_
      case h4 => omega
      rintro e w4 ⟨rfl, _, hb4, _⟩
      have HB4 : Hid (Below w.heap.size w w4) := HB.out.trans (hb4.mono hbw)
      clear hb4
      obtain ⟨A, hA⟩ : ∃ A : ByteArray, A = ⟨acc.toArray⟩ := ⟨_, rfl⟩
      have hAl : A.data.toList = acc := by rw [hA]
      have HTr := Lib.hid (fun W => trim_any A W (by rw [← len_toList, hAl]; omega))
      rw [hAl, HA'.out] at HTr
      rw [← hA]
      clear hA hAl
      go_wp2_with fail
      with_reducible refine (HTr.out _).mono ?_
      rintro e w5 ⟨rfl, rfl⟩
      go_wp2_with fail
      go_ret
      exact ⟨rfl, HB4.out⟩
end Go.Proofs.YtbphnlaoiikebaaGreatDoor
