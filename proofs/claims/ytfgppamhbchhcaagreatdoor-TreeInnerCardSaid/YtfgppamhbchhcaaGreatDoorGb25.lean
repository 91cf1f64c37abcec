/- Contracts of package tree: delimiters. -/
import Derived.Test.YtfgppamhbchhcaaGreatDoorGb24
import Derived.Test.YtfgppamhbchhcaaGreatDoorGb11
import Derived.Deep.DeepCutAuto
import Derived.Deep.CutBlock
namespace Go.Proofs.YtfgppamhbchhcaaGreatDoor
open Go Go.RowKit

def spC (s : Sp) : List Value := [.int .i64 (s.1 : Int), .int .i64 (s.2 : Int)]
def spCells (ss : List Sp) : List Value := ss.flatMap spC
theorem spCells_snoc (ss : List Sp) (s : Sp) : spCells (ss ++ [s]) = spCells ss ++ spC s := by simp [spCells]
theorem spCells_len (ss : List Sp) : (spCells ss).length = ss.length * 2 := by
  induction ss with
  | nil => rfl
  | cons s r ih => simp [spCells, spC] at ih ⊢; omega
theorem spC_one (s : Sp) : ∀ u ∈ spC s, u.oneCell' = true := by simp [spC, Value.oneCell']
/-- A slice of spans: what its cells hold. -/
def rowSp (W : World) (v : Value) (ss : List Sp) : Prop :=
  ∃ ao cap, v = .slice ao ss.length cap ∧ ss.length ≤ cap ∧ cap ≤ maxLen ∧ (ss = [] ∨ ∃ g, ao = some ⟨g, 0, none⟩ ∧ g < W.heap.size ∧
    ∀ i, (h : i < ss.length) → W.cell? ⟨g, i * 2, none⟩ = some (.int .i64 (ss[i].1 : Int)) ∧ W.cell? ⟨g, i * 2 + 1, none⟩ = some (.int .i64 (ss[i].2 : Int)))
theorem rowSp.below {W W' : World} {v : Value} {ss : List Sp} (h : rowSp W v ss) (hb : Below W.heap.size W W') : rowSp W' v ss := by
  obtain ⟨ao, cap, e, h1, h2, h3⟩ := h
  refine ⟨ao, cap, e, h1, h2, h3.imp id ?_⟩
  rintro ⟨g, e, hg, hc⟩
  refine ⟨g, e, Nat.lt_of_lt_of_le hg hb.size, fun i hi => ?_⟩
  obtain ⟨c0, c1⟩ := hc i hi
  exact ⟨(hb.cell (p := ⟨g, i * 2, none⟩) hg).trans c0, (hb.cell (p := ⟨g, i * 2 + 1, none⟩) hg).trans c1⟩
theorem spCells_at (ss : List Sp) (i : Nat) (h : i < ss.length) : (spCells ss)[i * 2]? = some (.int .i64 (ss[i].1 : Int)) ∧ (spCells ss)[i * 2 + 1]? = some (.int .i64 (ss[i].2 : Int)) := by
  induction ss generalizing i with
  | nil => simp at h
  | cons x r ih =>
    have e : spCells (x :: r) = spC x ++ spCells r := by simp [spCells]
    rw [e]
    cases i with
    | zero => simp [spC]
    | succ i =>
      have := ih i (by simpa using h)
      simp only [List.getElem_cons_succ]
      rw [List.getElem?_append_right (by simp [spC]; omega), List.getElem?_append_right (by simp [spC]; omega)]
      simp only [spC, List.length_cons, List.length_nil]
      rw [show (i + 1) * 2 - (0 + 1 + 1) = i * 2 by omega, show (i + 1) * 2 + 1 - (0 + 1 + 1) = i * 2 + 1 by omega]
      exact this
theorem rowSp_owned {w : World} {base : Nat} {e : TypeId} {v : Value} {ss : List Sp} (h : w.ownsRow base e 2 v ss.length (spCells ss)) : rowSp w v ss := by
  rcases h.2 with ⟨rfl, h0⟩ | ⟨g, cap, cur, rfl, _, hh, hc, hm, hs, ht⟩
  · obtain rfl : ss = [] := List.eq_nil_of_length_eq_zero h0
    exact ⟨none, 0, rfl, Nat.le_refl _, Nat.zero_le _, .inl rfl⟩
  · refine ⟨_, cap, rfl, hc, hm, .inr ⟨g, rfl, (Array.getElem?_eq_some_iff.1 hh).1, fun i hi => ?_⟩⟩
    obtain ⟨c0, c1⟩ := spCells_at ss i hi
    rw [← ht] at c0 c1
    rw [List.getElem?_take, if_pos (by omega)] at c0 c1
    simp only [World.cell?, hh]
    exact ⟨by simpa using c0, by simpa using c1⟩
theorem rowSp.at {W : World} {v : Value} {ss : List Sp} (h : rowSp W v ss) : ∃ ao cap, v = .slice ao ss.length cap ∧ ss.length ≤ cap ∧ cap ≤ maxLen ∧
    ∀ i, (h : i < ss.length) → ∃ g, ao = some ⟨g, 0, none⟩ ∧ g < W.heap.size ∧ W.cell? ⟨g, i * 2, none⟩ = some (.int .i64 (ss[i].1 : Int)) ∧ W.cell? ⟨g, i * 2 + 1, none⟩ = some (.int .i64 (ss[i].2 : Int)) := by
  obtain ⟨ao, cap, e, h1, h2, h3⟩ := h
  refine ⟨ao, cap, e, h1, h2, fun i hi => ?_⟩
  rcases h3 with rfl | ⟨g, e, hg, hc⟩
  · simp at hi
  · exact ⟨g, e, hg, hc i hi⟩

theorem linesS_in (l : List UInt8) : ∀ (q a b : Nat), b - a ≤ q → a ≤ b → b ≤ l.length → ∀ x ∈ linesS l a b, a ≤ x.f ∧ x.f < x.n ∧ x.f ≤ x.t ∧ x.t ≤ x.n ∧ x.n ≤ b
  | q, a, b, hq, hab, hb => by
    rcases Nat.lt_or_ge a b with h | h
    · have hF := firstS_bounds l h
      rw [linesS_step l h hb]
      intro x hx
      rcases List.mem_cons.1 hx with rfl | hx
      · omega
      · cases q with
        | zero => omega
        | succ q =>
          have := linesS_in l q (firstS l a b).n b (by omega) hF.2.2.2.2.1 hb x hx
          omega
    · rw [linesS_nil l (by omega)]
      intro x hx
      cases hx
theorem lkS_le (m0 t : List UInt8) : lkS m0 t = 0 ∨ lkS m0 t = 1 ∨ lkS m0 t = 2 := by
  unfold lkS
  split
  · split
    · split <;> simp
    · split <;> simp
  · simp
theorem Tryz.infoSp : (Tryz.prog.info? 26).map (fun i => (i.zero, i.size, i.bytes)) = some (some (.agg #[.int .i64 0, .int .i64 0]), 2, 16) := by kernel_rfl
def cutsPost (p : List Sp × Sp) (w : World) (e : Ending) (w' : World) : Prop :=
  ∃ u, e = .returned (.tuple #[u, .agg #[.int .i64 (p.2.1 : Int), .int .i64 (p.2.2 : Int)]]) ∧ w'.ownsRow w.heap.size 26 2 u p.1.length (spCells p.1) ∧ Below w.heap.size w w'
set_option maxRecDepth 100000 in
set_option maxHeartbeats 4000000 in
theorem delimiters_any (v : Value) (l : List UInt8) (h t : Nat) (b : ByteArray) (w : World) (hv : bytesArg w v l) (hht : h ≤ t) (htl : t ≤ l.length) (hbig : l.length ≤ 1000000) (hb : b.size ≤ 1000) :
    Calls Tryz.prog 42 #[v, .agg #[.int .i64 (h : Int), .int .i64 (t : Int)], .string b] w (cutsPost (cutsS l (45 :: 45 :: b.data.toList) t h (linesS l h t)) w) := by
  have HV := Lib.hid hv
  obtain ⟨ao, cap, rfl, hc, hm, hs⟩ := hv
  have HS0 : Hid (sliceAt w ao l) := hs
  obtain ⟨i0, hi0, hz0, hz1, hz2⟩ := info_parts Tryz.infoSp
  have HI0 := Lib.hid hi0
  have HZ0 := Lib.hid hz0
  have HZ1 := Lib.hid hz1
  have HZ2 := Lib.hid hz2
  clear hi0 hz0 hz1 hz2
  have HOf := Lib.hid (fun W (hW : bytesArg W (.slice ao l.length cap) l) => of_any (.slice ao l.length cap) l (h : Int) (t : Int) W hW (by omega))
  have HZ : Hid (linesZ l (h : Int) (t : Int) = linesS l h t) := by
    unfold Hid linesZ
    rw [withinB_yes (by omega), if_pos rfl]
    rfl
  rw [HZ.out] at HOf
  obtain ⟨ls, hls⟩ : ∃ ls, ls = linesS l h t := ⟨_, rfl⟩
  have HIn : Hid (∀ x ∈ ls, h ≤ x.f ∧ x.f < x.n ∧ x.f ≤ x.t ∧ x.t ≤ x.n ∧ x.n ≤ l.length) := fun x hx => by
    rw [hls] at hx
    have := linesS_in l _ h t (Nat.le_refl _) hht htl x hx
    omega
  have hln : ls.length ≤ 1000000 := by
    have := linesS_len l h t
    rw [← hls] at this
    omega
  rw [← hls] at HOf ⊢
  clear hls HZ
  obtain ⟨s, hsd⟩ : ∃ s : ByteArray, s = ⟨#[45, 45]⟩ ++ b := ⟨_, rfl⟩
  have hsl : s.data.toList = 45 :: 45 :: b.data.toList := by rw [hsd]; simp [ByteArray.data_append]
  have hsz : s.size ≤ 2000 := by rw [hsd, ByteArray.size_append]; show 2 + b.size ≤ 2000; omega
  have hs2 : s.size = 2 + b.size := by rw [hsd, ByteArray.size_append]; rfl
  have hsz0 : 2 ≤ s.size := by rw [hsd, ByteArray.size_append]; show 2 ≤ 2 + b.size; omega
  obtain ⟨m0, hm0⟩ : ∃ m0, m0 = s.data.toList := ⟨_, rfl⟩
  rw [← hsl, ← hm0]
  have hml : m0.length = s.size := by rw [hm0, len_toList]
  have hconv := fun W => conv_bytesArg (P := Tryz.prog) W 9 24 5 s (by unfold maxLen; omega) Tryz.underlying9 Tryz.underlying24 Tryz.underlying5
  rw [← hm0] at hconv
  have HCv := Lib.hid hconv
  have HSd := Lib.hid hsd
  clear hconv hsd hsl hm0 hs
  obtain ⟨W2, hW2⟩ : ∃ W2, W2 = (w.alloc (.cells #[.int .i64 (h : Int), .int .i64 (t : Int)] 26)).alloc (.cells #[.int .i64 0, .int .i64 0] 26) := ⟨_, rfl⟩
  obtain ⟨W3, c9, hrun, harg, hb3⟩ := HCv.out W2
  obtain ⟨M9, hM9⟩ : ∃ M9, M9 = W2.heap.size := ⟨_, rfl⟩
  rw [← hM9] at hrun harg
  have e0 : W2.heap[w.heap.size]? = some (.cells #[.int .i64 (h : Int), .int .i64 (t : Int)] 26 (0, 0)) := by rw [hW2]; exact heap_alloc2_old _ _ _
  have e1 : W2.heap[w.heap.size + 1]? = some (.cells #[.int .i64 0, .int .i64 0] 26 (0, 0)) := by rw [hW2]; exact heap_alloc2_new _ _ _
  have hB2 : Below w.heap.size w W2 := by rw [hW2]; exact ((Below.refl _ _).alloc (Nat.le_refl _) _).alloc (by simp) _
  have hz2 : w.heap.size + 2 = W2.heap.size := by rw [hW2]; simp
  rw [hW2, HSd.out] at hrun
  have HB3 : Hid (Below w.heap.size w W3) := hB2.trans (hb3.mono hB2.size)
  have hz3 : w.heap.size + 2 ≤ W3.heap.size := by have := hb3.size; omega
  have E0 : Hid (W3.heap[w.heap.size]? = some (.cells #[.int .i64 (h : Int), .int .i64 (t : Int)] 26 (0, 0))) := (hb3.block _ (by omega)).trans e0
  have E1 : Hid (W3.heap[w.heap.size + 1]? = some (.cells #[.int .i64 0, .int .i64 0] 26 (0, 0))) := (hb3.block _ (by omega)).trans e1
  have c0 : W3.cell? ⟨w.heap.size, 0, none⟩ = some (.int .i64 (h : Int)) := by simp [World.cell?, E0.out]
  have c1 : W3.cell? ⟨w.heap.size, 1, none⟩ = some (.int .i64 (t : Int)) := by simp [World.cell?, E0.out]
  obtain ⟨ap, cp, heq, hcp, hcm, hsl⟩ := harg
  obtain ⟨rfl, _, rfl⟩ := Value.slice.inj heq
  have HM : Hid (sliceAt W3 (some ⟨M9, 0, none⟩) m0) := hsl
  have HV3 : Hid (bytesArg W3 (.slice ao l.length cap) l) := bytesArg.below HV.out HB3.out
  have hM9z : M9 < W3.heap.size := by
    have := HCv.out W2
    have h9 := hb3.size
    rcases hsl with e | ⟨b', o', e, hlt, _⟩
    · rw [e] at hml; simp at hml; omega
    · cases e; exact hlt
  clear HCv HV hsl heq hcp hcm e0 e1 hb3 hW2 hM9 hB2 hz2
  go_enter Tryz.func42, Tryz.ntmps42
  go_wp2_with fail
  with_reducible refine (HOf.out _ ?h1).mono ?_
  case h1 => exact HV3.out
  rintro e w4 ⟨u, rfl, hrow, hb4⟩
  have HLn := Lib.hid (rowLn_owned hrow)
  have HB4 := Lib.hid (HB3.out.trans (hb4.mono HB3.out.size))
  have hz4 : w.heap.size + 2 ≤ w4.heap.size := Nat.le_trans hz3 hb4.size
  have E0' : Hid (w4.heap[w.heap.size]? = some (.cells #[.int .i64 (h : Int), .int .i64 (t : Int)] 26 (0, 0))) := (hb4.block _ (by omega)).trans E0.out
  have E1' : Hid (w4.heap[w.heap.size + 1]? = some (.cells #[.int .i64 0, .int .i64 0] 26 (0, 0))) := (hb4.block _ (by omega)).trans E1.out
  have HM4 : Hid (sliceAt w4 (some ⟨M9, 0, none⟩) m0) := HM.out.below hb4
  have HS4 : Hid (sliceAt w4 ao l) := HS0.out.below HB4.out
  clear hrow hb4 E0 E1 HM HV3 c0 c1 HOf HSd
  obtain ⟨lo, lc, rfl, hlc, hlm, hcell⟩ := HLn.out.at
  unfold maxLen at hlm
  have HC := Lib.hid hcell
  clear hcell HLn
  go_wp2_with fail
  go_loopg [8, 10, 23] ls.length (fun g x8 x10 x23 wr => ∃ (k fr : Nat) (cs : List Sp), k ≤ ls.length ∧ cs.length ≤ k ∧ g = ls.length - k ∧ x10 = .int .i64 (fr : Int) ∧ x23 = .int .i64 (k : Int) ∧ Hid (wr.ownsRow w4.heap.size 26 2 x8 cs.length (spCells cs)) ∧ Hid (Below w4.heap.size w4 wr) ∧
    Hid (cutsS l m0 t h ls = (cs ++ (cutsS l m0 t fr (ls.drop k)).1, (cutsS l m0 t fr (ls.drop k)).2)))
  case atStart => exact ⟨0, h, [], Nat.zero_le _, Nat.zero_le _, rfl, rfl, rfl, World.ownsRow_nil _ _ _ _, Below.refl _ _, by unfold Hid; rw [List.drop_zero]; rfl⟩
  case round =>
    obtain ⟨k, fr, cs, hk, hck, rfl, rfl, rfl, HO, HB, HQ⟩ := hrel
    by_cases hlt : k < ls.length
    · obtain ⟨g, rfl, hg, x0, x1, x2⟩ := HC.out k hlt
      obtain ⟨hx0, hx1, hx2, hx3, hx4⟩ := HIn.out ls[k] (List.getElem_mem hlt)
      have HDr : Hid (ls.drop k = ls[k] :: ls.drop (k + 1)) := List.drop_eq_getElem_cons hlt
      obtain ⟨x, hx⟩ : ∃ x, x = ls[k] := ⟨_, rfl⟩
      rw [← hx] at x0 x1 x2 hx0 hx1 hx2 hx3 hx4 HDr
      clear hx
      obtain ⟨xf, xt, xn⟩ := x
      simp only at x0 x1 x2 hx0 hx1 hx2 hx3 hx4
      replace x0 := (HB.out.cell (p := ⟨g, k * 3, none⟩) hg).trans x0
      replace x1 := (HB.out.cell (p := ⟨g, k * 3 + 1, none⟩) hg).trans x1
      replace x2 := (HB.out.cell (p := ⟨g, k * 3 + 2, none⟩) hg).trans x2
      have hB0 := HB.out.size
      obtain ⟨ob, off, rfl, hbl, _⟩ := sliceAt.cell HS4.out 0 (by omega)
      have hcf : ¬ cap = xf := by omega
      have HT : Hid (∀ W, Below w4.heap.size w4 W → nzArg W (.slice (some ⟨ob, off + xf, none⟩) (xt - xf) (cap - xf)) (textOf l ⟨xf, xt, xn⟩)) := fun W hb => by
        have hpl : (textOf l ⟨xf, xt, xn⟩).length = xt - xf := partS_len l (show xt ≤ l.length by omega)
        have h1 : sliceAt W (some ⟨ob, off + xf, none⟩) (textOf l ⟨xf, xt, xn⟩) := ((sliceAt.drop (k := xf) HS4.out).take _).below hb
        have := nzArg_some (cap := cap - xf) h1 (by omega) (by omega)
        rw [hpl] at this
        exact this
      have HTl : Hid ((textOf l ⟨xf, xt, xn⟩).length ≤ 1000000) := by
        have hpl : (textOf l ⟨xf, xt, xn⟩).length = xt - xf := partS_len l (show xt ≤ l.length by omega)
        unfold Hid; omega
      obtain ⟨X, hX⟩ : ∃ X, X = (wr.alloc (.cells #[.int .i64 (xf : Int), .int .i64 (xt : Int), .int .i64 (xn : Int)] 88)).alloc (.cells #[.int .i64 (fr : Int), .int .i64 (xn : Int)] 26) := ⟨_, rfl⟩
      have hXz : X.heap.size = wr.heap.size + 2 := by rw [hX]; simp
      have hBX : Below w4.heap.size w4 X := by rw [hX]; exact (HB.out.alloc hB0 _).alloc (by simp; omega) _
      have f0 : X.heap[wr.heap.size]? = some (.cells #[.int .i64 (xf : Int), .int .i64 (xt : Int), .int .i64 (xn : Int)] 88 (0, 0)) := by rw [hX]; exact heap_alloc2_old _ _ _
      have f1 : X.heap[wr.heap.size + 1]? = some (.cells #[.int .i64 (fr : Int), .int .i64 (xn : Int)] 26 (0, 0)) := by rw [hX]; exact heap_alloc2_new _ _ _
      have hOX : X.ownsRow w4.heap.size 26 2 u8 cs.length (spCells cs) := by rw [hX]; exact (HO.out.alloc _).alloc _
      have HK : Hid (Calls Tryz.prog 62 #[.slice (some ⟨ob, off + xf, none⟩) (xt - xf) (cap - xf), .slice (some ⟨M9, 0, none⟩) s.size c9] X fun e w' => e = .returned (.int .i64 (lkS m0 (textOf l ⟨xf, xt, xn⟩) : Int)) ∧ Below X.heap.size X w') :=
        lineKind_any _ _ m0 M9 s.size c9 X (HT.out X hBX) HTl.out hml (by omega) (HM4.out.below hBX)
      have HBX := Lib.hid hBX
      have F0 := Lib.hid f0
      have F1 := Lib.hid f1
      have HOX := Lib.hid hOX
      rw [hX, hs2] at HK
      clear HTl HT hBX f0 f1 hOX
      go_wp2_with fail
      with_reducible refine HK.out.mono ?_
      rintro e w5 ⟨rfl, hb5⟩
      rw [← hX] at hb5
      have y0 : w5.cell? ⟨wr.heap.size, 0, none⟩ = some (.int .i64 (xf : Int)) := by simp [World.cell?, (hb5.block _ (by omega)).trans F0.out]
      have y1 : w5.cell? ⟨wr.heap.size, 1, none⟩ = some (.int .i64 (xt : Int)) := by simp [World.cell?, (hb5.block _ (by omega)).trans F0.out]
      have y2 : w5.cell? ⟨wr.heap.size, 2, none⟩ = some (.int .i64 (xn : Int)) := by simp [World.cell?, (hb5.block _ (by omega)).trans F0.out]
      have z0 : w5.cell? ⟨wr.heap.size + 1, 0, none⟩ = some (.int .i64 (fr : Int)) := by simp [World.cell?, (hb5.block _ (by omega)).trans F1.out]
      have z1 : w5.cell? ⟨wr.heap.size + 1, 1, none⟩ = some (.int .i64 (xn : Int)) := by simp [World.cell?, (hb5.block _ (by omega)).trans F1.out]
      have HB5 := Lib.hid (HBX.out.trans (hb5.mono HBX.out.size))
      have HO5 := Lib.hid (ownsRow_below HOX.out hb5)
      have hz5 : w4.heap.size ≤ w5.heap.size := HB5.out.size
      have hzw : wr.heap.size + 2 ≤ w5.heap.size := by have := hb5.size; omega
      have E5 : Hid (w5.heap[w.heap.size + 1]? = some (.cells #[.int .i64 0, .int .i64 0] 26 (0, 0))) := (HB5.out.block _ (by omega)).trans E1'.out
      clear hb5 HK HBX F0 F1 HOX HB x0 x1 x2 hX
      rcases lkS_le m0 (textOf l ⟨xf, xt, xn⟩) with hk0 | hk0 | hk0
      · rw [hk0]
        have HQ' : Hid (cutsS l m0 t h ls = (cs ++ (cutsS l m0 t xt (ls.drop (k + 1))).1, (cutsS l m0 t xt (ls.drop (k + 1))).2)) := by
          unfold Hid
          rw [HQ.out, HDr.out, cutsS_other (by rw [hk0]; decide) (by rw [hk0]; decide)]
        clear hk0 HQ HDr
        go_wp2_with fail
        go_roundg (ls.length - (k + 1))
        case measure => omega
        case rel => exact ⟨k + 1, xt, cs, by omega, by omega, rfl, rfl, by go_num, HO5.out, HB5.out, HQ'⟩
      · rw [hk0]
        have HQ' : Hid (cutsS l m0 t h ls = ((cs ++ [(fr, xn)]) ++ (cutsS l m0 t xn (ls.drop (k + 1))).1, (cutsS l m0 t xn (ls.drop (k + 1))).2)) := by
          unfold Hid
          rw [HQ.out, HDr.out, cutsS_open hk0, List.append_assoc]
          rfl
        clear hk0 HQ HDr
        go_wp2_with (at_builtin; refine wpList_append_own _ rfl _ _ 28 rfl w4.heap.size 26 i0 (.agg #[.int .i64 0, .int .i64 0]) 2 16 Tryz.underlying28 HI0.out HZ0.out HZ1.out HZ2.out rfl (by decide) _ _ _ rfl (HO5.out.alloc _) ⟨w5.heap.size, 0, none⟩ 1 1 (spC (fr, xn)) rfl rfl ?c1 ?c2 ?c3 ?c4 ?c5 ?_)
        case c1 => exact cells_two_new w5 _ _ _
        case c2 => exact spC_one (fr, xn)
        case c3 => unfold maxLen; omega
        case c4 => omega
        case c5 => simp; omega
        intro v' w6 hown6 hgrow6 _
        have hA : Below w4.heap.size w4 (w5.alloc (.cells #[.int .i64 (fr : Int), .int .i64 (xn : Int)] 26)) := HB5.out.alloc hz5 _
        have HB6 : Hid (Below w4.heap.size w4 w6) := hA.grown hgrow6 hA.size (fun q hq => (HO5.out.lt q hq).1)
        have HO6 : Hid (w6.ownsRow w4.heap.size 26 2 v' (cs ++ [(fr, xn)]).length (spCells (cs ++ [(fr, xn)]))) := by
          unfold Hid
          rw [spCells_snoc, List.length_append]
          exact hown6
        have y2' : w6.cell? ⟨wr.heap.size, 2, none⟩ = some (.int .i64 (xn : Int)) := by
          have hne : u8.ownBlock ≠ some wr.heap.size := fun e => by have := (HO.out.lt _ e).2; omega
          have hb6 : w6.heap[wr.heap.size]? = (w5.alloc (.cells #[.int .i64 (fr : Int), .int .i64 (xn : Int)] 26)).heap[wr.heap.size]? := hgrow6.block _ (by simp; omega) (fun e => hne e.symm)
          rw [World.cell?_of_block (a := ⟨wr.heap.size, 2, none⟩) hb6]
          exact (((Below.refl _ _).alloc (Nat.le_refl _) _ : Below w5.heap.size w5 _).cell (p := ⟨wr.heap.size, 2, none⟩) (show wr.heap.size < w5.heap.size by omega)).trans y2
        clear hA hown6 hgrow6 HO5 HB5 HO E5 y0 y1 y2 z0 z1
        go_wp2_with fail
        go_roundg (ls.length - (k + 1))
        case measure => omega
        case rel => exact ⟨k + 1, xn, cs ++ [(fr, xn)], by omega, by simp; omega, rfl, rfl, by go_num, HO6.out, HB6.out, HQ'⟩
      · rw [hk0]
        have HE : Hid (cutsS l m0 t h ls = (cs, ((fr, xn) : Sp))) := by
          unfold Hid
          rw [HQ.out, HDr.out, cutsS_close hk0, List.append_nil]
        clear hk0 HQ HDr HO
        have q0 : w5.cell? ⟨w.heap.size + 1, 0, none⟩ = some (.int .i64 0) := by simp [World.cell?, E5.out]
        have q1 : w5.cell? ⟨w.heap.size + 1, 1, none⟩ = some (.int .i64 0) := by simp [World.cell?, E5.out]
        have q2 : w5.frozen? ⟨w.heap.size + 1, 0, none⟩ = false := by simp [World.frozen?, E5.out]
        have q3 : w5.frozen? ⟨w.heap.size + 1, 1, none⟩ = false := by simp [World.frozen?, E5.out]
        go_wp2_with fail
        go_region
        go_wp2
        (try simp only [Exit.inBlock, Exit.then])
        have r0 : (((w5.setCell ⟨w.heap.size + 1, 0, none⟩ (.int .i64 (fr : Int))).setCell ⟨w.heap.size + 1, 1, none⟩ (.int .i64 (xn : Int))).drew).cell? ⟨w.heap.size + 1, 0, none⟩ = some (.int .i64 (fr : Int)) := by
          exact (World.cell?_setCell_other _ _ _ _ (by simp)).trans (World.cell?_setCell_same _ _ _ q0)
        have r1 : (((w5.setCell ⟨w.heap.size + 1, 0, none⟩ (.int .i64 (fr : Int))).setCell ⟨w.heap.size + 1, 1, none⟩ (.int .i64 (xn : Int))).drew).cell? ⟨w.heap.size + 1, 1, none⟩ = some (.int .i64 (xn : Int)) := by
          exact World.cell?_setCell_same _ _ _ ((World.cell?_setCell_other _ _ _ _ (by simp)).trans q1)
        refine bodyPost_ret (v := .tuple #[u8, .agg #[.int .i64 (fr : Int), .int .i64 (xn : Int)]]) (by simp [results, Tryz.results42, go_sem, r0, r1]) rfl ?_
        have hlo : w.heap.size + 1 < w4.heap.size := by omega
        refine ⟨u8, by rw [HE.out], ?_, ?_⟩
        · rw [HE.out]
          exact own_base2 ((ownsRow_setCell_below (ownsRow_setCell_below HO5.out hlo _) hlo _).drew) (by omega)
        · exact (((HB4.out.trans (HB5.out.mono HB4.out.size)).setCell (p := ⟨w.heap.size + 1, 0, none⟩) (Nat.le_succ _) _).setCell (p := ⟨w.heap.size + 1, 1, none⟩) (Nat.le_succ _) _).drew
    · obtain rfl : k = ls.length := by omega
      have HE : Hid (cutsS l m0 t h ls = (cs, ((t, t) : Sp))) := by
        unfold Hid
        rw [HQ.out, List.drop_length, cutsS_nil, List.append_nil]
      have hB0 := HB.out.size
      have E5 : Hid (wr.heap[w.heap.size + 1]? = some (.cells #[.int .i64 0, .int .i64 0] 26 (0, 0))) := (HB.out.block _ (by omega)).trans E1'.out
      have q0 : wr.cell? ⟨w.heap.size + 1, 0, none⟩ = some (.int .i64 0) := by simp [World.cell?, E5.out]
      have q1 : wr.cell? ⟨w.heap.size + 1, 1, none⟩ = some (.int .i64 0) := by simp [World.cell?, E5.out]
      have q2 : wr.frozen? ⟨w.heap.size + 1, 0, none⟩ = false := by simp [World.frozen?, E5.out]
      have q3 : wr.frozen? ⟨w.heap.size + 1, 1, none⟩ = false := by simp [World.frozen?, E5.out]
      have e5 : wr.heap[w.heap.size]? = some (.cells #[.int .i64 (h : Int), .int .i64 (t : Int)] 26 (0, 0)) := (HB.out.block _ (by omega)).trans E0'.out
      have q5 : wr.cell? ⟨w.heap.size, 1, none⟩ = some (.int .i64 (t : Int)) := by simp [World.cell?, e5]
      clear e5
      go_wp2_with fail
      go_region
      go_wp2
      (try simp only [Exit.inBlock, Exit.then])
      have r0 : (((wr.setCell ⟨w.heap.size + 1, 0, none⟩ (.int .i64 (t : Int))).setCell ⟨w.heap.size + 1, 1, none⟩ (.int .i64 (t : Int))).drew).cell? ⟨w.heap.size + 1, 0, none⟩ = some (.int .i64 (t : Int)) := by
        exact (World.cell?_setCell_other _ _ _ _ (by simp)).trans (World.cell?_setCell_same _ _ _ q0)
      have r1 : (((wr.setCell ⟨w.heap.size + 1, 0, none⟩ (.int .i64 (t : Int))).setCell ⟨w.heap.size + 1, 1, none⟩ (.int .i64 (t : Int))).drew).cell? ⟨w.heap.size + 1, 1, none⟩ = some (.int .i64 (t : Int)) := by
        exact World.cell?_setCell_same _ _ _ ((World.cell?_setCell_other _ _ _ _ (by simp)).trans q1)
      refine bodyPost_ret (v := .tuple #[u8, .agg #[.int .i64 (t : Int), .int .i64 (t : Int)]]) (by simp [results, Tryz.results42, go_sem, r0, r1]) rfl ?_
      have hlo : w.heap.size + 1 < w4.heap.size := by omega
      refine ⟨u8, by rw [HE.out], ?_, ?_⟩
      · rw [HE.out]
        exact own_base2 ((ownsRow_setCell_below (ownsRow_setCell_below HO.out hlo _) hlo _).drew) (by omega)
      · exact (((HB4.out.trans (HB.out.mono HB4.out.size)).setCell (p := ⟨w.heap.size + 1, 0, none⟩) (Nat.le_succ _) _).setCell (p := ⟨w.heap.size + 1, 1, none⟩) (Nat.le_succ _) _).drew
end Go.Proofs.YtfgppamhbchhcaaGreatDoor
