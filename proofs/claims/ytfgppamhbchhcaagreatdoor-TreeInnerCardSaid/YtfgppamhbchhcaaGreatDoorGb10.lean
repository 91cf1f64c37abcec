/- Contracts of package header: linesOf. -/
import Derived.Test.YtfgppamhbchhcaaGreatDoorGb08
import Derived.Test.YtfgppamhbchhcaaGreatDoorGb09
namespace Go.Proofs.YtfgppamhbchhcaaGreatDoor
open Go Go.RowKit

/-- A slice of lines, wherever it begins: what its cells hold. -/
def lnsAt (W : World) (v : Value) (ls : List Ln) : Prop :=
  ∃ ao cap, v = .slice ao ls.length cap ∧ ls.length ≤ cap ∧ cap ≤ maxLen ∧ (ls = [] ∨ ∃ g off, ao = some ⟨g, off, none⟩ ∧ g < W.heap.size ∧
    ∀ i, (h : i < ls.length) → W.cell? ⟨g, off + i * 3, none⟩ = some (.int .i64 (ls[i].f : Int)) ∧ W.cell? ⟨g, off + i * 3 + 1, none⟩ = some (.int .i64 (ls[i].t : Int)) ∧ W.cell? ⟨g, off + i * 3 + 2, none⟩ = some (.int .i64 (ls[i].n : Int)))
theorem lnsAt.below {W W' : World} {v : Value} {ls : List Ln} (h : lnsAt W v ls) (hb : Below W.heap.size W W') : lnsAt W' v ls := by
  obtain ⟨ao, cap, e, h1, h2, h3⟩ := h
  refine ⟨ao, cap, e, h1, h2, h3.imp id ?_⟩
  rintro ⟨g, off, e, hg, hc⟩
  refine ⟨g, off, e, Nat.lt_of_lt_of_le hg hb.size, fun i hi => ?_⟩
  obtain ⟨c0, c1, c2⟩ := hc i hi
  exact ⟨(hb.cell (p := ⟨g, off + i * 3, none⟩) hg).trans c0, (hb.cell (p := ⟨g, off + i * 3 + 1, none⟩) hg).trans c1, (hb.cell (p := ⟨g, off + i * 3 + 2, none⟩) hg).trans c2⟩
theorem rowLn.lns {W : World} {v : Value} {ls : List Ln} (h : rowLn W v ls) : lnsAt W v ls := by
  obtain ⟨ao, cap, e, h1, h2, h3⟩ := h
  refine ⟨ao, cap, e, h1, h2, h3.imp id ?_⟩
  rintro ⟨g, e, hg, hc⟩
  refine ⟨g, 0, e, hg, fun i hi => ?_⟩
  simp only [Nat.zero_add]
  exact hc i hi
theorem rowLn.take {W : World} {ao : Option Addr} {cap : Nat} {ls : List Ln} (h : rowLn W (.slice ao ls.length cap) ls) {k : Nat} (hk : k ≤ ls.length) : lnsAt W (.slice ao k cap) (ls.take k) := by
  obtain ⟨ao', cap', e, h1, h2, h3⟩ := h.lns
  cases e
  have hlen : (ls.take k).length = k := by rw [List.length_take]; omega
  refine ⟨ao, cap, by rw [hlen], by omega, h2, ?_⟩
  rcases h3 with rfl | ⟨g, off, e, hg, hc⟩
  · left; exact List.take_nil
  · refine .inr ⟨g, off, e, hg, fun i hi => ?_⟩
    rw [List.getElem_take]
    exact hc i (by omega)
/-- The first line of some. -/
theorem lnsAt.head {W : World} {v : Value} {x : Ln} {r : List Ln} (h : lnsAt W v (x :: r)) : ∃ g off cap, v = .slice (some ⟨g, off, none⟩) (r.length + 1) cap ∧ r.length + 1 ≤ cap ∧ cap ≤ maxLen ∧ g < W.heap.size ∧
    W.cell? ⟨g, off, none⟩ = some (.int .i64 (x.f : Int)) ∧ W.cell? ⟨g, off + 1, none⟩ = some (.int .i64 (x.t : Int)) ∧ W.cell? ⟨g, off + 2, none⟩ = some (.int .i64 (x.n : Int)) := by
  obtain ⟨ao, cap, rfl, h1, h2, h3⟩ := h
  rcases h3 with h3 | ⟨g, off, rfl, hg, hc⟩
  · cases h3
  · have := hc 0 (by simp)
    simp only [Nat.zero_mul, Nat.add_zero, List.getElem_cons_zero] at this
    exact ⟨g, off, cap, rfl, h1, h2, hg, this⟩
theorem lnsAt.tail {W : World} {g off cap n : Nat} {x : Ln} {r : List Ln} (h : lnsAt W (.slice (some ⟨g, off, none⟩) n cap) (x :: r)) (hn : n = r.length + 1) : lnsAt W (.slice (some ⟨g, off + 3, none⟩) r.length (cap - 1)) r := by
  subst hn
  obtain ⟨ao, cap', e, h1, h2, h3⟩ := h
  cases e
  simp only [List.length_cons] at h1
  rcases h3 with h3 | ⟨g', off', e, hg, hc⟩
  · cases h3
  · cases e
    refine ⟨_, cap - 1, rfl, by omega, by omega, .inr ⟨g, off + 3, rfl, hg, fun i hi => ?_⟩⟩
    have := hc (i + 1) (by simpa using hi)
    simp only [List.getElem_cons_succ] at this
    rw [show off + 3 + i * 3 = off + (i + 1) * 3 by omega]
    exact this
theorem lnsAt.nil {W : World} (ao : Option Addr) (cap : Nat) (h : cap ≤ maxLen) : lnsAt W (.slice ao 0 cap) [] := ⟨ao, cap, rfl, Nat.zero_le _, h, .inl rfl⟩

/-- The lines of a header, and where what follows begins. -/
def headZ (l : List UInt8) (f t : Int) : List Ln := (linesZ l f t).take (eI (linesZ l f t))
def behindN (ls : List Ln) (t : Nat) : Nat := if h : eI ls < ls.length then (ls[eI ls]).n else t
theorem eI_le (ls : List Ln) : eI ls ≤ ls.length := List.findIdx_le_length

set_option maxHeartbeats 2000000 in
theorem linesOf_no (v : Value) (l : List UInt8) (f t : Int) (w : World) (hv : bytesArg w v l) (hw : withinB f t l.length = false) :
    Calls Tryz.prog 36 #[v, .agg #[.int .i64 f, .int .i64 t]] w fun e w' => e = .returned (.tuple #[.slice none 0 0, .int .i64 f]) ∧ Below w.heap.size w w' := by
  obtain ⟨ao, cap, rfl, hc, hm, hs⟩ := hv
  have HW := Lib.hid (fun W => within_any f t (l.length : Int) W)
  rw [hw] at HW
  clear hw hs
  go_enter Tryz.func36, Tryz.ntmps36
  go_wp2_with fail
  with_reducible refine (HW.out _).mono ?_
  rintro e w1 ⟨rfl, hb1⟩
  obtain ⟨c0, c1⟩ := box2_cells hb1
  have HB1 : Hid (Below w.heap.size w w1) := ((Below.refl _ _).alloc (Nat.le_refl _) _).trans (hb1.mono (by simp))
  clear hb1
  go_wp2_with fail
  go_quiet (fail)
  go_wp2
  go_ret2
  exact ⟨rfl, HB1.out.trans ((below_drewN' _).mono HB1.out.size)⟩

theorem linesZ_yes (l : List UInt8) {f t : Int} (hw : withinB f t l.length = true) : linesZ l f t = linesS l f.toNat t.toNat := by
  unfold linesZ
  rw [if_pos hw]
def headPost (ls : List Ln) (t : Nat) (w : World) (e : Ending) (w' : World) : Prop :=
  ∃ u, e = .returned (.tuple #[u, .int .i64 (behindN ls t : Int)]) ∧ lnsAt w' u (ls.take (eI ls)) ∧ Below w.heap.size w w'
set_option maxHeartbeats 2000000 in
theorem linesOf_yes (v : Value) (l : List UInt8) (f t : Nat) (w : World) (hv : bytesArg w v l) (hft : f ≤ t) (htl : t ≤ l.length) (hbig : l.length ≤ 1048576) :
    Calls Tryz.prog 36 #[v, .agg #[.int .i64 (f : Int), .int .i64 (t : Int)]] w (headPost (linesS l f t) t w) := by
  have HV := Lib.hid hv
  obtain ⟨ao, cap, rfl, hc, hm, hs⟩ := hv
  have hw : withinB (f : Int) (t : Int) l.length = true := withinB_yes (by omega)
  have HW := Lib.hid (fun W => within_any (f : Int) (t : Int) (l.length : Int) W)
  rw [hw] at HW
  have HO := Lib.hid (fun W h => of_any (.slice ao l.length cap) l (f : Int) (t : Int) W h hbig)
  rw [linesZ_yes l hw] at HO
  simp only [Int.toNat_natCast] at HO
  obtain ⟨ls, hls⟩ : ∃ ls, ls = linesS l f t := ⟨_, rfl⟩
  rw [← hls] at HO ⊢
  have hll : ls.length ≤ 1048576 := by rw [hls]; have := linesS_len l f t; omega
  have HEm := Lib.hid (fun W v h => empty_any v ls W h)
  unfold emptyS at HEm
  clear hw hs hls
  go_enter Tryz.func36, Tryz.ntmps36
  go_wp2_with fail
  with_reducible refine (HW.out _).mono ?_
  rintro e w1 ⟨rfl, hb1⟩
  obtain ⟨c0, c1⟩ := box2_cells hb1
  have HB1 : Hid (Below w.heap.size w w1) := ((Below.refl _ _).alloc (Nat.le_refl _) _).trans (hb1.mono (by simp))
  clear hb1
  go_wp2_with fail
  with_reducible refine (HO.out _ ?h1).mono ?_
  case h1 => exact bytesArg.below HV.out HB1.out
  rintro e w2 ⟨u, rfl, hown, hb2⟩
  have HB2 : Hid (Below w.heap.size w w2) := HB1.out.trans (hb2.mono HB1.out.size)
  have hlt : w.heap.size < w1.heap.size := World.block_lt_of_cell? _ _ c0
  replace c0 := (hb2.cell (p := ⟨w.heap.size, 0, none⟩) hlt).trans c0
  replace c1 := (hb2.cell (p := ⟨w.heap.size, 1, none⟩) hlt).trans c1
  have hlt2 : w.heap.size < w2.heap.size := Nat.lt_of_lt_of_le hlt hb2.size
  have HR : Hid (rowLn w2 u ls) := rowLn_owned hown
  clear hb2 hown hlt HW HO HV HB1
  go_wp2_with fail
  with_reducible refine (HEm.out _ _ HR.out).mono ?_
  rintro e w3 ⟨rfl, hb3⟩
  have HB3 : Hid (Below w.heap.size w w3) := HB2.out.trans (hb3.mono HB2.out.size)
  have HR3 : Hid (rowLn w3 u ls) := HR.out.below hb3
  replace c0 := (hb3.cell (p := ⟨w.heap.size, 0, none⟩) hlt2).trans c0
  replace c1 := (hb3.cell (p := ⟨w.heap.size, 1, none⟩) hlt2).trans c1
  clear hb3 HR HEm HB2 hlt2
  obtain ⟨uo, uc, rfl, huc, hum, hucell⟩ := HR3.out.at
  unfold maxLen at hum
  obtain ⟨K, hK⟩ : ∃ K, K = eI ls := ⟨_, rfl⟩
  by_cases hk : K < ls.length
  · have HT : Hid (lnsAt w3 (.slice uo K uc) (ls.take (eI ls))) := by rw [hK]; exact HR3.out.take (eI_le ls)
    obtain ⟨g, rfl, hg, d0, d1, d2⟩ := hucell K hk
    obtain ⟨N, hN⟩ : ∃ N, N = (ls[K]).n := ⟨_, rfl⟩
    have HN : Hid (behindN ls t = N) := by
      unfold Hid behindN
      rw [dif_pos (by omega), hN]
      congr 2
      exact hK.symm
    rw [← hN] at d2
    rw [← hK, if_pos hk]
    clear hK hN hucell d0 d1
    go_wp2_with fail
    go_quiet (fail)
    go_wp2
    go_ret2
    refine ⟨_, by rw [HN.out]; rfl, lnsAt.below HT.out (below_drewN' _), HB3.out.trans ((below_drewN' _).mono HB3.out.size)⟩
  · have HT : Hid (lnsAt w3 (.slice uo ls.length uc) (ls.take (eI ls))) := by
      have := HR3.out.take (eI_le ls)
      have e : eI ls = ls.length := by have := eI_le ls; omega
      rwa [e] at this ⊢
    have HN : Hid (behindN ls t = t) := by
      unfold Hid behindN
      rw [dif_neg (by omega)]
    rw [← hK, if_neg hk]
    clear hK hucell
    go_wp2_with fail
    go_quiet (fail)
    go_wp2
    go_ret2
    refine ⟨_, by rw [HN.out]; rfl, lnsAt.below HT.out (below_drewN' _), HB3.out.trans ((below_drewN' _).mono HB3.out.size)⟩
end Go.Proofs.YtfgppamhbchhcaaGreatDoor
