/- Contracts of package header: linesOf. -/
import Derived.Test.YtkmgflnmffdhjaaGreatDoorGbHdrB
import Derived.Test.YtkmgflnmffdhjaaGreatDoorGbLinesF
import Derived.OneCell
import Derived.Deep.DeepCutAuto
import Derived.Deep.CutBlock
namespace Go.Proofs.YtkmgflnmffdhjaaGreatDoor
open Go Go.RowKit

/-- A slice of lines, wherever it begins: what its cells hold. -/
def lnsAt (W : World) (v : Value) (ls : List Ln) : Prop :=
  ∃ ao cap, v = .slice ao ls.length cap ∧ ls.length ≤ cap ∧ cap ≤ maxLen ∧ (ls = [] ∨ ∃ g off, ao = some ⟨g, off, none⟩ ∧ g < W.heap.size ∧
    ∀ i, (h : i < ls.length) → W.cell? ⟨g, off + i * 3, none⟩ = some (.int .i64 (ls[i].f : Int)) ∧ W.cell? ⟨g, off + i * 3 + 1, none⟩ = some (.int .i64 (ls[i].t : Int)) ∧ W.cell? ⟨g, off + i * 3 + 2, none⟩ = some (.int .i64 (ls[i].n : Int)))
theorem lnsAt.below {W W' : World} {v : Value} {ls : List Ln} (h : lnsAt W v ls) (hb : Below W.heap.size W W') : lnsAt W' v ls := by
  obtain ⟨ao, cap, e, h1, h2, h3⟩ := h
  refine ⟨ao, cap, e, h1, h2, h3.imp id ?_⟩
  rintro ⟨g, off, e, hg, hc⟩
  refine ⟨g, off, e, Nat.lt_of_lt_of_le hg hb.size, fun i hi => ?_⟩
  obtain ⟨c0, c1, c2⟩ := hc i hi
  exact ⟨(hb.cell (p := ⟨g, off + i * 3, none⟩) hg).trans c0, (hb.cell (p := ⟨g, off + i * 3 + 1, none⟩) hg).trans c1, (hb.cell (p := ⟨g, off + i * 3 + 2, none⟩) hg).trans c2⟩
theorem rowLn.lns {W : World} {v : Value} {ls : List Ln} (h : rowLn W v ls) : lnsAt W v ls := by
  obtain ⟨ao, cap, e, h1, h2, h3⟩ := h
  refine ⟨ao, cap, e, h1, h2, h3.imp id ?_⟩
  rintro ⟨g, e, hg, hc⟩
  refine ⟨g, 0, e, hg, fun i hi => ?_⟩
  simp only [Nat.zero_add]
  exact hc i hi
theorem rowLn.take {W : World} {ao : Option Addr} {cap : Nat} {ls : List Ln} (h : rowLn W (.slice ao ls.length cap) ls) {k : Nat} (hk : k ≤ ls.length) : lnsAt W (.slice ao k cap) (ls.take k) := by
  obtain ⟨ao', cap', e, h1, h2, h3⟩ := h.lns
  cases e
  have hlen : (ls.take k).length = k := by rw [List.length_take]; omega
  refine ⟨ao, cap, by rw [hlen], by omega, h2, ?_⟩
  rcases h3 with rfl | ⟨g, off, e, hg, hc⟩
  · left; exact List.take_nil
  · refine .inr ⟨g, off, e, hg, fun i hi => ?_⟩
    rw [List.getElem_take]
    exact hc i (by omega)
/-- The first line of some. -/
theorem lnsAt.head {W : World} {v : Value} {x : Ln} {r : List Ln} (h : lnsAt W v (x :: r)) : ∃ g off cap, v = .slice (some ⟨g, off, none⟩) (r.length + 1) cap ∧ r.length + 1 ≤ cap ∧ cap ≤ maxLen ∧ g < W.heap.size ∧
    W.cell? ⟨g, off, none⟩ = some (.int .i64 (x.f : Int)) ∧ W.cell? ⟨g, off + 1, none⟩ = some (.int .i64 (x.t : Int)) ∧ W.cell? ⟨g, off + 2, none⟩ = some (.int .i64 (x.n : Int)) := by
  obtain ⟨ao, cap, rfl, h1, h2, h3⟩ := h
  rcases h3 with h3 | ⟨g, off, rfl, hg, hc⟩
  · cases h3
  · have := hc 0 (by simp)
    simp only [Nat.zero_mul, Nat.add_zero, List.getElem_cons_zero] at this
    exact ⟨g, off, cap, rfl, h1, h2, hg, this⟩
theorem lnsAt.tail {W : World} {g off cap n : Nat} {x : Ln} {r : List Ln} (h : lnsAt W (.slice (some ⟨g, off, none⟩) n cap) (x :: r)) (hn : n = r.length + 1) : lnsAt W (.slice (some ⟨g, off + 3, none⟩) r.length (cap - 1)) r := by
  subst hn
  obtain ⟨ao, cap', e, h1, h2, h3⟩ := h
  cases e
  simp only [List.length_cons] at h1
  rcases h3 with h3 | ⟨g', off', e, hg, hc⟩
  · cases h3
  · cases e
    refine ⟨_, cap - 1, rfl, by omega, by omega, .inr ⟨g, off + 3, rfl, hg, fun i hi => ?_⟩⟩
    have := hc (i + 1) (by simpa using hi)
    simp only [List.getElem_cons_succ] at this
    rw [show off + 3 + i * 3 = off + (i + 1) * 3 by omega]
    exact this
theorem lnsAt.nil {W : World} (ao : Option Addr) (cap : Nat) (h : cap ≤ maxLen) : lnsAt W (.slice ao 0 cap) [] := ⟨ao, cap, rfl, Nat.zero_le _, h, .inl rfl⟩

def behindN (ls : List Ln) (t : Nat) : Nat := if h : eI ls < ls.length then (ls[eI ls]).n else t
theorem eI_le (ls : List Ln) : eI ls ≤ ls.length := List.findIdx_le_length

theorem linesZ_yes (l : List UInt8) {f t : Int} (hw : withinB f t l.length = true) : linesZ l f t = linesS l f.toNat t.toNat := by
  unfold linesZ
  rw [if_pos hw]
def headPost (ls : List Ln) (t : Nat) (w : World) (e : Ending) (w' : World) : Prop :=
  ∃ u, e = .returned (.tuple #[u, .int .i64 (behindN ls t : Int)]) ∧ lnsAt w' u (ls.take (eI ls)) ∧ Below w.heap.size w w'
set_option maxHeartbeats 2000000 in
theorem linesOf_yes (v : Value) (l : List UInt8) (f t : Nat) (w : World) (hv : bytesArg w v l) (hft : f ≤ t) (htl : t ≤ l.length) (hbig : l.length ≤ 1048576) :
    Calls Tryz.prog 40 #[v, .agg #[.int .i64 (f : Int), .int .i64 (t : Int)]] w (headPost (linesS l f t) t w) := by
  have HV := Lib.hid hv
  obtain ⟨ao, cap, rfl, hc, hm, hs⟩ := hv
  have hw : withinB (f : Int) (t : Int) l.length = true := withinB_yes (by omega)
  have HW := Lib.hid (fun W => within_any (f : Int) (t : Int) (l.length : Int) W)
  rw [hw] at HW
  have HO := Lib.hid (fun W h => of_any (.slice ao l.length cap) l (f : Int) (t : Int) W h hbig)
  rw [linesZ_yes l hw] at HO
  simp only [Int.toNat_natCast] at HO
  obtain ⟨ls, hls⟩ : ∃ ls, ls = linesS l f t := ⟨_, rfl⟩
  rw [← hls] at HO ⊢
  have hll : ls.length ≤ 1048576 := by rw [hls]; have := linesS_len l f t; omega
  have HEm := Lib.hid (fun W v h => empty_any v ls W h)
  unfold emptyS at HEm
  clear hw hs hls
  go_enter Tryz.func40, Tryz.ntmps40
  go_wp2_with fail
  with_reducible refine (HW.out _).mono ?_
  rintro e w1 ⟨rfl, hb1⟩
  obtain ⟨c0, c1⟩ := box2_cells hb1
  have HB1 : Hid (Below w.heap.size w w1) := ((Below.refl _ _).alloc (Nat.le_refl _) _).trans (hb1.mono (by simp))
  clear hb1
  go_wp2_with fail
  with_reducible refine (HO.out _ ?h1).mono ?_
  case h1 => exact bytesArg.below HV.out HB1.out
  rintro e w2 ⟨u, rfl, hown, hb2⟩
  have HB2 : Hid (Below w.heap.size w w2) := HB1.out.trans (hb2.mono HB1.out.size)
  have hlt : w.heap.size < w1.heap.size := World.block_lt_of_cell? _ _ c0
  replace c0 := (hb2.cell (p := ⟨w.heap.size, 0, none⟩) hlt).trans c0
  replace c1 := (hb2.cell (p := ⟨w.heap.size, 1, none⟩) hlt).trans c1
  have hlt2 : w.heap.size < w2.heap.size := Nat.lt_of_lt_of_le hlt hb2.size
  have HR : Hid (rowLn w2 u ls) := rowLn_owned hown
  clear hb2 hown hlt HW HO HV HB1
  go_wp2_with fail
  with_reducible refine (HEm.out _ _ HR.out).mono ?_
  rintro e w3 ⟨rfl, hb3⟩
  have HB3 : Hid (Below w.heap.size w w3) := HB2.out.trans (hb3.mono HB2.out.size)
  have HR3 : Hid (rowLn w3 u ls) := HR.out.below hb3
  replace c0 := (hb3.cell (p := ⟨w.heap.size, 0, none⟩) hlt2).trans c0
  replace c1 := (hb3.cell (p := ⟨w.heap.size, 1, none⟩) hlt2).trans c1
  clear hb3 HR HEm HB2 hlt2
  obtain ⟨uo, uc, rfl, huc, hum, hucell⟩ := HR3.out.at
  unfold maxLen at hum
  obtain ⟨K, hK⟩ : ∃ K, K = eI ls := ⟨_, rfl⟩
  by_cases hk : K < ls.length
  · have HT : Hid (lnsAt w3 (.slice uo K uc) (ls.take (eI ls))) := by rw [hK]; exact HR3.out.take (eI_le ls)
    obtain ⟨g, rfl, hg, d0, d1, d2⟩ := hucell K hk
    obtain ⟨N, hN⟩ : ∃ N, N = (ls[K]).n := ⟨_, rfl⟩
    have HN : Hid (behindN ls t = N) := by
      unfold Hid behindN
      rw [dif_pos (by omega), hN]
      congr 2
      exact hK.symm
    rw [← hN] at d2
    rw [← hK, if_pos hk]
    clear hK hN hucell d0 d1
    go_wp2_with fail
    go_quiet (fail)
    go_wp2
    go_ret2
    refine ⟨_, by rw [HN.out]; rfl, lnsAt.below HT.out (below_drewN' _), HB3.out.trans ((below_drewN' _).mono HB3.out.size)⟩
  · have HT : Hid (lnsAt w3 (.slice uo ls.length uc) (ls.take (eI ls))) := by
      have := HR3.out.take (eI_le ls)
      have e : eI ls = ls.length := by have := eI_le ls; omega
      rwa [e] at this ⊢
    have HN : Hid (behindN ls t = t) := by
      unfold Hid behindN
      rw [dif_neg (by omega)]
    rw [← hK, if_neg hk]
    clear hK hucell
    go_wp2_with fail
    go_quiet (fail)
    go_wp2
    go_ret2
    refine ⟨_, by rw [HN.out]; rfl, lnsAt.below HT.out (below_drewN' _), HB3.out.trans ((below_drewN' _).mono HB3.out.size)⟩
end Go.Proofs.YtkmgflnmffdhjaaGreatDoor

/- Contracts of package header: Of. -/
namespace Go.Proofs.YtkmgflnmffdhjaaGreatDoor
open Go Go.RowKit

def fldCells (fs : List Fld) : List Value := (fs.map fldC).flatten
theorem fldCells_snoc (fs : List Fld) (x : Fld) : fldCells (fs ++ [x]) = fldCells fs ++ fldC x := by simp [fldCells]
theorem fldC_one (x : Fld) : ∀ u ∈ fldC x, u.oneCell' = true := by
  intro u hu
  simp only [fldC, List.mem_cons, List.not_mem_nil, or_false] at hu
  rcases hu with rfl | rfl | rfl | rfl <;> rfl
theorem Tryz.infoF : (Tryz.prog.info? 100).map (fun i => (i.zero, i.size, i.bytes)) = some (some noFldV, 4, 40) := by kernel_rfl
theorem own_base4 {w : World} {base base' n size : Nat} {e : TypeId} {v : Value} {xs : List Value} (h : w.ownsRow base e size v n xs) (hb : base' ≤ base) : w.ownsRow base' e size v n xs := by
  obtain ⟨h1, h2⟩ := h
  refine ⟨h1, h2.imp id ?_⟩
  rintro ⟨g, cap, cur, a, b, c⟩
  exact ⟨g, cap, cur, a, by omega, c⟩
/-- What Of answers. -/
def OfPost (l : List UInt8) (ls : List Ln) (t : Nat) (w : World) (e : Ending) (w' : World) : Prop :=
  ∃ u, e = .returned (.tuple #[u, .int .i64 (behindN ls t : Int)]) ∧ w'.ownsRow w.heap.size 100 4 u (fieldsL l (ls.take (eI ls))).length (fldCells (fieldsL l (ls.take (eI ls)))) ∧ Below w.heap.size w w'
/-- Lines that have a text, within the bytes. -/
def textedL (l : List UInt8) (ls : List Ln) : Prop := ∀ x ∈ ls, x.f < x.t ∧ x.t ≤ x.n ∧ x.n ≤ l.length
theorem textedL_head {l : List UInt8} {ls : List Ln} (h : ∀ x ∈ ls, x.f ≤ x.t ∧ x.t ≤ x.n ∧ x.n ≤ l.length) : textedL l (ls.take (eI ls)) := by
  intro x hx
  obtain ⟨i, hi, rfl⟩ := List.getElem_of_mem hx
  rw [List.getElem_take]
  have hi' : i < ls.length ∧ i < eI ls := by rw [List.length_take] at hi; omega
  have h1 := h ls[i] (List.getElem_mem _)
  have h2 := List.not_of_lt_findIdx (p := fun x : Ln => x.f == x.t) hi'.2
  simp at h2
  exact ⟨by omega, h1.2⟩

def fldO (x : Fld) : Obj := .cells #[.string ⟨x.nm.toArray⟩, .int .i64 (x.f : Int), .int .i64 (x.b : Int), .int .i64 (x.t : Int)] 100 (0, 0)
theorem fldO_cells {W : World} {B : Nat} {x : Fld} (h : W.heap[B]? = some (fldO x)) : W.cell? ⟨B, 0, none⟩ = some (.string ⟨x.nm.toArray⟩) ∧ W.cell? ⟨B, 1, none⟩ = some (.int .i64 (x.f : Int)) ∧ W.cell? ⟨B, 2, none⟩ = some (.int .i64 (x.b : Int)) ∧ W.cell? ⟨B, 3, none⟩ = some (.int .i64 (x.t : Int)) ∧ W.frozen? ⟨B, 3, none⟩ = false := by
  unfold fldO at h
  simp [World.cell?, World.frozen?, h]
theorem fldO_set {W : World} {B : Nat} {x : Fld} (h : W.heap[B]? = some (fldO x)) (n : Nat) : (W.setCell ⟨B, 3, none⟩ (.int .i64 (n : Int))).heap[B]? = some (fldO { x with t := n }) := by
  unfold fldO at h ⊢
  simp [World.setCell, Array.getElem?_modify, h]

set_option maxRecDepth 100000 in
set_option maxHeartbeats 4000000 in
theorem of_walk (v : Value) (l : List UInt8) (f t : Nat) (w : World) (hv : bytesArg w v l) (hft : f ≤ t) (htl : t ≤ l.length) (hbig : l.length ≤ 1048576) :
    Calls Tryz.prog 21 #[v, .agg #[.int .i64 (f : Int), .int .i64 (t : Int)]] w (OfPost l (linesS l f t) t w) := by
  have HV := Lib.hid hv
  obtain ⟨ao, cap, rfl, hc, hm, hs⟩ := hv
  have HL := Lib.hid (fun W h => linesOf_yes (.slice ao l.length cap) l f t W h hft htl hbig)
  obtain ⟨ls, hls⟩ : ∃ ls, ls = linesS l f t := ⟨_, rfl⟩
  have HTx : Hid (textedL l (ls.take (eI ls))) := textedL_head (by
    intro x hx
    rw [hls] at hx
    obtain ⟨k, hk, rfl⟩ := List.getElem_of_mem hx
    have := chainL_at k hk (chainL_lines l _ f t (Nat.le_refl _) hft htl)
    omega)
  have hn : (fieldsL l (ls.take (eI ls))).length ≤ 1048576 := by
    have h1 := fieldsL_len l (ls.take (eI ls))
    have h2 := linesS_len l f t
    rw [← hls] at h2
    rw [List.length_take] at h1
    omega
  have hhl : (ls.take (eI ls)).length ≤ 1048576 := by
    have h2 := linesS_len l f t
    rw [← hls] at h2
    rw [List.length_take]
    omega
  rw [← hls] at HL ⊢
  obtain ⟨hd, hhd⟩ : ∃ hd, hd = ls.take (eI ls) := ⟨_, rfl⟩
  obtain ⟨N, hN⟩ : ∃ N, N = behindN ls t := ⟨_, rfl⟩
  unfold headPost at HL
  unfold OfPost
  rw [← hhd] at HL HTx hn hhl ⊢
  rw [← hN] at HL ⊢
  clear hls hhd hN hs
  obtain ⟨i0, hi0, hz0, hz1, hz2⟩ := info_parts Tryz.infoF
  have HI0 := Lib.hid hi0
  have HZ0 := Lib.hid hz0
  have HZ1 := Lib.hid hz1
  have HZ2 := Lib.hid hz2
  clear hi0 hz0 hz1 hz2
  go_enter Tryz.func21, Tryz.ntmps21
  go_wp2_with fail
  with_reducible refine (HL.out _ ?h1).mono ?_
  case h1 => exact bytesArg.below HV.out ((Below.refl _ _).alloc (Nat.le_refl _) _)
  rintro e w1 ⟨u, rfl, hln, hb1⟩
  have HB1 : Hid (Below w.heap.size w w1) := ((Below.refl _ _).alloc (Nat.le_refl _) _).trans (hb1.mono (by simp))
  have HLn := Lib.hid hln
  have HV1 : Hid (bytesArg w1 (.slice ao l.length cap) l) := bytesArg.below HV.out HB1.out
  clear hln hb1 HL HV
  go_wp2_with fail
  go_loopg [6, 8] hd.length (fun q hv fv wr => ∃ (r : List Ln) (fs : List Fld), q = r.length ∧ r.length ≤ 1048576 ∧ fs.length + (fieldsL l r).length ≤ 1048576 ∧ Hid (textedL l r) ∧ Hid (lnsAt w1 hv r) ∧ Hid (fs ++ fieldsL l r = fieldsL l hd) ∧ Hid (wr.ownsRow w1.heap.size 100 4 fv fs.length (fldCells fs)) ∧ Hid (Below w1.heap.size w1 wr))
  case atStart => exact ⟨hd, [], rfl, hhl, by simpa using hn, HTx, HLn, rfl, World.ownsRow_nil _ _ _ _, Below.refl _ _⟩
  case round =>
    obtain ⟨r, fs, rfl, hr, hfs, HTr, HLr, HE, HO, HB⟩ := hrel
    cases r with
    | nil =>
      obtain ⟨ho, hcp, rfl, hz1, hz2, hz3⟩ := HLr.out
      have HEn : Hid (fs = fieldsL l hd) := by
        have h := HE.out
        rw [show fieldsL l [] = [] from rfl, List.append_nil] at h
        exact h
      simp only [List.length_nil]
      clear hz1 hz2 hz3 HLr HE
      go_wp2_with fail
      go_ret2
      refine ⟨_, rfl, ?_, HB1.out.trans (HB.out.mono HB1.out.size)⟩
      rw [← HEn.out]
      exact own_base4 HO.out HB1.out.size
    | cons x r =>
      obtain ⟨g, off, uc, rfl, huc, hum, hg, c0, c1, c2⟩ := HLr.out.head
      unfold maxLen at hum
      replace c0 := (HB.out.cell (p := ⟨g, off, none⟩) hg).trans c0
      replace c1 := (HB.out.cell (p := ⟨g, off + 1, none⟩) hg).trans c1
      replace c2 := (HB.out.cell (p := ⟨g, off + 2, none⟩) hg).trans c2
      obtain ⟨hx1, hx2, hx3⟩ := HTr.out x (List.mem_cons_self ..)
      rcases hbeg : begunS l x with _ | fd
      · have HBg := Lib.hid (fun W h => begun_none (.slice ao l.length cap) l x W h (by omega) (by omega) hbig hbeg)
        unfold lnV at HBg
        have HBe := Lib.hid hbeg
        clear hbeg
        simp only [List.length_cons] at hr ⊢
        go_wp2_with fail
        go_step3
        go_wp2_with fail
        with_reducible refine (HBg.out _ ?h1).mono ?_
        case h1 => exact bytesArg.below HV1.out HB.out
        rintro e w2 ⟨rfl, hb2⟩
        have HB2 := Lib.hid (HB.out.trans (hb2.mono HB.out.size))
        have HO2 := Lib.hid (ownsRow_below HO.out hb2)
        clear hb2
        unfold noFldV
        go_wp2_with fail
        go_step3
        go_upto_region 5 with fail
        go_cut [6] (fun hv wx => Hid (lnsAt w1 hv r) ∧ Hid (wx.ownsRow w1.heap.size 100 4 u8 fs.length (fldCells fs)) ∧ Hid (Below w1.heap.size w1 wx))
        case first =>
          have HO3 := Lib.hid (HO2.out.alloc (.cells #[.string ⟨#[]⟩, .int .i64 0, .int .i64 0, .int .i64 0] 100))
          have HB3 := Lib.hid (HB2.out.alloc HB2.out.size (.cells #[.string ⟨#[]⟩, .int .i64 0, .int .i64 0, .int .i64 0] 100))
          rcases Nat.lt_or_ge 1 uc with hu | hu
          · have hu2 : ¬ uc = 1 := by omega
            have HTl := Lib.hid (HLr.out.tail rfl)
            go_wp2_with fail
            go_meet
            exact ⟨HTl, HO3, HB3⟩
          · obtain rfl : uc = 1 := by omega
            obtain rfl : r = [] := List.eq_nil_of_length_eq_zero (by omega)
            go_wp2_with fail
            go_meet
            exact ⟨lnsAt.nil _ _ (by unfold maxLen; omega), HO3, HB3⟩
        case rest =>
          obtain ⟨HLs, HO3, HB3⟩ := hcut
          clear HB2 HO2 HO HB HBg c0 c1 c2
          go_upto_block 2 with fail
          go_cut [6] (fun hv wx => ∃ (r' : List Ln), r'.length ≤ r.length ∧ Hid (textedL l r') ∧ Hid (lnsAt w1 hv r') ∧ Hid (fieldsL l r' = goL l none r) ∧ Hid (wx.ownsRow w1.heap.size 100 4 u8 fs.length (fldCells fs)) ∧ Hid (Below w1.heap.size w1 wx))
          case first =>
            go_wp2_with fail
            go_loopg [6] r.length (fun q hv wx => ∃ (r' : List Ln), q = r'.length ∧ r'.length ≤ r.length ∧ Hid (textedL l r') ∧ Hid (lnsAt w1 hv r') ∧ Hid (goL l none r' = goL l none r) ∧ Hid (wx.ownsRow w1.heap.size 100 4 u8 fs.length (fldCells fs)) ∧ Hid (Below w1.heap.size w1 wx))
            case atStart => exact ⟨r, rfl, Nat.le_refl _, fun y hy => HTr.out y (List.mem_cons_of_mem _ hy), HLs, rfl, HO3, HB3⟩
            case round =>
              clear HO3 HB3 HLs
              obtain ⟨r', rfl, hr', HT', HL', HE', HO', HB'⟩ := hrel
              cases r' with
              | nil =>
                obtain ⟨ho, hcp, rfl, hz1, hz2, hz3⟩ := HL'.out
                simp only [List.length_nil]
                have HLn' : Hid (lnsAt w1 (.slice ho 0 hcp) []) := lnsAt.nil _ _ hz2
                clear hz1 hz2 hz3 HL'
                go_wp2_with fail
                go_meet
                exact ⟨[], Nat.zero_le _, HT', HLn', HE', HO', HB'⟩
              | cons y r' =>
                obtain ⟨g', off', uc', rfl, huc', hum', hg', c0, c1, c2⟩ := HL'.out.head
                unfold maxLen at hum'
                replace c0 := (HB'.out.cell (p := ⟨g', off', none⟩) hg').trans c0
                replace c1 := (HB'.out.cell (p := ⟨g', off' + 1, none⟩) hg').trans c1
                replace c2 := (HB'.out.cell (p := ⟨g', off' + 2, none⟩) hg').trans c2
                obtain ⟨hy1, hy2, hy3⟩ := HT'.out y (List.mem_cons_self ..)
                have HGo := Lib.hid (fun W h => goesOn_any (.slice ao l.length cap) l y W h (by omega))
                unfold lnV at HGo
                simp only [List.length_cons] at hr' ⊢
                go_wp2_with fail
                with_reducible refine (HGo.out _ ?h1).mono ?_
                case h1 => exact bytesArg.below HV1.out (HB'.out.alloc HB'.out.size _)
                rintro e w5 ⟨rfl, hb5⟩
                have hsz : w1.heap.size ≤ wr.heap.size := HB'.out.size
                obtain ⟨_, _, e2⟩ := box3_cells hb5
                have HO5 := Lib.hid (ownsRow_below (HO'.out.alloc (.cells #[.int .i64 (y.f : Int), .int .i64 (y.t : Int), .int .i64 (y.n : Int)] 104)) hb5)
                have HB5 : Hid (Below w1.heap.size w1 w5) := (HB'.out.alloc HB'.out.size _).trans (hb5.mono (by simp; omega))
                clear hb5 HO' HB' c0 c1 c2
                rcases Bool.eq_false_or_eq_true (onB l y) with hon | hon
                · rw [hon]
                  have HEn : Hid (goL l none r' = goL l none r) := by
                    unfold Hid
                    rw [← HE'.out, goL_on hon]
                    rfl
                  have HTn : Hid (textedL l r') := fun z hz => HT'.out z (List.mem_cons_of_mem _ hz)
                  clear hon HE' HT'
                  rcases Nat.lt_or_ge 1 uc' with hu | hu
                  · have hu2 : ¬ uc' = 1 := by omega
                    have HTl := Lib.hid (HL'.out.tail rfl)
                    go_wp2_with fail
                    go_roundg r'.length
                    case measure => simp
                    case rel => exact ⟨r', rfl, by omega, HTn, HTl, HEn, HO5, HB5⟩
                  · obtain rfl : uc' = 1 := by omega
                    obtain rfl : r' = [] := List.eq_nil_of_length_eq_zero (by omega)
                    go_wp2_with fail
                    go_roundg 0
                    case measure => simp
                    case rel => exact ⟨[], rfl, by omega, HTn, lnsAt.nil _ _ (by unfold maxLen; omega), HEn, HO5, HB5⟩
                · rw [hon]
                  have HEn : Hid (fieldsL l (y :: r') = goL l none r) := by
                    unfold Hid
                    rw [← HE'.out, goL_off hon]
                    rfl
                  clear hon HE'
                  go_wp2_with fail
                  go_meet
                  exact ⟨y :: r', hr', HT', HL', HEn, HO5, HB5⟩
          case rest =>
            obtain ⟨r', hr', HT', HL', HE', HO', HB'⟩ := hcut
            have HEn : Hid (fs ++ fieldsL l r' = fieldsL l hd) := by
              unfold Hid
              rw [← HE.out]
              show fs ++ fieldsL l r' = fs ++ goL l (begunS l x) r
              rw [HBe.out, HE'.out]
            have hfs' : fs.length + (fieldsL l r').length ≤ 1048576 := by
              have h1 : (fieldsL l (x :: r)).length = (fieldsL l r').length := by
                show (goL l (begunS l x) r).length = _
                rw [HBe.out, HE'.out]
              rw [h1] at hfs
              omega
            clear HE HE' hfs HBe
            go_wp2_with fail
            simp only [Exit.noGoto_normal, Exit.inBlock, Exit.then]
            go_wp2_with fail
            go_roundg r'.length
            case measure => simp; omega
            case rel => exact ⟨r', fs, rfl, by omega, hfs', HT', HL', HEn, HO', HB'⟩
      · have HBg := Lib.hid (fun W h => begun_some (.slice ao l.length cap) l x fd W h (by omega) (by omega) hbig hbeg)
        unfold lnV at HBg
        have HBe := Lib.hid hbeg
        clear hbeg
        simp only [List.length_cons] at hr ⊢
        go_wp2_with fail
        go_step3
        go_wp2_with fail
        with_reducible refine (HBg.out _ ?h1).mono ?_
        case h1 => exact bytesArg.below HV1.out HB.out
        rintro e w2 ⟨rfl, hb2⟩
        have HB2 := Lib.hid (HB.out.trans (hb2.mono HB.out.size))
        have HO2 := Lib.hid (ownsRow_below HO.out hb2)
        clear hb2
        unfold fldV
        go_wp2_with fail
        go_step3
        go_upto_region 5 with fail
        go_cut [6] (fun hv wx => Hid (lnsAt w1 hv r) ∧ Hid (wx.heap[w2.heap.size]? = some (fldO fd)) ∧ Hid (wx.ownsRow w1.heap.size 100 4 u8 fs.length (fldCells fs)) ∧ Hid (Below w1.heap.size w1 wx) ∧ w2.heap.size < wx.heap.size)
        case first =>
          have HF0 : Hid ((w2.alloc (.cells #[.string ⟨fd.nm.toArray⟩, .int .i64 (fd.f : Int), .int .i64 (fd.b : Int), .int .i64 (fd.t : Int)] 100)).heap[w2.heap.size]? = some (fldO fd)) := heap_alloc_new w2 _
          have HO3 := Lib.hid (HO2.out.alloc (.cells #[.string ⟨fd.nm.toArray⟩, .int .i64 (fd.f : Int), .int .i64 (fd.b : Int), .int .i64 (fd.t : Int)] 100))
          have HB3 := Lib.hid (HB2.out.alloc HB2.out.size (.cells #[.string ⟨fd.nm.toArray⟩, .int .i64 (fd.f : Int), .int .i64 (fd.b : Int), .int .i64 (fd.t : Int)] 100))
          rcases Nat.lt_or_ge 1 uc with hu | hu
          · have hu2 : ¬ uc = 1 := by omega
            have HTl := Lib.hid (HLr.out.tail rfl)
            go_wp2_with fail
            go_meet
            exact ⟨HTl, HF0, HO3, HB3, by simp⟩
          · obtain rfl : uc = 1 := by omega
            obtain rfl : r = [] := List.eq_nil_of_length_eq_zero (by omega)
            go_wp2_with fail
            go_meet
            exact ⟨lnsAt.nil _ _ (by unfold maxLen; omega), HF0, HO3, HB3, by simp⟩
        case rest =>
          obtain ⟨HLs, HF0, HO3, HB3, hBf⟩ := hcut
          have HOl : Hid (∀ k, u8.ownBlock = some k → k < w2.heap.size) := fun k hk => (HO2.out.lt k hk).2
          obtain ⟨Bf, hBfe⟩ : ∃ Bf, Bf = w2.heap.size := ⟨_, rfl⟩
          have hBw : w1.heap.size ≤ Bf := by rw [hBfe]; exact HB2.out.size
          rw [← hBfe] at HF0 HOl hBf ⊢
          clear hBfe HB2 HO2 HO HB HBg c0 c1 c2
          go_upto_block 2 with fail
          go_cut [6] (fun hv wx => ∃ (r' : List Ln) (fd' : Fld), r'.length ≤ r.length ∧ Hid (textedL l r') ∧ Hid (lnsAt w1 hv r') ∧ Hid (fd' :: fieldsL l r' = goL l (some fd) r) ∧ Hid (wx.heap[Bf]? = some (fldO fd')) ∧ Hid (wx.ownsRow w1.heap.size 100 4 u8 fs.length (fldCells fs)) ∧ Hid (Below w1.heap.size w1 wx) ∧ Bf < wx.heap.size)
          case first =>
            go_wp2_with fail
            go_loopg [6] r.length (fun q hv wx => ∃ (r' : List Ln) (fd' : Fld), q = r'.length ∧ r'.length ≤ r.length ∧ Hid (textedL l r') ∧ Hid (lnsAt w1 hv r') ∧ Hid (goL l (some fd') r' = goL l (some fd) r) ∧ Hid (wx.heap[Bf]? = some (fldO fd')) ∧ Hid (wx.ownsRow w1.heap.size 100 4 u8 fs.length (fldCells fs)) ∧ Hid (Below w1.heap.size w1 wx) ∧ Bf < wx.heap.size)
            case atStart => exact ⟨r, fd, rfl, Nat.le_refl _, fun y hy => HTr.out y (List.mem_cons_of_mem _ hy), HLs, rfl, HF0, HO3, HB3, hBf⟩
            case round =>
              clear HF0 HO3 HB3 hBf HLs
              obtain ⟨r', fd', rfl, hr', HT', HL', HE', HF', HO', HB', hBf⟩ := hrel
              cases r' with
              | nil =>
                obtain ⟨ho, hcp, rfl, hz1, hz2, hz3⟩ := HL'.out
                simp only [List.length_nil]
                have HLn' : Hid (lnsAt w1 (.slice ho 0 hcp) []) := lnsAt.nil _ _ hz2
                clear hz1 hz2 hz3 HL'
                go_wp2_with fail
                go_meet
                exact ⟨[], fd', Nat.zero_le _, HT', HLn', HE', HF', HO', HB', hBf⟩
              | cons y r' =>
                obtain ⟨g', off', uc', rfl, huc', hum', hg', c0, c1, c2⟩ := HL'.out.head
                unfold maxLen at hum'
                replace c0 := (HB'.out.cell (p := ⟨g', off', none⟩) hg').trans c0
                replace c1 := (HB'.out.cell (p := ⟨g', off' + 1, none⟩) hg').trans c1
                replace c2 := (HB'.out.cell (p := ⟨g', off' + 2, none⟩) hg').trans c2
                obtain ⟨hy1, hy2, hy3⟩ := HT'.out y (List.mem_cons_self ..)
                have HGo := Lib.hid (fun W h => goesOn_any (.slice ao l.length cap) l y W h (by omega))
                unfold lnV at HGo
                simp only [List.length_cons] at hr' ⊢
                go_wp2_with fail
                with_reducible refine (HGo.out _ ?h1).mono ?_
                case h1 => exact bytesArg.below HV1.out (HB'.out.alloc HB'.out.size _)
                rintro e w5 ⟨rfl, hb5⟩
                have hsz : w1.heap.size ≤ wr.heap.size := HB'.out.size
                obtain ⟨_, _, e2⟩ := box3_cells hb5
                have HF5 : Hid (w5.heap[Bf]? = some (fldO fd')) := (hb5.block Bf (by simp; omega)).trans ((Below.heap_alloc wr _ Bf hBf).trans HF'.out)
                have HO5 := Lib.hid (ownsRow_below (HO'.out.alloc (.cells #[.int .i64 (y.f : Int), .int .i64 (y.t : Int), .int .i64 (y.n : Int)] 104)) hb5)
                have HB5 : Hid (Below w1.heap.size w1 w5) := (HB'.out.alloc HB'.out.size _).trans (hb5.mono (by simp; omega))
                have hBf5 : Bf < w5.heap.size := by have := hb5.size; simp at this; omega
                clear hb5 HF' HO' HB' hBf c0 c1 c2
                rcases Bool.eq_false_or_eq_true (onB l y) with hon | hon
                · rw [hon]
                  obtain ⟨_, _, _, d3, fz⟩ := fldO_cells HF5.out
                  have HEn : Hid (goL l (some { fd' with t := y.n }) r' = goL l (some fd) r) := by
                    unfold Hid
                    rw [← HE'.out, goL_on hon]
                    rfl
                  have HTn : Hid (textedL l r') := fun z hz => HT'.out z (List.mem_cons_of_mem _ hz)
                  have HFn := Lib.hid (fldO_set HF5.out y.n)
                  have HOn := Lib.hid (ownsRow_setCell_other HO5.out (a := ⟨Bf, 3, none⟩) (fun hk => Nat.lt_irrefl _ (HOl.out Bf hk)) (.int .i64 (y.n : Int)))
                  have HBn := Lib.hid (HB5.out.setCell (p := ⟨Bf, 3, none⟩) hBw (.int .i64 (y.n : Int)))
                  clear hon HE' HT' HF5 HO5 HB5
                  rcases Nat.lt_or_ge 1 uc' with hu | hu
                  · have hu2 : ¬ uc' = 1 := by omega
                    have HTl := Lib.hid (HL'.out.tail rfl)
                    go_wp2_with fail
                    go_roundg r'.length
                    case measure => simp
                    case rel => exact ⟨r', _, rfl, by omega, HTn, HTl, HEn, HFn, HOn, HBn, by simpa using hBf5⟩
                  · obtain rfl : uc' = 1 := by omega
                    obtain rfl : r' = [] := List.eq_nil_of_length_eq_zero (by omega)
                    go_wp2_with fail
                    go_roundg 0
                    case measure => simp
                    case rel => exact ⟨[], _, rfl, by omega, HTn, lnsAt.nil _ _ (by unfold maxLen; omega), HEn, HFn, HOn, HBn, by simpa using hBf5⟩
                · rw [hon]
                  have HEn : Hid (fd' :: fieldsL l (y :: r') = goL l (some fd) r) := by
                    unfold Hid
                    rw [← HE'.out, goL_off hon]
                    rfl
                  clear hon HE'
                  go_wp2_with fail
                  go_meet
                  exact ⟨y :: r', fd', hr', HT', HL', HEn, HF5, HO5, HB5, hBf5⟩
          case rest =>
            obtain ⟨r', fd', hr', HT', HL', HE', HF', HO', HB', hBf⟩ := hcut
            obtain ⟨d0, d1, d2, d3, _⟩ := fldO_cells HF'.out
            have HEn : Hid ((fs ++ [fd']) ++ fieldsL l r' = fieldsL l hd) := by
              unfold Hid
              rw [← HE.out, List.append_assoc]
              show fs ++ (fd' :: fieldsL l r') = fs ++ goL l (begunS l x) r
              rw [HBe.out, HE'.out]
            have hfs' : fs.length + 1 + (fieldsL l r').length ≤ 1048576 := by
              have h1 : (fieldsL l (x :: r)).length = (fd' :: fieldsL l r').length := by
                show (goL l (begunS l x) r).length = _
                rw [HBe.out, HE'.out]
              rw [h1, List.length_cons] at hfs
              omega
            have hsz : w1.heap.size ≤ wc.heap.size := HB'.out.size
            clear HE HE' HF' hfs HBe
            go_wp2_with (at_builtin; refine wpList_append_own _ rfl _ _ 63 rfl w1.heap.size 100 i0 noFldV 4 40 Tryz.underlying63 HI0.out HZ0.out HZ1.out HZ2.out rfl (by decide) _ _ _ rfl (HO'.out.alloc _) ⟨wc.heap.size, 0, none⟩ 1 1 (fldC fd') rfl rfl ?c1 ?c2 ?c3 ?c4 ?c5 ?_)
            case c1 => exact cells_four_new wc _ _ _ _ _
            case c2 => exact fldC_one fd'
            case c3 => unfold maxLen; omega
            case c4 => omega
            case c5 => simp; omega
            intro v' w6 hown6 hgrow6 _
            have HO6 : Hid (w6.ownsRow w1.heap.size 100 4 v' (fs ++ [fd']).length (fldCells (fs ++ [fd']))) := by
              unfold Hid
              rw [fldCells_snoc, List.length_append]
              exact hown6
            have HB6 : Hid (Below w1.heap.size w1 w6) := (HB'.out.alloc HB'.out.size _).grown hgrow6 (by simp; omega) (fun q hq => (HO'.out.lt q hq).1)
            clear hown6 hgrow6
            go_wp2_with fail
            simp only [Exit.noGoto_normal, Exit.inBlock, Exit.then]
            go_wp2_with fail
            go_roundg r'.length
            case measure => simp; omega
            case rel => exact ⟨r', fs ++ [fd'], rfl, by omega, by simp; omega, HT', HL', HEn, HO6, HB6⟩
end Go.Proofs.YtkmgflnmffdhjaaGreatDoor
