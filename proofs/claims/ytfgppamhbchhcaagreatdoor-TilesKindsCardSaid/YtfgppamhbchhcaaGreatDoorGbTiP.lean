/- The law's own tally. -/
import Derived.Test.YtfgppamhbchhcaaGreatDoorGbTiO
namespace Go.Proofs.YtfgppamhbchhcaaGreatDoor
open Go Go.RowKit

def talV (q : Tr) : Value := .tuple #[.int .i64 (leavT q : Int), .int .i64 (multT q : Int), .int .i64 (cutT q : Int)]
def kidTal (w : World) (ka : Option Addr) (ts : List Tr) : Prop := ∀ i, (h : i < ts.length) → ∃ g a n c a2 n2 c2, ka = some ⟨g, 0, none⟩ ∧ g < w.heap.size ∧ nineAt w g i ts[i] (.slice a n c) (.slice a2 n2 c2) ∧
  ∀ W', Below w.heap.size w W' → Calls Tryz.prog 19 #[.agg #[.int .i64 (ts[i].kind : Int), .int .i64 (ts[i].hd.1 : Int), .int .i64 (ts[i].hd.2 : Int), .int .i64 (ts[i].bd.1 : Int), .int .i64 (ts[i].bd.2 : Int), .slice a n c, .slice a2 n2 c2, .int .i64 (ts[i].e.1 : Int), .int .i64 (ts[i].e.2 : Int)]] W'
    fun e w' => e = .returned (talV ts[i]) ∧ Below W'.heap.size W' w'
theorem leavK_le (ks : List Tr) (i : Nat) : leavK (ks.take i) ≤ leavK ks := by
  induction ks generalizing i with
  | nil => simp
  | cons t r ih =>
    cases i with
    | zero => simp [leavK]
    | succ i =>
      have := ih i
      simp only [List.take_succ_cons, leavK]
      omega
theorem multK_le (ks : List Tr) (i : Nat) : multK (ks.take i) ≤ multK ks := by
  induction ks generalizing i with
  | nil => simp
  | cons t r ih =>
    cases i with
    | zero => simp [multK]
    | succ i =>
      have := ih i
      simp only [List.take_succ_cons, multK]
      omega
theorem cutK_le (ks : List Tr) (i : Nat) : cutK (ks.take i) ≤ cutK ks := by
  induction ks generalizing i with
  | nil => simp
  | cons t r ih =>
    cases i with
    | zero => simp [cutK]
    | succ i =>
      have := ih i
      simp only [List.take_succ_cons, cutK]
      omega
set_option maxRecDepth 100000 in
set_option maxHeartbeats 4000000 in
theorem tally_step0 (ts : List Tr) (h1 h2 b1 b2 e1 e2 cn : Nat) (ka ca : Option Addr) (kc cc : Nat) (w : World) (hln : ts.length ≤ 1000000) (_ : cn ≤ 1000000) (hbl : leavK ts ≤ 1000000) (hbm : multK ts ≤ 1000000) (hbc : cutK ts ≤ 1000000) (hat : kidTal w ka ts) :
    Calls Tryz.prog 19 #[.agg #[.int .i64 0, .int .i64 (h1 : Int), .int .i64 (h2 : Int), .int .i64 (b1 : Int), .int .i64 (b2 : Int), .slice ka ts.length kc, .slice ca cn cc, .int .i64 (e1 : Int), .int .i64 (e2 : Int)]] w
      fun e w' => e = .returned (.tuple #[.int .i64 ((1 + leavK ts : Nat) : Int), .int .i64 ((0 + multK ts : Nat) : Int), .int .i64 ((0 + cutK ts : Nat) : Int)]) ∧ Below w.heap.size w w' := by
  have HA := Lib.hid hat
  obtain ⟨X, hX⟩ : ∃ X, X = w.alloc (partO 0 h1 h2 b1 b2 (.slice ka ts.length kc) (.slice ca cn cc) e1 e2) := ⟨_, rfl⟩
  have HBX : Hid (Below w.heap.size w X) := by rw [hX]; exact (Below.refl _ _).alloc (Nat.le_refl _) _
  have HL : Hid (X.heap[w.heap.size]? = some (partO 0 h1 h2 b1 b2 (.slice ka ts.length kc) (.slice ca cn cc) e1 e2)) := by rw [hX]; exact heap_alloc_new _ _
  have HLt : Hid (w.heap.size < X.heap.size) := by unfold Hid; rw [hX]; simp
  have HBl := Lib.hid hbl
  have HBm := Lib.hid hbm
  have HBc := Lib.hid hbc
  unfold partO at hX
  clear hat hbl hbm hbc
  go_enter Tryz.func19, Tryz.ntmps19
  go_upto_region 9 with fail
  rw [← hX]
  clear hX
  go_wp2_with fail
  go_loopg [5, 6, 7, 8] ts.length (fun q x5 x6 x7 x8 wr => ∃ (k a b c : Nat), k ≤ ts.length ∧ q = ts.length - k ∧ x5 = .int .i64 (a : Int) ∧ x6 = .int .i64 (b : Int) ∧ x7 = .int .i64 (c : Int) ∧ x8 = .int .i64 (k : Int) ∧
    Hid (a = 1 + leavK (ts.take k)) ∧ Hid (b = 0 + multK (ts.take k)) ∧ Hid (c = 0 + cutK (ts.take k)) ∧ Hid (Below X.heap.size X wr))
  case atStart => exact ⟨0, 1, 0, 0, Nat.zero_le _, rfl, rfl, rfl, rfl, rfl, by unfold Hid; simp [leavK], by unfold Hid; simp [multK], by unfold Hid; simp [cutK], Below.refl _ _⟩
  case round =>
    obtain ⟨k, a, b, c, hk, rfl, rfl, rfl, rfl, rfl, Ha, Hb, Hc, HB⟩ := hrel
    have hlr : wr.heap[w.heap.size]? = some (partO 0 h1 h2 b1 b2 (.slice ka ts.length kc) (.slice ca cn cc) e1 e2) := (HB.out.block _ HLt.out).trans HL.out
    obtain ⟨x0, x1, x2, x3, x4, x5, x6, x7, x8⟩ := part_cells hlr
    clear hlr
    by_cases hlt : k < ts.length
    · obtain ⟨g, ga, gn, gc, ga2, gn2, gc2, rfl, hg, h9, hcall⟩ := HA.out k hlt
      have HBw : Hid (Below w.heap.size w wr) := HBX.out.trans (HB.out.mono HBX.out.size)
      have HCl := Lib.hid hcall
      obtain ⟨p0, p1, p2, p3, p4, p5, p6, p7, p8⟩ := h9.block (HBw.out.block g hg)
      have HTa := Lib.hid (leavK_take hlt)
      have HTb := Lib.hid (multK_take hlt)
      have HTc := Lib.hid (cutK_take hlt)
      have q1 := leavK_le ts (k + 1)
      have q2 := multK_le ts (k + 1)
      have q3 := cutK_le ts (k + 1)
      have q4 := HBl.out
      have q5 := HBm.out
      have q6 := HBc.out
      have q7 := Ha.out
      have q8 := Hb.out
      have q9 := Hc.out
      rw [leavK_take hlt] at q1
      rw [multK_take hlt] at q2
      rw [cutK_take hlt] at q3
      unfold talV at HCl
      obtain ⟨q, hq⟩ : ∃ q, q = ts[k] := ⟨_, rfl⟩
      rw [← hq] at p0 p1 p2 p3 p4 p7 p8 HCl HTa HTb HTc q1 q2 q3
      obtain ⟨la, hla⟩ : ∃ la, la = leavT q := ⟨_, rfl⟩
      obtain ⟨lm, hlm⟩ : ∃ lm, lm = multT q := ⟨_, rfl⟩
      obtain ⟨lc, hlc⟩ : ∃ lc, lc = cutT q := ⟨_, rfl⟩
      rw [← hla] at HCl HTa q1
      rw [← hlm] at HCl HTb q2
      rw [← hlc] at HCl HTc q3
      have r1 : a + la ≤ 2000002 := by omega
      have r2 : b + lm ≤ 2000002 := by omega
      have r3 : c + lc ≤ 2000002 := by omega
      clear hq hcall h9 hla hlm hlc q1 q2 q3 q4 q5 q6 q7 q8 q9
      go_wp2_with fail
      with_reducible refine (HCl.out _ ?h1).mono ?_
      case h1 => exact HBw.out
      rintro e w5 ⟨rfl, hb5⟩
      have HB5 := Lib.hid (HB.out.trans (hb5.mono HB.out.size))
      clear hb5 HCl x0 x1 x2 x3 x4 x5 x6 x7 x8 p0 p1 p2 p3 p4 p5 p6 p7 p8
      go_wp2_with fail
      go_roundg (ts.length - (k + 1))
      case measure => omega
      case rel => exact ⟨k + 1, a + la, b + lm, c + lc, by omega, rfl, by go_num, by go_num, by go_num, by go_num, by unfold Hid; rw [HTa.out]; have := Ha.out; omega, by unfold Hid; rw [HTb.out]; have := Hb.out; omega, by unfold Hid; rw [HTc.out]; have := Hc.out; omega, HB5.out⟩
    · obtain rfl : k = ts.length := by omega
      have h1 := Ha.out
      have h2 := Hb.out
      have h3 := Hc.out
      rw [List.take_length] at h1 h2 h3
      have H1 := Lib.hid h1
      have H2 := Lib.hid h2
      have H3 := Lib.hid h3
      clear h1 h2 h3
      go_wp2_with fail
      go_ret3
      exact ⟨by rw [H1.out, H2.out, H3.out]; rfl, HBX.out.trans (HB.out.mono HBX.out.size)⟩
set_option maxRecDepth 100000 in
set_option maxHeartbeats 4000000 in
theorem tally_step1 (ts : List Tr) (h1 h2 b1 b2 e1 e2 cn : Nat) (ka ca : Option Addr) (kc cc : Nat) (w : World) (hln : ts.length ≤ 1000000) (hcn : cn ≤ 1000000) (hbl : leavK ts ≤ 1000000) (hbm : multK ts ≤ 1000000) (hbc : cutK ts ≤ 1000000) (hat : kidTal w ka ts) :
    Calls Tryz.prog 19 #[.agg #[.int .i64 1, .int .i64 (h1 : Int), .int .i64 (h2 : Int), .int .i64 (b1 : Int), .int .i64 (b2 : Int), .slice ka ts.length kc, .slice ca cn cc, .int .i64 (e1 : Int), .int .i64 (e2 : Int)]] w
      fun e w' => e = .returned (.tuple #[.int .i64 ((0 + leavK ts : Nat) : Int), .int .i64 ((1 + multK ts : Nat) : Int), .int .i64 ((cn + cutK ts : Nat) : Int)]) ∧ Below w.heap.size w w' := by
  have HA := Lib.hid hat
  obtain ⟨X, hX⟩ : ∃ X, X = w.alloc (partO 1 h1 h2 b1 b2 (.slice ka ts.length kc) (.slice ca cn cc) e1 e2) := ⟨_, rfl⟩
  have HBX : Hid (Below w.heap.size w X) := by rw [hX]; exact (Below.refl _ _).alloc (Nat.le_refl _) _
  have HL : Hid (X.heap[w.heap.size]? = some (partO 1 h1 h2 b1 b2 (.slice ka ts.length kc) (.slice ca cn cc) e1 e2)) := by rw [hX]; exact heap_alloc_new _ _
  have HLt : Hid (w.heap.size < X.heap.size) := by unfold Hid; rw [hX]; simp
  have HBl := Lib.hid hbl
  have HBm := Lib.hid hbm
  have HBc := Lib.hid hbc
  unfold partO at hX
  clear hat hbl hbm hbc
  go_enter Tryz.func19, Tryz.ntmps19
  go_upto_region 9 with fail
  rw [← hX]
  clear hX
  go_wp2_with fail
  go_loopg [5, 6, 7, 8] ts.length (fun q x5 x6 x7 x8 wr => ∃ (k a b c : Nat), k ≤ ts.length ∧ q = ts.length - k ∧ x5 = .int .i64 (a : Int) ∧ x6 = .int .i64 (b : Int) ∧ x7 = .int .i64 (c : Int) ∧ x8 = .int .i64 (k : Int) ∧
    Hid (a = 0 + leavK (ts.take k)) ∧ Hid (b = 1 + multK (ts.take k)) ∧ Hid (c = cn + cutK (ts.take k)) ∧ Hid (Below X.heap.size X wr))
  case atStart => exact ⟨0, 0, 1, cn, Nat.zero_le _, rfl, rfl, rfl, rfl, rfl, by unfold Hid; simp [leavK], by unfold Hid; simp [multK], by unfold Hid; simp [cutK], Below.refl _ _⟩
  case round =>
    obtain ⟨k, a, b, c, hk, rfl, rfl, rfl, rfl, rfl, Ha, Hb, Hc, HB⟩ := hrel
    have hlr : wr.heap[w.heap.size]? = some (partO 1 h1 h2 b1 b2 (.slice ka ts.length kc) (.slice ca cn cc) e1 e2) := (HB.out.block _ HLt.out).trans HL.out
    obtain ⟨x0, x1, x2, x3, x4, x5, x6, x7, x8⟩ := part_cells hlr
    clear hlr
    by_cases hlt : k < ts.length
    · obtain ⟨g, ga, gn, gc, ga2, gn2, gc2, rfl, hg, h9, hcall⟩ := HA.out k hlt
      have HBw : Hid (Below w.heap.size w wr) := HBX.out.trans (HB.out.mono HBX.out.size)
      have HCl := Lib.hid hcall
      obtain ⟨p0, p1, p2, p3, p4, p5, p6, p7, p8⟩ := h9.block (HBw.out.block g hg)
      have HTa := Lib.hid (leavK_take hlt)
      have HTb := Lib.hid (multK_take hlt)
      have HTc := Lib.hid (cutK_take hlt)
      have q1 := leavK_le ts (k + 1)
      have q2 := multK_le ts (k + 1)
      have q3 := cutK_le ts (k + 1)
      have q4 := HBl.out
      have q5 := HBm.out
      have q6 := HBc.out
      have q7 := Ha.out
      have q8 := Hb.out
      have q9 := Hc.out
      rw [leavK_take hlt] at q1
      rw [multK_take hlt] at q2
      rw [cutK_take hlt] at q3
      unfold talV at HCl
      obtain ⟨q, hq⟩ : ∃ q, q = ts[k] := ⟨_, rfl⟩
      rw [← hq] at p0 p1 p2 p3 p4 p7 p8 HCl HTa HTb HTc q1 q2 q3
      obtain ⟨la, hla⟩ : ∃ la, la = leavT q := ⟨_, rfl⟩
      obtain ⟨lm, hlm⟩ : ∃ lm, lm = multT q := ⟨_, rfl⟩
      obtain ⟨lc, hlc⟩ : ∃ lc, lc = cutT q := ⟨_, rfl⟩
      rw [← hla] at HCl HTa q1
      rw [← hlm] at HCl HTb q2
      rw [← hlc] at HCl HTc q3
      have r1 : a + la ≤ 2000002 := by omega
      have r2 : b + lm ≤ 2000002 := by omega
      have r3 : c + lc ≤ 2000002 := by omega
      clear hq hcall h9 hla hlm hlc q1 q2 q3 q4 q5 q6 q7 q8 q9
      go_wp2_with fail
      with_reducible refine (HCl.out _ ?h1).mono ?_
      case h1 => exact HBw.out
      rintro e w5 ⟨rfl, hb5⟩
      have HB5 := Lib.hid (HB.out.trans (hb5.mono HB.out.size))
      clear hb5 HCl x0 x1 x2 x3 x4 x5 x6 x7 x8 p0 p1 p2 p3 p4 p5 p6 p7 p8
      go_wp2_with fail
      go_roundg (ts.length - (k + 1))
      case measure => omega
      case rel => exact ⟨k + 1, a + la, b + lm, c + lc, by omega, rfl, by go_num, by go_num, by go_num, by go_num, by unfold Hid; rw [HTa.out]; have := Ha.out; omega, by unfold Hid; rw [HTb.out]; have := Hb.out; omega, by unfold Hid; rw [HTc.out]; have := Hc.out; omega, HB5.out⟩
    · obtain rfl : k = ts.length := by omega
      have h1 := Ha.out
      have h2 := Hb.out
      have h3 := Hc.out
      rw [List.take_length] at h1 h2 h3
      have H1 := Lib.hid h1
      have H2 := Lib.hid h2
      have H3 := Lib.hid h3
      clear h1 h2 h3
      go_wp2_with fail
      go_ret3
      exact ⟨by rw [H1.out, H2.out, H3.out]; rfl, HBX.out.trans (HB.out.mono HBX.out.size)⟩
set_option maxRecDepth 100000 in
set_option maxHeartbeats 4000000 in
theorem tally_step2 (ts : List Tr) (h1 h2 b1 b2 e1 e2 cn : Nat) (ka ca : Option Addr) (kc cc : Nat) (w : World) (hln : ts.length ≤ 1000000) (_ : cn ≤ 1000000) (hbl : leavK ts ≤ 1000000) (hbm : multK ts ≤ 1000000) (hbc : cutK ts ≤ 1000000) (hat : kidTal w ka ts) :
    Calls Tryz.prog 19 #[.agg #[.int .i64 2, .int .i64 (h1 : Int), .int .i64 (h2 : Int), .int .i64 (b1 : Int), .int .i64 (b2 : Int), .slice ka ts.length kc, .slice ca cn cc, .int .i64 (e1 : Int), .int .i64 (e2 : Int)]] w
      fun e w' => e = .returned (.tuple #[.int .i64 ((0 + leavK ts : Nat) : Int), .int .i64 ((0 + multK ts : Nat) : Int), .int .i64 ((0 + cutK ts : Nat) : Int)]) ∧ Below w.heap.size w w' := by
  have HA := Lib.hid hat
  obtain ⟨X, hX⟩ : ∃ X, X = w.alloc (partO 2 h1 h2 b1 b2 (.slice ka ts.length kc) (.slice ca cn cc) e1 e2) := ⟨_, rfl⟩
  have HBX : Hid (Below w.heap.size w X) := by rw [hX]; exact (Below.refl _ _).alloc (Nat.le_refl _) _
  have HL : Hid (X.heap[w.heap.size]? = some (partO 2 h1 h2 b1 b2 (.slice ka ts.length kc) (.slice ca cn cc) e1 e2)) := by rw [hX]; exact heap_alloc_new _ _
  have HLt : Hid (w.heap.size < X.heap.size) := by unfold Hid; rw [hX]; simp
  have HBl := Lib.hid hbl
  have HBm := Lib.hid hbm
  have HBc := Lib.hid hbc
  unfold partO at hX
  clear hat hbl hbm hbc
  go_enter Tryz.func19, Tryz.ntmps19
  go_upto_region 9 with fail
  rw [← hX]
  clear hX
  go_wp2_with fail
  go_loopg [5, 6, 7, 8] ts.length (fun q x5 x6 x7 x8 wr => ∃ (k a b c : Nat), k ≤ ts.length ∧ q = ts.length - k ∧ x5 = .int .i64 (a : Int) ∧ x6 = .int .i64 (b : Int) ∧ x7 = .int .i64 (c : Int) ∧ x8 = .int .i64 (k : Int) ∧
    Hid (a = 0 + leavK (ts.take k)) ∧ Hid (b = 0 + multK (ts.take k)) ∧ Hid (c = 0 + cutK (ts.take k)) ∧ Hid (Below X.heap.size X wr))
  case atStart => exact ⟨0, 0, 0, 0, Nat.zero_le _, rfl, rfl, rfl, rfl, rfl, by unfold Hid; simp [leavK], by unfold Hid; simp [multK], by unfold Hid; simp [cutK], Below.refl _ _⟩
  case round =>
    obtain ⟨k, a, b, c, hk, rfl, rfl, rfl, rfl, rfl, Ha, Hb, Hc, HB⟩ := hrel
    have hlr : wr.heap[w.heap.size]? = some (partO 2 h1 h2 b1 b2 (.slice ka ts.length kc) (.slice ca cn cc) e1 e2) := (HB.out.block _ HLt.out).trans HL.out
    obtain ⟨x0, x1, x2, x3, x4, x5, x6, x7, x8⟩ := part_cells hlr
    clear hlr
    by_cases hlt : k < ts.length
    · obtain ⟨g, ga, gn, gc, ga2, gn2, gc2, rfl, hg, h9, hcall⟩ := HA.out k hlt
      have HBw : Hid (Below w.heap.size w wr) := HBX.out.trans (HB.out.mono HBX.out.size)
      have HCl := Lib.hid hcall
      obtain ⟨p0, p1, p2, p3, p4, p5, p6, p7, p8⟩ := h9.block (HBw.out.block g hg)
      have HTa := Lib.hid (leavK_take hlt)
      have HTb := Lib.hid (multK_take hlt)
      have HTc := Lib.hid (cutK_take hlt)
      have q1 := leavK_le ts (k + 1)
      have q2 := multK_le ts (k + 1)
      have q3 := cutK_le ts (k + 1)
      have q4 := HBl.out
      have q5 := HBm.out
      have q6 := HBc.out
      have q7 := Ha.out
      have q8 := Hb.out
      have q9 := Hc.out
      rw [leavK_take hlt] at q1
      rw [multK_take hlt] at q2
      rw [cutK_take hlt] at q3
      unfold talV at HCl
      obtain ⟨q, hq⟩ : ∃ q, q = ts[k] := ⟨_, rfl⟩
      rw [← hq] at p0 p1 p2 p3 p4 p7 p8 HCl HTa HTb HTc q1 q2 q3
      obtain ⟨la, hla⟩ : ∃ la, la = leavT q := ⟨_, rfl⟩
      obtain ⟨lm, hlm⟩ : ∃ lm, lm = multT q := ⟨_, rfl⟩
      obtain ⟨lc, hlc⟩ : ∃ lc, lc = cutT q := ⟨_, rfl⟩
      rw [← hla] at HCl HTa q1
      rw [← hlm] at HCl HTb q2
      rw [← hlc] at HCl HTc q3
      have r1 : a + la ≤ 2000002 := by omega
      have r2 : b + lm ≤ 2000002 := by omega
      have r3 : c + lc ≤ 2000002 := by omega
      clear hq hcall h9 hla hlm hlc q1 q2 q3 q4 q5 q6 q7 q8 q9
      go_wp2_with fail
      with_reducible refine (HCl.out _ ?h1).mono ?_
      case h1 => exact HBw.out
      rintro e w5 ⟨rfl, hb5⟩
      have HB5 := Lib.hid (HB.out.trans (hb5.mono HB.out.size))
      clear hb5 HCl x0 x1 x2 x3 x4 x5 x6 x7 x8 p0 p1 p2 p3 p4 p5 p6 p7 p8
      go_wp2_with fail
      go_roundg (ts.length - (k + 1))
      case measure => omega
      case rel => exact ⟨k + 1, a + la, b + lm, c + lc, by omega, rfl, by go_num, by go_num, by go_num, by go_num, by unfold Hid; rw [HTa.out]; have := Ha.out; omega, by unfold Hid; rw [HTb.out]; have := Hb.out; omega, by unfold Hid; rw [HTc.out]; have := Hc.out; omega, HB5.out⟩
    · obtain rfl : k = ts.length := by omega
      have h1 := Ha.out
      have h2 := Hb.out
      have h3 := Hc.out
      rw [List.take_length] at h1 h2 h3
      have H1 := Lib.hid h1
      have H2 := Lib.hid h2
      have H3 := Lib.hid h3
      clear h1 h2 h3
      go_wp2_with fail
      go_ret3
      exact ⟨by rw [H1.out, H2.out, H3.out]; rfl, HBX.out.trans (HB.out.mono HBX.out.size)⟩
theorem tally_any (n : Nat) : ∀ (t : Tr), SizeOf.sizeOf t ≤ n → goodT t → countT t ≤ 100000 → ∀ (S : Nat → Prop) (w : World) (u : Value), treeAt S w t u →
    Calls Tryz.prog 19 #[u] w fun e w' => e = .returned (talV t) ∧ Below w.heap.size w w' := by
  induction n with
  | zero => intro t ht; cases t; rw [Tr.mk.sizeOf_spec] at ht; omega
  | succ n ih =>
    intro t ht hg hcb S w u hu
    obtain ⟨hf, hgk⟩ := goodT_open hg
    have hkinds := kindsT t hg
    have hlen := tilesT_len t
    have b1 := kN_le 1 (tilesT t)
    have b2 := kN_le 2 (tilesT t)
    have b3 := kN_le 3 (tilesT t)
    rw [hkinds.2.1] at b1
    rw [hkinds.2.2.1] at b2
    rw [hkinds.2.2.2.1] at b3
    have e1 := leavT_eq t
    have e2 := multT_eq t
    have e3 := cutT_eq t
    obtain ⟨ka, kn, kc, ca, cn, cc, us, rfl, hcs, ho, hkd⟩ := treeAt_open hu
    obtain ⟨rfl, hk1, hk2, hkat⟩ := kids_at ho hkd
    obtain ⟨rfl, hc1, hc2, hcat⟩ := spans_at hcs
    have hC := countT_eq t
    have hL := lenK_le t.kids
    have hkid : kidTal w ka t.kids := fun i h => by
      obtain ⟨g, a, m, c, a2, n2, c2, e, hg1, _, h9, htr⟩ := hkat i h
      have h1 := countK_drop t.kids i h
      have h2 := countK_le t.kids i
      exact ⟨g, a, m, c, a2, n2, c2, e, hg1, h9, fun W' hb => ih t.kids[i] (by have := size_kid i h; omega) (goodK_get hgk i h) (by omega) S W' _ (treeAt_below htr hb)⟩
    unfold talV
    have hlk : leavK t.kids ≤ 1000000 := by omega
    have hmk : multK t.kids ≤ 1000000 := by omega
    have hck : cutK t.kids ≤ 1000000 := by omega
    have hln : t.kids.length ≤ 1000000 := by omega
    rw [e1, e2, e3]
    rcases hf.2.2 with ⟨hk0, hks, hcs0, he⟩ | ⟨hk0, hks, hlen2⟩ | ⟨hk0, hcs0, he, q, hks, hq1, hq2⟩
    · rw [hk0]
      exact tally_step0 t.kids _ _ _ _ _ _ _ ka ca kc cc w hln (by rw [hcs0]; decide) hlk hmk hck hkid
    · rw [hk0]
      exact tally_step1 t.kids _ _ _ _ _ _ _ ka ca kc cc w hln (by omega) hlk hmk hck hkid
    · rw [hk0]
      exact tally_step2 t.kids _ _ _ _ _ _ _ ka ca kc cc w hln (by rw [hcs0]; decide) hlk hmk hck hkid
end Go.Proofs.YtfgppamhbchhcaaGreatDoor
