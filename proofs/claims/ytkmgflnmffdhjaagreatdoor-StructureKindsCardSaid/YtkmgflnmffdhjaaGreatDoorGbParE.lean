/- strings.Replacer at quotes and strokes: Replace. -/
import Derived.Test.YtkmgflnmffdhjaaGreatDoorGbParC
import Derived.Test.YtkmgflnmffdhjaaGreatDoorShelf
import Derived.Deep.DeepCutAuto
import Derived.Deep.CutBlock
import Derived.Deep.RegionLaw
import Derived.Deep.OwnRows
namespace Go.Proofs.YtkmgflnmffdhjaaGreatDoor
open Go Go.RowKit

def hitB (c : UInt8) : Bool := c == 34 || c == 92
def escB (c : UInt8) : List UInt8 := if hitB c then [92, c] else [c]
def escL (l : List UInt8) : List UInt8 := l.flatMap escB
theorem escL_app (a b : List UInt8) : escL (a ++ b) = escL a ++ escL b := by simp [escL]
theorem escL_one (c : UInt8) : escL [c] = escB c := by simp [escL]
theorem escL_len (l : List UInt8) : (escL l).length = l.length + l.countP hitB := by
  induction l with
  | nil => rfl
  | cons c l ih =>
    have e : escL (c :: l) = escB c ++ escL l := by simp [escL]
    rw [e, List.length_append, ih, List.countP_cons, List.length_cons]
    unfold escB
    by_cases h : hitB c = true
    · simp [h]; omega
    · simp [h]; omega
theorem escL_none (l : List UInt8) (h : l.countP hitB = 0) : escL l = l := by
  induction l with
  | nil => rfl
  | cons c l ih =>
    rw [List.countP_cons] at h
    have e : escL (c :: l) = escB c ++ escL l := by simp [escL]
    by_cases hc : hitB c = true
    · simp [hc] at h
    · rw [e, ih (by omega)]
      unfold escB
      rw [if_neg hc]
      rfl
theorem countP_hit (l : List UInt8) : l.countP hitB = l.count 92 + l.count 34 := by
  induction l with
  | nil => rfl
  | cons c l ih =>
    rw [List.countP_cons, ih, List.count_cons, List.count_cons]
    unfold hitB
    by_cases h1 : c = 34
    · subst h1; simp; omega
    · by_cases h2 : c = 92
      · subst h2; simp; omega
      · simp [h1, h2]

def upto (k a b : Nat) : Nat := if k = 0 then 0 else if k = 1 then a else a + b
theorem splice_len {α : Type} (cur cs : List α) (j : Nat) (h : j + cs.length ≤ cur.length) : (splice cur j cs).length = cur.length := by
  simp [splice]
  omega
theorem splice_take {α : Type} (cur cs : List α) (j : Nat) (h : j + cs.length ≤ cur.length) : (splice cur j cs).take (j + cs.length) = cur.take j ++ cs := by
  unfold splice
  rw [← List.append_assoc, List.take_append_of_le_length (by simp; omega)]
  exact List.take_of_length_le (by simp; omega)
theorem set_take {α : Type} (cur : List α) (j : Nat) (x : α) (h : j < cur.length) : (cur.set j x).take (j + 1) = cur.take j ++ [x] := by
  rw [List.take_succ_eq_append_getElem (by simpa using h), List.take_set_of_le (Nat.le_refl _), List.getElem_set_self]
theorem heap_setCell_row (w : World) (B j : Nat) (v : Value) (cur : List Value) (t : TypeId) (h : w.heap[B]? = some (.cells cur.toArray t (0, 0))) : (w.setCell ⟨B, j, none⟩ v).heap[B]? = some (.cells (cur.set j v).toArray t (0, 0)) := by
  simp [World.setCell, Array.getElem?_modify, h]
theorem upto_0 (a b : Nat) : upto 1 a b = upto 0 a b + a := by simp [upto]
theorem upto_le (k a b : Nat) : upto k a b ≤ a + b := by unfold upto; split <;> (try split) <;> omega
theorem upto_1 (a b : Nat) : upto 2 a b = upto 1 a b + b := by simp [upto]
theorem Esc.below {lo : Nat} {W W' : World} {M : Nat} (h : Esc lo W M) (hb : Below W.heap.size W W') : Esc lo W' M := by
  obtain ⟨F, a34, c34, a92, c92, t, ct, hlo, hT, h34, h92, ho, h256, r34, r92, rt, k1, k2, k3⟩ := h
  exact ⟨F, a34, c34, a92, c92, t, ct, hlo, hT.below (by decide) hb, h34, h92, ho, h256, r34.below (hb.block _ r34.lt), r92.below (hb.block _ r92.lt), rt.below (hb.block _ rt.lt), k1, k2, k3⟩
theorem Esc.hit {lo : Nat} {W : World} {M : Nat} (h : Esc lo W M) {c : UInt8} (hc : hitB c = true) : ∃ a ca, W.cell? ⟨M, c.toNat, none⟩ = some (.slice (some ⟨a, 0, none⟩) 2 ca) ∧ rowAt W a 5 ([92, c].map byteV) ∧ 2 ≤ ca := by
  obtain ⟨F, a34, c34, a92, c92, t, ct, hlo, hT, h34, h92, ho, h256, r34, r92, rt, k1, k2, k3⟩ := h
  have hc' : c = 34 ∨ c = 92 := by simpa [hitB] using hc
  rcases hc' with rfl | rfl
  · exact ⟨a34, c34, (hT.c 34 (by decide)).trans (by rw [h34]), r34, k1⟩
  · exact ⟨a92, c92, (hT.c 92 (by decide)).trans (by rw [h92]), r92, k2⟩
theorem Esc.miss {lo : Nat} {W : World} {M : Nat} (h : Esc lo W M) {c : UInt8} (hc : ¬ hitB c = true) : W.cell? ⟨M, c.toNat, none⟩ = some (.slice none 0 0) := by
  obtain ⟨F, a34, c34, a92, c92, t, ct, hlo, hT, h34, h92, ho, h256, r34, r92, rt, k1, k2, k3⟩ := h
  have hl := c.toNat_lt
  have h1 : ¬ (c = 34 ∨ c = 92) := by simpa [hitB] using hc
  rw [hT.c c.toNat (by omega), ho c.toNat (by omega) (fun e => h1 (.inl (toNat_eq e))) (fun e => h1 (.inr (toNat_eq e)))]
theorem count_byte (s : ByteArray) (c : UInt8) (w : World) :
    Calls Tryz.prog 182 #[.string s, .string ⟨#[c]⟩] w fun e w' => e = .returned (.int .i64 ((s.data.toList.count c : Nat) : Int)) ∧ w = w' :=
  (Tryz.strings_Count_one s c w).mono fun _ _ ⟨he, hw⟩ => ⟨he, hw.symm⟩

set_option maxRecDepth 100000 in
set_option maxHeartbeats 2000000 in
theorem bsReplace_any (lo M : Nat) (s : ByteArray) (w : World) (h : Esc lo w M) (hl : s.size ≤ 1000000000) :
    Calls Tryz.prog 270 #[.pointer (some ⟨M, 0, none⟩), .string s] w fun e w' => e = .returned (.string ⟨(escL s.data.toList).toArray⟩) ∧ Below w.heap.size w w' := by
  have HE : Hid (Esc lo w M) := h
  have HC := Lib.hid (count_byte s)
  have HL := Lib.hid (escL_len s.data.toList)
  have HP := Lib.hid (countP_hit s.data.toList)
  have c0 : Hid (∀ c, s.data.toList.count c ≤ s.size) := fun c => by have := List.count_le_length (a := c) (l := s.data.toList); simpa using this
  obtain ⟨n92, h92⟩ : ∃ n, n = s.data.toList.count 92 := ⟨_, rfl⟩
  obtain ⟨n34, h34⟩ : ∃ n, n = s.data.toList.count 34 := ⟨_, rfl⟩
  have b92 := c0.out 92
  have b34 := c0.out 34
  have b2 : n92 + n34 ≤ s.size := by
    have := List.countP_le_length (p := hitB) (l := s.data.toList)
    rw [HP.out, ← h92, ← h34] at this
    simpa using this
  rw [← h92] at b92
  rw [← h34] at b34
  have HC92 : Hid (∀ W, Calls Tryz.prog 182 #[.string s, .string ⟨#[92]⟩] W fun e w' => e = .returned (.int .i64 (n92 : Int)) ∧ W = w') := fun W => by rw [h92]; exact HC.out 92 W
  have HC34 : Hid (∀ W, Calls Tryz.prog 182 #[.string s, .string ⟨#[34]⟩] W fun e w' => e = .returned (.int .i64 (n34 : Int)) ∧ W = w') := fun W => by rw [h34]; exact HC.out 34 W
  have HL' : Hid ((escL s.data.toList).length = s.size + (n92 + n34)) := by
    unfold Hid
    rw [HL.out, HP.out, ← h92, ← h34, len_toList]
  have HP' : Hid (s.data.toList.countP hitB = n92 + n34) := by
    unfold Hid
    rw [HP.out, ← h92, ← h34]
  have hH := h
  obtain ⟨F, a34, k34, a92, k92, t, ct, _, hT, f34, f92, ho, f256, r34, r92, rt, q1, q2, q3⟩ := h
  clear h92 h34 HL HP HC c0
  go_enter Tryz.func270, Tryz.ntmps270
  have c256 := hT.c 256 (by decide)
  rw [f256] at c256
  have HT := Lib.hid hT
  have HF34 := Lib.hid f34
  have HF92 := Lib.hid f92
  have HO := Lib.hid ho
  have H34 := Lib.hid r34
  have H92 := Lib.hid r92
  have HRt := Lib.hid rt
  clear f34 f92 f256 ho hT r34 r92 rt hH
  go_upto_if 26 with fail
  go_cut [5, 6] (fun s5 s6 wx => ∃ wr, s5 = .int .i64 ((s.size + (n92 + n34) : Nat) : Int) ∧ s6 = .bool (decide (0 < n92 + n34)) ∧ Hid (Below w.heap.size w wr) ∧ wr = wx)
  case first =>
    have c34 := HT.out.c 34 (by decide)
    have c92 := HT.out.c 92 (by decide)
    rw [HF34.out] at c34
    rw [HF92.out] at c92
    have C34 := Lib.hid c34
    have C92 := Lib.hid c92
    have C256 := Lib.hid c256
    have hMl := HT.out.lt (by decide)
    have r0 := HRt.out.cell 0 (by decide)
    have r1 := HRt.out.cell 1 (by decide)
    have htl := HRt.out.lt
    simp only [List.getElem_cons_zero, List.getElem_cons_succ] at r0 r1
    have R0 := Lib.hid r0
    have R1 := Lib.hid r1
    have e92 : ((⟨#[92]⟩ : ByteArray)[0]'(by decide)).toNat = 92 := rfl
    have e34 : ((⟨#[34]⟩ : ByteArray)[0]'(by decide)).toNat = 34 := rfl
    clear r0 r1 c34 c92
    by_cases h16 : 16 ≤ s.size
    · have hd : decide ((16 : Int) ≤ (s.size : Int)) = true := decide_eq_true (by omega)
      rw [hd]
      go_wp2_with fail
      go_loopg [5, 6, 32] 2 (fun g v5 v6 vk wr => ∃ k, k ≤ 2 ∧ g = 2 - k ∧ vk = .int .i64 (k : Int) ∧ v5 = .int .i64 ((s.size + upto k n92 n34 : Nat) : Int) ∧ v6 = .bool (decide (0 < upto k n92 n34)) ∧ Hid (Below w.heap.size w wr))
      case atStart => exact ⟨0, by omega, by omega, rfl, rfl, rfl, Below.refl _ _⟩
      case round =>
        obtain ⟨k, hk, rfl, rfl, rfl, rfl, HB⟩ := hrel
        rcases (show k = 0 ∨ k = 1 ∨ k = 2 by omega) with rfl | rfl | rfl
        · have x0 := (HB.out.cell (p := ⟨t, 0, none⟩) htl).trans R0.out
          have x1 := (HB.out.cell (p := ⟨M, 92, none⟩) hMl).trans C92.out
          have y0 := (HB.out.cell (p := ⟨M, 256, none⟩) hMl).trans C256.out
          by_cases hz : n92 = 0
          · have bz : ((n92 : Int) != 0) = false := bne_no (by omega)
            have HU := Lib.hid (upto_0 n92 n34)
            have hup := upto_le 0 n92 n34
            go_wp2_with (go_at_call 182; refine (HC92.out _).mono ?_; rintro e w' ⟨rfl, rfl⟩)
            go_roundg (2 - (0 + 1))
            case measure => omega
            case rel => exact ⟨1, by omega, rfl, by go_num, by rw [HU.out, hz, Nat.add_zero]; go_num, by rw [HU.out, hz, Nat.add_zero], HB⟩
          · have bz : ((n92 : Int) != 0) = true := bne_yes (by omega)
            have HU := Lib.hid (upto_0 n92 n34)
            have hup := upto_le 0 n92 n34
            go_wp2_with (go_at_call 182; refine (HC92.out _).mono ?_; rintro e w' ⟨rfl, rfl⟩)
            go_quiet (fail)
            go_wp2_with fail
            go_roundg (2 - (0 + 1))
            case measure => omega
            case rel => exact ⟨1, by omega, rfl, by go_num, by rw [HU.out]; go_num, by rw [HU.out, decide_eq_true (show 0 < upto 0 n92 n34 + n92 by omega)], HB.out.trans ((below_drewN' _).mono HB.out.size)⟩
        · have x0 := (HB.out.cell (p := ⟨t, 1, none⟩) htl).trans R1.out
          have x1 := (HB.out.cell (p := ⟨M, 34, none⟩) hMl).trans C34.out
          have y0 := (HB.out.cell (p := ⟨M, 256, none⟩) hMl).trans C256.out
          by_cases hz : n34 = 0
          · have bz : ((n34 : Int) != 0) = false := bne_no (by omega)
            have HU := Lib.hid (upto_1 n92 n34)
            have hup := upto_le 1 n92 n34
            go_wp2_with (go_at_call 182; refine (HC34.out _).mono ?_; rintro e w' ⟨rfl, rfl⟩)
            go_roundg (2 - (1 + 1))
            case measure => omega
            case rel => exact ⟨2, by omega, rfl, by go_num, by rw [HU.out, hz, Nat.add_zero]; go_num, by rw [HU.out, hz, Nat.add_zero], HB⟩
          · have bz : ((n34 : Int) != 0) = true := bne_yes (by omega)
            have HU := Lib.hid (upto_1 n92 n34)
            have hup := upto_le 1 n92 n34
            go_wp2_with (go_at_call 182; refine (HC34.out _).mono ?_; rintro e w' ⟨rfl, rfl⟩)
            go_quiet (fail)
            go_wp2_with fail
            go_roundg (2 - (1 + 1))
            case measure => omega
            case rel => exact ⟨2, by omega, rfl, by go_num, by rw [HU.out]; go_num, by rw [HU.out, decide_eq_true (show 0 < upto 1 n92 n34 + n34 by omega)], HB.out.trans ((below_drewN' _).mono HB.out.size)⟩
        · go_wp2_with fail
          go_meet
          exact ⟨_, rfl, rfl, HB, rfl⟩
    · have hd : decide ((16 : Int) ≤ (s.size : Int)) = false := decide_eq_false (by omega)
      rw [hd]
      go_wp2_with fail
      go_loopg [5, 6, 10] s.size (fun g v5 v6 vk wr => ∃ k, k ≤ s.size ∧ g = s.size - k ∧ vk = .int .i64 (k : Int) ∧ v5 = .int .i64 ((s.size + (s.data.toList.take k).countP hitB : Nat) : Int) ∧ v6 = .bool (decide (0 < (s.data.toList.take k).countP hitB)) ∧ Hid (Below w.heap.size w wr))
      case atStart => exact ⟨0, by omega, by omega, rfl, by simp, by simp, Below.refl _ _⟩
      case round =>
        obtain ⟨k, hk, rfl, rfl, rfl, rfl, HB⟩ := hrel
        by_cases hlt : k < s.size
        · have HT := Lib.hid (take_snoc s k hlt)
          have hcl := s[k].toNat_lt
          obtain ⟨n, hn⟩ : ∃ n, n = (s.data.toList.take k).countP hitB := ⟨_, rfl⟩
          have hnk : n ≤ k := by rw [hn]; have := List.countP_le_length (p := hitB) (l := s.data.toList.take k); simp at this; omega
          rw [← hn]
          have HN : Hid ((s.data.toList.take (k + 1)).countP hitB = n + if hitB s[k] then 1 else 0) := by
            unfold Hid
            rw [HT.out, List.countP_append, ← hn]
            simp [List.countP_cons]
          by_cases hh : hitB s[k] = true
          · obtain ⟨a, ca, x0, _, hca⟩ := (HE.out.below HB.out).hit hh
            rw [if_pos hh] at HN
            go_wp2_with fail
            go_roundg (s.size - (k + 1))
            case measure => omega
            case rel => exact ⟨k + 1, by omega, rfl, by go_num, by rw [HN.out]; go_num, by rw [HN.out, decide_eq_true (show 0 < n + 1 by omega)], HB⟩
          · have x0 := (HE.out.below HB.out).miss hh
            rw [if_neg hh] at HN
            go_wp2_with fail
            go_roundg (s.size - (k + 1))
            case measure => omega
            case rel => exact ⟨k + 1, by omega, rfl, by go_num, by rw [HN.out]; go_num, by rw [HN.out]; rfl, HB⟩
        · have HN : Hid (s.data.toList.take k = s.data.toList) := take_all s k hlt
          rw [HN.out, HP'.out]
          go_wp2_with fail
          go_meet
          exact ⟨_, rfl, rfl, HB, rfl⟩
  case rest =>
    obtain ⟨wq, rfl, rfl, HB, rfl⟩ := hcut
    by_cases h0 : n92 + n34 = 0
    · have hd0 : decide (0 < n92 + n34) = false := decide_eq_false (by omega)
      have HS : Hid (escL s.data.toList = s.data.toList) := escL_none _ (by rw [HP'.out]; omega)
      rw [hd0]
      go_wp2_with fail
      go_ret
      exact ⟨ret_str (bytes_eq (by rw [HS.out])), HB.out⟩
    · have hd0 : decide (0 < n92 + n34) = true := decide_eq_true (by omega)
      rw [hd0]
      obtain ⟨N, hN⟩ : ∃ N, N = s.size + (n92 + n34) := ⟨_, rfl⟩
      rw [← hN]
      have HN : Hid (N = s.size + (n92 + n34)) := hN
      have hNl : N ≤ 2000000000 := by omega
      have HNe : Hid ((escL s.data.toList).length = N) := HL'.out.trans hN.symm
      have hmk := run_make_row' (P := Tryz.prog) 22 5 _ 1 Tryz.underlying22 Tryz.infoB rfl .i64 .i64 N (by omega) (by omega)
      clear hN
      go_wp2_with fail
      go_loopg [13, 14] s.size (fun g v13 v14 wr => ∃ (k j : Nat) (cur : List Value), k ≤ s.size ∧ g = s.size - k ∧ v14 = .int .i64 (k : Int) ∧ v13 = .int .i64 (j : Int) ∧ Hid (j = (escL (s.data.toList.take k)).length) ∧ Hid (cur.length = N) ∧
        Hid (wr.heap[wq.heap.size]? = some (.cells cur.toArray 5 (0, 0))) ∧ Hid (cur.take j = (escL (s.data.toList.take k)).map byteV) ∧ Hid (Below w.heap.size w wr))
      case atStart => exact ⟨0, 0, (madeCells #[.int .u8 0] N).toList, by omega, by omega, rfl, rfl, by unfold Hid; simp [escL], by unfold Hid; simp [madeCells], heap_alloc_new _ _, by unfold Hid; simp [escL], HB.out.alloc HB.out.size _⟩
      case round =>
        obtain ⟨k, j, cur, hk, rfl, rfl, rfl, HJ, HC, HR, HTk, HB2⟩ := hrel
        by_cases hlt : k < s.size
        · have HT := Lib.hid (take_snoc s k hlt)
          have hcl := s[k].toNat_lt
          have HEs : Hid (escL (s.data.toList.take (k + 1)) = escL (s.data.toList.take k) ++ escB s[k]) := by unfold Hid; rw [HT.out, escL_app, escL_one]
          have HLe : Hid ((escL (s.data.toList.take (k + 1))).length ≤ N) := by
            unfold Hid
            rw [← HNe.out]
            conv => rhs; rw [← List.take_append_drop (k + 1) s.data.toList, escL_app, List.length_append]
            omega
          have HE2 : Hid (Esc lo wr M) := HE.out.below HB2.out
          by_cases hh : hitB s[k] = true
          · obtain ⟨a, ca, x0, hra, hca⟩ := HE2.out.hit hh
            have HRa := Lib.hid hra
            have HBB : Hid (escB s[k] = [92, s[k]]) := by unfold Hid escB; rw [if_pos hh]
            have hjN : j + 2 ≤ N := by
              have := HLe.out
              rw [HEs.out, HBB.out, List.length_append, ← HJ.out] at this
              simpa using this
            have hjc : ¬ N = j := by omega
            have hjn : j ≤ N := by omega
            have hci : ((s[k].toNat : Nat) : Int) < 256 := byte_lt _
            have G1 : Hid (([92, s[k]].map byteV).length = Nat.min 2 (N - j)) := by
              show 2 = min 2 (N - j)
              omega
            have G2 : Hid (∀ i v, ([92, s[k]].map byteV)[i]? = some v → wr.drew.cell? ((⟨a, 0, none⟩ : Addr).add i) = some v) := by
              intro i v hv
              obtain ⟨hi, e⟩ := List.getElem?_eq_some_iff.1 hv
              rw [Addr.add_lit, Nat.zero_add, ← e]
              exact HRa.out.cell i hi
            have G3 : Hid (j + ([92, s[k]].map byteV).length ≤ cur.length) := by
              unfold Hid
              rw [HC.out]
              exact hjN
            go_wp2_with fail
            go_region_law ((refine step_copy_splice (by exact rfl) (.tmp 105) (.tmp 111) 22 22 (by exact rfl) 5 Tryz.underlying22 (by kernel_rfl) (some ⟨wq.heap.size, j, none⟩) (some ⟨a, 0, none⟩) (N - j) (N - j) 2 ca (by exact rfl) (by exact rfl) wq.heap.size j cur 5 HR.out ([92, s[k]].map byteV) G1.out (fun _ => ⟨rfl, _, rfl, G2.out⟩) G3.out (news_one [92, s[k]]) w.heap.size w HB2.out.drew HB.out.size ?_; intro w4 hg4 hb4))
            go_wp2_with fail
            go_roundg (s.size - (k + 1))
            case measure => omega
            case rel =>
              refine ⟨k + 1, j + 2, _, by omega, rfl, by go_num, by simp, ?_, ?_, hg4.out, ?_, hb4⟩
              · unfold Hid
                rw [HEs.out, HBB.out, List.length_append, ← HJ.out]
                rfl
              · unfold Hid
                rw [splice_len _ _ _ G3.out, HC.out]
              · unfold Hid
                rw [HEs.out, HBB.out, List.map_append, ← HTk.out]
                exact splice_take _ _ _ G3.out
          · have x0 := HE2.out.miss hh
            have HBB : Hid (escB s[k] = [s[k]]) := by unfold Hid escB; rw [if_neg hh]
            have hjN : j + 1 ≤ N := by
              have := HLe.out
              rw [HEs.out, HBB.out, List.length_append, ← HJ.out] at this
              simpa using this
            have hci : ((s[k].toNat : Nat) : Int) < 256 := byte_lt _
            have hcur : j < cur.length := by have := HC.out; omega
            have hBl : wq.heap.size < wr.heap.size := (Array.getElem?_eq_some_iff.1 HR.out).1
            have y0 : wr.cell? ⟨wq.heap.size, j, none⟩ = some cur[j] := by
              simp only [World.cell?, HR.out]
              simp [hcur]
            have y1 : wr.frozen? ⟨wq.heap.size, j, none⟩ = false := by
              simp [World.frozen?, HR.out]
            go_wp2_with fail
            go_roundg (s.size - (k + 1))
            case measure => omega
            case rel =>
              refine ⟨k + 1, j + 1, cur.set j (.int .u8 (s[k].toNat : Int)), by omega, rfl, by go_num, by go_num, ?_, ?_, ?_, ?_, HB2.out.setCell (p := ⟨wq.heap.size, j, none⟩) HB.out.size _⟩
              · unfold Hid
                rw [HEs.out, HBB.out, List.length_append, ← HJ.out]
                rfl
              · unfold Hid
                rw [List.length_set, HC.out]
              · exact heap_setCell_row _ _ _ _ _ _ HR.out
              · unfold Hid
                rw [HEs.out, HBB.out, List.map_append, ← HTk.out]
                exact set_take _ _ _ hcur
        · have HN2 : Hid (s.data.toList.take k = s.data.toList) := take_all s k hlt
          have HJN : Hid (j = N) := by unfold Hid; rw [HJ.out, HN2.out, HNe.out]
          have HFin : Hid (cur = (escL s.data.toList).map byteV) := by
            have h1 := HTk.out
            rw [HN2.out, HJN.out, ← HC.out, List.take_length] at h1
            exact h1
          have hcv := run_string_of_row (P := Tryz.prog) (w := wr) (src := 22) (dst := 9) (e := 5) (B := wq.heap.size) (n := N) (cap := N) (l := escL s.data.toList) Tryz.underlying22 Tryz.underlying5 Tryz.underlying9 ⟨cur.toArray, 0, 0, HR.out, fun i _ h => by omega, by rw [HFin.out]; exact List.take_of_length_le (by simp)⟩ HNe.out.symm
          go_wp2_with fail
          go_ret
          exact ⟨rfl, HB2.out⟩
end Go.Proofs.YtkmgflnmffdhjaaGreatDoor

/- Contracts of package params: Quoted. -/
namespace Go.Proofs.YtkmgflnmffdhjaaGreatDoor
open Go Go.RowKit

theorem Esc.setCell {lo : Nat} {W : World} {M : Nat} (h : Esc lo W M) {p : Addr} (hp : p.block < lo) (u : Value) : Esc lo (W.setCell p u) M := by
  obtain ⟨F, a34, c34, a92, c92, t, ct, hlo, hT, h34, h92, ho, h256, r34, r92, rt, k1, k2, k3⟩ := h
  exact ⟨F, a34, c34, a92, c92, t, ct, hlo, hT.block (Below.heap_setCell _ _ _ _ (by omega)), h34, h92, ho, h256, r34.below (Below.heap_setCell _ _ _ _ (by omega)), r92.below (Below.heap_setCell _ _ _ _ (by omega)), rt.below (Below.heap_setCell _ _ _ _ (by omega)), k1, k2, k3⟩

/-- A replacer's block. -/
def repF (r v : Value) (d s : Int) : Nat → Value := fun k => if k = 0 then .int .u32 d else if k = 1 then .int .i32 s else if k = 2 then .int .u32 0 else if k = 3 then r else v

set_option maxRecDepth 100000 in
set_option maxHeartbeats 1600000 in
theorem buildOnce_any (b q cap : Nat) (d s : Int) (w : World) (hb : Tab w b 5 (repF .nilIface (.slice (some ⟨q, 0, none⟩) 4 cap) d s))
    (s0 : w.cell? ⟨q, 0, none⟩ = some (.string ⟨#[34]⟩)) (s1 : w.cell? ⟨q, 1, none⟩ = some (.string ⟨#[92, 34]⟩)) (s2 : w.cell? ⟨q, 2, none⟩ = some (.string ⟨#[92]⟩)) (s3 : w.cell? ⟨q, 3, none⟩ = some (.string ⟨#[92, 92]⟩)) :
    Calls Tryz.prog 136 #[.pointer (some ⟨b, 0, none⟩)] w fun e w' => e = .returned (.tuple #[]) ∧ ∃ M, Esc (b + 1) w' M ∧
      Tab w' b 5 (updF (updF (repF .nilIface (.slice (some ⟨q, 0, none⟩) 4 cap) d s) 3 (.iface 271 (.pointer (some ⟨M, 0, none⟩)))) 4 (.slice none 0 0)) ∧ Below b w w' := by
  have HT := Lib.hid hb
  have HB := Lib.hid (fun h4 => build_any b q cap w h4 s0 s1 s2 s3)
  have hbl := hb.lt (by decide)
  clear s0 s1 s2 s3 hb
  go_enter Tryz.func136, Tryz.ntmps136
  go_wp2_with fail
  with_reducible refine (HB.out ?h4).mono ?_
  case h4 => exact HT.out.c 4 (by decide)
  rintro e w1 ⟨M, rfl, hM, hE, hb1⟩
  have HT1 := Lib.hid (HT.out.below (by decide) hb1)
  have HE1 := Lib.hid hE
  have HB1 := Lib.hid hb1
  have x3 := HT1.out.c 3 (by decide)
  have z3 := HT1.out.z 3 (by decide)
  have x4 := HT1.out.c 4 (by decide)
  have z4 := HT1.out.z 4 (by decide)
  clear hb1 hE HB HT
  go_wp2_with fail
  first | go_end0 | skip
  refine ⟨rfl, M, ?_, ?_, ?_⟩
  · have h1 := (HE1.out.setCell (p := ⟨b, 3, none⟩) hbl (.iface 271 (.pointer (some ⟨M, 0, none⟩)))).setCell (p := ⟨b, 4, none⟩) hbl (.slice none 0 0)
    obtain ⟨F, a34, c34, a92, c92, t, ct, hlo, r⟩ := h1
    exact ⟨F, a34, c34, a92, c92, t, ct, ⟨by omega, by omega, by omega, by omega⟩, r⟩
  · exact (HT1.out.set (k := 3) (by decide) _).set (k := 4) (by decide) _
  · have h0 : Below b w w1 := HB1.out.mono (Nat.le_of_lt hbl)
    exact (h0.setCell (p := ⟨b, 3, none⟩) (Nat.le_refl _) _).setCell (p := ⟨b, 4, none⟩) (Nat.le_refl _) _

set_option maxRecDepth 100000 in
set_option maxHeartbeats 1600000 in
theorem replace_any (b q cap : Nat) (t : ByteArray) (w : World) (hb : Tab w b 5 (repF .nilIface (.slice (some ⟨q, 0, none⟩) 4 cap) 0 0)) (hl : t.size ≤ 1000000000) (hqb : q < b)
    (s0 : w.cell? ⟨q, 0, none⟩ = some (.string ⟨#[34]⟩)) (s1 : w.cell? ⟨q, 1, none⟩ = some (.string ⟨#[92, 34]⟩)) (s2 : w.cell? ⟨q, 2, none⟩ = some (.string ⟨#[92]⟩)) (s3 : w.cell? ⟨q, 3, none⟩ = some (.string ⟨#[92, 92]⟩)) :
    Calls Tryz.prog 111 #[.pointer (some ⟨b, 0, none⟩), .string t] w fun e w' => e = .returned (.string ⟨(escL t.data.toList).toArray⟩) ∧ Below b w w' := by
  have hqo : ∀ k, (w.setCell ⟨b, 1, none⟩ (.int .i32 1)).cell? ⟨q, k, none⟩ = w.cell? ⟨q, k, none⟩ := fun k => World.cell?_of_block (Below.heap_setCell w ⟨b, 1, none⟩ _ q (by show q ≠ b; omega))
  have HTa : Tab (w.setCell ⟨b, 1, none⟩ (.int .i32 1)) b 5 (repF .nilIface (.slice (some ⟨q, 0, none⟩) 4 cap) 0 1) := by
    have h1 := hb.set (k := 1) (by decide) (.int .i32 1)
    refine ⟨fun k hk => ?_, h1.z⟩
    rw [h1.c k hk]
    unfold updF repF
    congr 1
    by_cases e0 : k = 0
    · subst e0; rfl
    · by_cases e1 : k = 1
      · subst e1; rfl
      · rw [if_neg e1, if_neg e0, if_neg e1, if_neg e0, if_neg e1]
  have hbo := buildOnce_any b q cap 0 1 _ HTa ((hqo 0).trans s0) ((hqo 1).trans s1) ((hqo 2).trans s2) ((hqo 3).trans s3)
  have hdo := do_any b (.pointer (some ⟨b, 0, none⟩)) w (fun w1 => ∃ M, Esc (b + 1) w1 M ∧ Tab w1 b 5 (updF (updF (repF .nilIface (.slice (some ⟨q, 0, none⟩) 4 cap) 0 1) 3 (.iface 271 (.pointer (some ⟨M, 0, none⟩)))) 4 (.slice none 0 0)) ∧ Below b w w1)
    (hb.c 0 (by decide)) (hb.c 1 (by decide)) (hb.z 1 (by decide))
    (hbo.mono fun e w' ⟨he, M, hE, hT, hbl⟩ => ⟨he, hT.c 0 (by decide), hT.c 1 (by decide), hT.z 0 (by decide), hT.z 1 (by decide), M, hE, hT, ((Below.refl b w).setCell (p := ⟨b, 1, none⟩) (Nat.le_refl _) _).trans hbl⟩)
  have hdo2 := hdo.mono (R' := fun e w' => e = .returned (.tuple #[]) ∧ ∃ M, Esc (b + 1) w' M ∧ w'.cell? ⟨b, 3, none⟩ = some (.iface 271 (.pointer (some ⟨M, 0, none⟩))) ∧ Below b w w') fun e w' ⟨he, w1, ⟨M, hE, hT, hbl⟩, hw1⟩ => by
    refine ⟨he, M, ?_, ?_, ?_⟩
    · rw [hw1]
      have hE' : Esc (b + 1) w1.drew M := hE.below (Below.refl _ _).drew
      exact (hE'.setCell (p := ⟨b, 0, none⟩) (Nat.lt_succ_self b) (.int .u32 1)).setCell (p := ⟨b, 1, none⟩) (Nat.lt_succ_self b) (.int .i32 0)
    · rw [hw1]
      have hT' := hT.block (W' := w1.drew) rfl
      exact ((hT'.set (k := 0) (by decide) (.int .u32 1)).set (k := 1) (by decide) (.int .i32 0)).c 3 (by decide)
    · rw [hw1]
      exact (hbl.drew.setCell (p := ⟨b, 0, none⟩) (Nat.le_refl _) _).setCell (p := ⟨b, 1, none⟩) (Nat.le_refl _) _
  have hbw : b < w.heap.size := hb.lt (by decide)
  have HD := Lib.hid hdo2
  have hm : ∀ (m : Nat) W, (method 453 271 (.pointer (some ⟨m, 0, none⟩)) "Replace").run Tryz.prog W = .ok (270, .pointer (some ⟨m, 0, none⟩)) W := fun _ _ => by kernel_rfl
  clear hdo2 hdo hbo HTa hqo s0 s1 s2 s3 hb
  go_enter Tryz.func111, Tryz.ntmps111
  go_wp2_with (go_at_call 135; refine HD.out.mono ?_; rintro e w1 ⟨rfl, M, hE, c3, hbl⟩)
  have HB := Lib.hid hbl
  have HR := Lib.hid (bsReplace_any (b + 1) M t w1 hE hl)
  clear hE hbl HD
  go_wp2_with (go_at_call 270; refine HR.out.mono ?_; rintro e w2 ⟨rfl, hb2⟩)
  go_ret
  exact ⟨rfl, HB.out.trans (hb2.mono (by have := HB.out.size; omega))⟩

set_option maxRecDepth 100000 in
set_option maxHeartbeats 1600000 in
/-- strings.NewReplacer of four texts. -/
theorem newReplacer_any (q cap : Nat) (w : World)
    (s0 : w.cell? ⟨q, 0, none⟩ = some (.string ⟨#[34]⟩)) (s1 : w.cell? ⟨q, 1, none⟩ = some (.string ⟨#[92, 34]⟩)) (s2 : w.cell? ⟨q, 2, none⟩ = some (.string ⟨#[92]⟩)) (s3 : w.cell? ⟨q, 3, none⟩ = some (.string ⟨#[92, 92]⟩)) :
    Calls Tryz.prog 110 #[.slice (some ⟨q, 0, none⟩) 4 cap] w fun e w' => ∃ b g k, e = .returned (.pointer (some ⟨b, 0, none⟩)) ∧ w.heap.size ≤ b ∧ g < b ∧ Tab w' b 5 (repF .nilIface (.slice (some ⟨g, 0, none⟩) 4 k) 0 0) ∧
      w'.cell? ⟨g, 0, none⟩ = some (.string ⟨#[34]⟩) ∧ w'.cell? ⟨g, 1, none⟩ = some (.string ⟨#[92, 34]⟩) ∧ w'.cell? ⟨g, 2, none⟩ = some (.string ⟨#[92]⟩) ∧ w'.cell? ⟨g, 3, none⟩ = some (.string ⟨#[92, 92]⟩) ∧ Below w.heap.size w w' := by
  obtain ⟨i0, hi, hz⟩ := Option.map_eq_some_iff.1 Tryz.infoStrg
  simp only [Prod.mk.injEq] at hz
  obtain ⟨hz0, hz1, hz2⟩ := hz
  have HNw : Hid (∀ j u, [Value.string ⟨#[34]⟩, .string ⟨#[92, 34]⟩, .string ⟨#[92]⟩, .string ⟨#[92, 92]⟩][j]? = some u → w.cell? ((⟨q, 0, none⟩ : Addr).add j) = some u) := by
    intro j u hu
    rw [Addr.add_lit, Nat.zero_add]
    match j, hu with
    | 0, hu => cases hu; exact s0
    | 1, hu => cases hu; exact s1
    | 2, hu => cases hu; exact s2
    | 3, hu => cases hu; exact s3
    | j + 4, hu => simp at hu
  go_enter Tryz.func110, Tryz.ntmps110
  go_wp2_with (at_builtin; refine wpList_append_own _ rfl _ _ 94 rfl w.heap.size 9 i0 (.string ⟨#[]⟩) 1 16 Tryz.underlying94 hi hz0 hz1 hz2 rfl (by decide) (.slice none 0 0) 0 [] rfl (World.ownsRow_nil _ _ _ _) ⟨q, 0, none⟩ 4 cap [.string ⟨#[34]⟩, .string ⟨#[92, 34]⟩, .string ⟨#[92]⟩, .string ⟨#[92, 92]⟩] rfl rfl HNw.out (by simp [Value.oneCell']) (by decide) (by decide) (Nat.le_refl _) ?_; intro v w1 hown hgrow)
  intro _
  obtain ⟨g, k, rfl, hk, hkm, hgl, hgu⟩ := ownsRow_slice hown (by decide)
  go_wp2_with fail
  go_ret
  have hr := rowAt_owned hown
  have hA : Below w1.heap.size w1 (w1.alloc (.cells #[.int .u32 0, .int .i32 0, .int .u32 0, .nilIface, .slice (some ⟨g, 0, none⟩) 4 k] 215)) := (Below.refl _ _).alloc (Nat.le_refl _) _
  have hr2 := hr.below (hA.block g hgu)
  have hB1 : Below w.heap.size w w1 := Below.grown (Below.refl _ _) hgrow (Nat.le_refl _) (by intro _ h; cases h)
  refine ⟨w1.heap.size, g, k, rfl, hgrow.size, hgu, Tab.of_row (cs := #[.int .u32 0, .int .i32 0, .int .u32 0, .nilIface, .slice (some ⟨g, 0, none⟩) 4 k]) (heap_alloc_new _ _) (fun j hj => ?_), hr2.cell 0 (by decide), hr2.cell 1 (by decide), hr2.cell 2 (by decide), hr2.cell 3 (by decide), hB1.trans (hA.mono hB1.size)⟩
  rcases (show j = 0 ∨ j = 1 ∨ j = 2 ∨ j = 3 ∨ j = 4 by omega) with rfl | rfl | rfl | rfl | rfl <;> rfl

def quoteL (l : List UInt8) : List UInt8 := [34] ++ escL l ++ [34]
set_option maxRecDepth 100000 in
theorem quoted_any (s : ByteArray) (w : World) (hl : s.size ≤ 1000000000) :
    Calls Tryz.prog 73 #[.string s] w fun e w' => e = .returned (.string ⟨(quoteL s.data.toList).toArray⟩) ∧ Below w.heap.size w w' := by
  have HN := Lib.hid newReplacer_any
  have HR := Lib.hid replace_any
  obtain ⟨r, hr⟩ : ∃ r : ByteArray, r = ⟨(escL s.data.toList).toArray⟩ := ⟨_, rfl⟩
  have hrs : r.size ≤ 2000000000 := by
    have e : r.size = (escL s.data.toList).length := by rw [hr]; rfl
    have h1 := escL_len s.data.toList
    have h2 := List.countP_le_length (p := hitB) (l := s.data.toList)
    rw [len_toList] at h1 h2
    omega
  have HRe : Hid (r = _) := Lib.hid hr
  obtain ⟨W, hW⟩ : ∃ W, W = w.alloc (.cells #[.string ⟨#[34]⟩, .string ⟨#[92, 34]⟩, .string ⟨#[92]⟩, .string ⟨#[92, 92]⟩] 9) := ⟨_, rfl⟩
  have hB0 : Below w.heap.size w W := by rw [hW]; exact (Below.refl _ _).alloc (Nat.le_refl _) _
  have hcell : ∀ j u, [Value.string ⟨#[34]⟩, .string ⟨#[92, 34]⟩, .string ⟨#[92]⟩, .string ⟨#[92, 92]⟩][j]? = some u → W.cell? ⟨w.heap.size, j, none⟩ = some u := by
    intro j u hu
    rw [hW]
    have := cells_four_new w 9 (.string ⟨#[34]⟩) (.string ⟨#[92, 34]⟩) (.string ⟨#[92]⟩) (.string ⟨#[92, 92]⟩) j u hu
    rwa [Addr.add_lit, Nat.zero_add] at this
  have HW := Lib.hid hcell
  have HB0 := Lib.hid hB0
  have HWe : Hid (W = _) := Lib.hid hW
  clear hcell hB0 hW hr
  go_enter Tryz.func73, Tryz.ntmps73
  go_wp2_with (go_at_call 110; rw [← HWe.out]; refine (HN.out w.heap.size 4 W (HW.out 0 _ rfl) (HW.out 1 _ rfl) (HW.out 2 _ rfl) (HW.out 3 _ rfl)).mono ?_)
  rintro e w1 ⟨b, g, k, rfl, hb, hgb, hT, s0, s1, s2, s3, hb1⟩
  have HB1 : Hid (Below w.heap.size w w1) := HB0.out.trans (hb1.mono HB0.out.size)
  have HR1 := Lib.hid (HR.out b g k s w1 hT hl hgb s0 s1 s2 s3)
  rw [← HRe.out] at HR1
  have hbw : w.heap.size ≤ b := Nat.le_trans HB0.out.size hb
  clear HR HN HW hT s0 s1 s2 s3 hb1 hgb
  go_wp2_with fail
  with_reducible refine HR1.out.mono ?_
  rintro e w2 ⟨rfl, hb2⟩
  go_wp2_with fail
  go_ret
  refine ⟨ret_str (bytes_eq ?_), HB1.out.trans (hb2.mono hbw)⟩
  rw [cat_toList, cat_toList, HRe.out]
  rfl
end Go.Proofs.YtkmgflnmffdhjaaGreatDoor
