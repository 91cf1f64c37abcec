/- Contracts of package crc: More, Of. -/
import Derived.Test.YtpaklbopgkbnlaaCrcB
namespace Go.Proofs.Ytpaklbopgkbnlaa
open Go Go.RowKit

theorem xor_mod256 (x c : Nat) (hc : c < 256) : (x ^^^ c) % 256 = (x % 256) ^^^ c := by
  have := Nat.xor_mod_two_pow (a := x) (b := c) (n := 8)
  rw [show (2 : Nat) ^ 8 = 256 from rfl] at this
  rw [this, Nat.mod_eq_of_lt hc]
theorem xor_div256 (x c : Nat) (hc : c < 256) : (x ^^^ c) / 256 = x / 256 := by
  have := Nat.xor_div_two_pow (a := x) (b := c) (n := 8)
  rw [show (2 : Nat) ^ 8 = 256 from rfl] at this
  rw [this, Nat.div_eq_of_lt hc, Nat.xor_zero]
theorem turned (x : Nat) (hx : x < 4294967296) : bits .xor .u32 IntKind.u32.max (x : Int) = ((allN - x : Nat) : Int) := by
  have e : bits .xor .u32 IntKind.u32.max (x : Int) = ((4294967295 ^^^ x : Nat) : Int) := u32_xor_nat 4294967295 x (by omega) hx
  rw [e]
  congr 1
  have h := congrArg BitVec.toNat (BitVec.allOnes_xor (x := BitVec.ofNat 32 x))
  rw [BitVec.toNat_xor, BitVec.toNat_not, BitVec.toNat_allOnes, BitVec.toNat_ofNat, Nat.mod_eq_of_lt (by omega)] at h
  exact h
theorem one_step (x c : Nat) (hc : c < 256) : stepK 8 (x ^^^ c) = stepK 8 ((x % 256) ^^^ c) ^^^ (x / 256) := by
  rw [byte_step, xor_mod256 x c hc, xor_div256 x c hc]

set_option maxRecDepth 100000 in
theorem more_any (s : Nat) (v : Value) (l : List UInt8) (w : World) (hs : s < 4294967296) (hv : bytesArg w v l) :
    Calls Try.prog 9 #[.int .u32 (s : Int), v] w fun e w' => e = .returned (.int .u32 (moreS s l : Nat)) ∧ Below w.heap.size w w' := by
  obtain ⟨ao, cap, rfl, hc, hm, hs1⟩ := hv
  have HS : Hid (sliceAt w ao l) := hs1
  unfold maxLen at hm
  clear hs1
  have hzero := zero256
  go_enter Try.func9, Try.ntmps9
  go_wp2_with fail
  refine (eightMore_any _).mono ?_
  rintro e w1 ⟨rfl, hb1⟩
  have HB1 := Lib.hid hb1
  clear hb1
  have HZ := Lib.hid (tabAt_new w1 36)
  go_wp2_with (refine wpList_store_row rfl 36 (.tmp 5) (.tmp 9) rfl w1.heap.size tabV rfl rfl 36 z256 (heap_alloc_new _ _) (tab_size (k := 256) rfl) (by rw [tabAt.size tabE_nought, tabAt.size (k := 256) (C := tabV) rfl]) (tab_one (k := 256) rfl) ?_)
  clear hzero
  go_loopg [6, 8, 14] l.length (fun g x6 x8 v wr => ∃ (k x : Nat), k ≤ l.length ∧ g = l.length - k ∧ v = .int .i64 k ∧ x6 = .int .u32 x ∧ x < 4294967296 ∧ Hid (x = sumS (allN - s) (l.take k)) ∧ Hid (Below w.heap.size w wr) ∧ Hid (tabAt wr w1.heap.size 256))
  case atStart =>
    refine ⟨0, allN - s, by omega, by omega, rfl, by rw [turned s hs], by unfold allN; omega, rfl, below_setRow (HB1.out.alloc HB1.out.size _) HB1.out.size _, HZ.out.setRow rfl⟩
  case round =>
    obtain ⟨k, x, hk, rfl, rfl, rfl, hx, HX, HB, HT⟩ := hrel
    by_cases hlt : k < l.length
    · obtain ⟨b, off, rfl, hb, hcell0⟩ := HS.out.cell k hlt
      obtain ⟨c, hcc⟩ : ∃ c, c = l[k] := ⟨_, rfl⟩
      rw [← hcc] at hcell0
      have hcell : wr.cell? ⟨b, off + k, none⟩ = some (.int .u8 (c.toNat : Int)) := (HB.out.cell (p := ⟨b, off + k, none⟩) hb).trans hcell0
      have hblt : b < wr.heap.size := Nat.lt_of_lt_of_le hb HB.out.size
      have hct := c.toNat_lt
      obtain ⟨i, hi⟩ : ∃ i, i = (x % 256) ^^^ c.toNat := ⟨_, rfl⟩
      have hi256 : i < 256 := by rw [hi]; exact Nat.xor_lt_two_pow (n := 8) (by omega) (by omega)
      have e1 : bits .xor .u8 ((x : Int) % 256) (c.toNat : Int) = (i : Int) := by rw [hi]; exact u8_xor_nat (x % 256) c.toNat (by omega) (by omega)
      obtain ⟨T, hT⟩ : ∃ T, T = stepK 8 i := ⟨_, rfl⟩
      have hTl : T < 4294967296 := by rw [hT]; exact stepK_lt 8 (by omega)
      have htc : wr.cell? ⟨w1.heap.size, i, none⟩ = some (.int .u32 (T : Int)) := by
        have := HT.out.cell i hi256
        rw [if_pos hi256, ← hT] at this
        exact this
      obtain ⟨y, hy⟩ : ∃ y, y = T ^^^ (x / 256) := ⟨_, rfl⟩
      have hyl : y < 4294967296 := by rw [hy]; exact xor_lt32 hTl (by omega)
      have e2 : bits .xor .u32 (T : Int) ((x : Int) / 256) = (y : Int) := by rw [hy]; exact u32_xor_nat T (x / 256) hTl (by omega)
      have HY : Hid (y = sumS (allN - s) (l.take (k + 1))) := by
        unfold Hid
        rw [take_snocL l k hlt, sumS_snoc, ← HX.out, ← hcc, one_step x c.toNat (by omega), ← hi, ← hT, hy]
      have hw1 : w1.heap.size < wr.heap.size := HT.out.lt
      clear hcc hi hT hy hcell0
      go_wp2
      go_roundg (l.length - (k + 1))
      case measure => omega
      case rel => exact ⟨k + 1, y, by omega, rfl, by go_num, by go_num, hyl, HY.out, HB.out, HT.out⟩
    · have HE : Hid (bits .xor .u32 IntKind.u32.max (x : Int) = (moreS s l : Nat)) := by
        have := HX.out
        rw [List.take_of_length_le (by omega)] at this
        unfold Hid moreS
        rw [← this, turned x hx]
      go_wp2
      go_ret
      exact ⟨ret_int HE.out, HB.out⟩
theorem of_any (v : Value) (l : List UInt8) (w : World) (hv : bytesArg w v l) :
    Calls Try.prog 11 #[v] w fun e w' => e = .returned (.int .u32 (moreS 0 l : Nat)) ∧ Below w.heap.size w w' := by
  have HF := Lib.hid (more_any 0 v l w (by omega) hv)
  go_enter Try.func11, Try.ntmps11
  go_wp2_with fail
  refine (HF.out).mono ?_
  rintro e w1 ⟨rfl, hb⟩
  go_wp2
  go_ret
  exact ⟨rfl, hb⟩
end Go.Proofs.Ytpaklbopgkbnlaa
