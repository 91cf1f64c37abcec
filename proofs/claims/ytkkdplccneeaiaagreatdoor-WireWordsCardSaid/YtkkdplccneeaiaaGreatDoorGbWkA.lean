/- Layer 18: the laws: the document's example. -/
import Derived.Test.YtkkdplccneeaiaaGreatDoorGbWfH
import Derived.Test.YtkkdplccneeaiaaGreatDoorGbWfN
import Derived.Test.YtkkdplccneeaiaaGreatDoorGbWrO
namespace Go.Proofs.YtkkdplccneeaiaaGreatDoor
open Go Go.RowKit

theorem frAt_new {w w0 : World} {B base : Nat} (h : w0 = w.alloc (.cells #[.slice none 0 0, .int .i64 0, .int .i64 0, .int .i64 0] 34)) (hB : B = w.heap.size) : FrAt w0 base B (.slice none 0 0) fr0 := by
  subst h hB
  exact frAt_zero (B4.new _ _ _ _ _ _)
theorem bytesArg_lit {w w1 : World} {C : Array Value} {fr : Nat × Nat} {n : Nat} (l : List UInt8) (h : w1 = w.alloc (.cells C 5 fr)) (hl : C.toList = l.map byteV) (hn : l.length = n) (hm : n ≤ maxLen) : bytesArg w1 (.slice (some ⟨w.heap.size, 0, none⟩) n n) l := by
  subst h hn
  exact (sliceAt_new w 5 fr C l hl).arg (Nat.le_refl _) hm
theorem ps_one {ps : List (Ev × Value)} {e : Ev} (h : ps.map Prod.fst = [e]) : ∃ u, ps = [(e, u)] := by
  cases ps with
  | nil => cases h
  | cons p r =>
    cases r with
    | nil =>
      obtain ⟨a, b⟩ := p
      simp at h
      exact ⟨b, by rw [h]⟩
    | cons q t => simp at h
set_option maxRecDepth 100000 in
set_option maxHeartbeats 8000000 in
theorem awake18_any (w : World) (ht : tab w) : Calls Tryz.prog 7 #[] w fun e w' => e = .returned (.bool true) ∧ Below w.heap.size w w' := by
  obtain ⟨w0, hw0⟩ : ∃ x, x = w.alloc (.cells #[.slice none 0 0, .int .i64 0, .int .i64 0, .int .i64 0] 34) := ⟨_, rfl⟩
  have HB0 : Hid (Below w.heap.size w w0) := by unfold Hid; rw [hw0]; exact (Below.refl _ _).alloc (Nat.le_refl _) _
  have HF0 : Hid (FrAt w0 w.heap.size w.heap.size (.slice none 0 0) fr0) := frAt_new hw0 rfl
  have hz0 : w.heap.size < w0.heap.size := HF0.out.box.lt
  have HW0 := Lib.hid hw0
  have HT := Lib.hid ht
  have HFd := Lib.hid (fun v a s c W (h : FrAt W w.heap.size w.heap.size v s) (ha : bytesArg W a c) hb => wfeed_any w.heap.size w.heap.size v a s c W h ha hb (Nat.le_refl _))
  unfold FdW at HFd
  have kc := fun (w : World) (C : Array Value) (n c : Nat) => Lib.run_convert_bytes_const (P := Tryz.prog) w 29 5 C n c Tryz.underlying29 Tryz.underlying5
  have HStr := Lib.hid (fun W h => wstring_any ⟨#[97, 34]⟩ W (by decide) h)
  have eStr : (⟨(strW (⟨#[97, 34]⟩ : ByteArray).data.toList).toArray⟩ : ByteArray) = ⟨#[34, 97, 92, 34, 34]⟩ := congrArg (fun l : List UInt8 => (⟨l.toArray⟩ : ByteArray)) ex_q
  rw [eStr] at HStr
  have HNs := Lib.hid (fun W h => wnstring_any ⟨#[]⟩ false W (by decide) h)
  clear ht hw0 eStr
  go_enter Tryz.func7, Tryz.ntmps7
  go_upto_region 2 with fail
  rw [← HW0.out]
  obtain ⟨w1, hw1⟩ : ∃ x, x = w0.alloc (.cells #[.int .u8 97, .int .u8 32, .int .u8 123, .int .u8 49, .int .u8 125, .int .u8 13, .int .u8 10] 5 (7, 8)) := ⟨_, rfl⟩
  have hb1 : Below w0.heap.size w0 w1 := by rw [hw1]; exact (Below.refl _ _).alloc (Nat.le_refl _) _
  have HW1 := Lib.hid hw1
  have HF1 := Lib.hid (HF0.out.below hb1)
  have HB1 := Lib.hid (HB0.out.trans (hb1.mono (by omega)))
  have hA1 : bytesArg w1 (.slice (some ⟨w0.heap.size, 0, none⟩) 7 7) exA := bytesArg_lit exA hw1 rfl rfl (by decide)
  have HC1 := Lib.hid (HFd.out _ _ fr0 exA w1 HF1.out hA1 (by decide))
  rw [ex_a] at HC1
  clear hb1 hw1 hA1
  go_upto_region 3 with (first | (go_at_call 15; rw [← HW1.out]; with_reducible refine HC1.out.mono ?_; rintro e w2 ⟨u2, ps2, v2, H2, rfl, hf2, hp2, ho2, hH2, hv2, he2, hb2, hk2⟩))
  try simp only at hf2 hp2
  obtain ⟨x2, rfl⟩ := ps_one hp2
  obtain ⟨g2, cap2, rfl, hcp2, hg2, hgl2, hc2⟩ := row2_read ho2 (Nat.zero_lt_one)
  have a0 : w2.cell? ⟨g2, 0, none⟩ = some (.int .i64 1) := hc2 0 (by show 0 < 2; decide)
  have HF2 := Lib.hid hf2
  have HV2 := Lib.hid hv2
  have HB2 := Lib.hid (HB1.out.trans hb2)
  have HA0 := Lib.hid a0
  have hsz2 : w.heap.size < w2.heap.size := hf2.box.lt
  have hw1s : w.heap.size < w1.heap.size := HF1.out.box.lt
  have hn1 : ([(Ev.go, x2)] : List (Ev × Value)).length = 1 := rfl
  rw [hn1]
  rw [hn1] at hcp2
  clear hf2 hv2 hp2 ho2 he2 hb2 hk2 hc2 a0 hn1 HC1
  obtain ⟨w3, hw3⟩ : ∃ x, x = w2.alloc (.cells #[.int .u8 98, .int .u8 32, .int .u8 99, .int .u8 13, .int .u8 10] 5 (5, 6)) := ⟨_, rfl⟩
  have hb3 : Below w2.heap.size w2 w3 := by rw [hw3]; exact (Below.refl _ _).alloc (Nat.le_refl _) _
  have HW3 := Lib.hid hw3
  have HF3 := Lib.hid (HF2.out.below hb3)
  have HB3 := Lib.hid (HB2.out.trans (hb3.mono (by omega)))
  have HA3 : Hid (w3.cell? ⟨g2, 0, none⟩ = some (.int .i64 1)) := (hb3.cell (p := ⟨g2, 0, none⟩) hgl2).trans HA0.out
  have hg3 : g2 < w3.heap.size := Nat.lt_of_lt_of_le hgl2 hb3.size
  have hA3 : bytesArg w3 (.slice (some ⟨w2.heap.size, 0, none⟩) 5 5) exB := bytesArg_lit exB hw3 rfl rfl (by decide)
  have HC3 := Lib.hid (HFd.out _ _ ⟨exA, 8, 8, 7⟩ exB w3 HF3.out hA3 (by decide))
  rw [ex_b] at HC3
  clear hb3 hw3 hA3
  go_upto_region 4 with (first | (go_at_call 15; rw [← HW3.out]; with_reducible refine HC3.out.mono ?_; rintro e w4 ⟨u4, ps4, v4, H4, rfl, hf4, hp4, ho4, hH4, hv4, he4, hb4, hk4⟩))
  try simp only at hf4 hp4
  obtain ⟨x4, rfl⟩ := ps_one hp4
  obtain ⟨g4, cap4, rfl, hcp4, hg4, hgl4, hc4⟩ := row2_read ho4 (Nat.zero_lt_one)
  have b0 : w4.cell? ⟨g4, 0, none⟩ = some (.int .i64 2) := hc4 0 (by show 0 < 2; decide)
  have b1 : w4.cell? ⟨g4, 1, none⟩ = some x4 := hc4 1 (by show 1 < 2; decide)
  obtain ⟨gx, ox, rfl, hgx, hgxl, hmx, hsx⟩ := he4 _ (List.mem_singleton.2 rfl)
  have HX4 : Hid (bytesArg w4 (.slice (some ⟨gx, ox, none⟩) 10 10) [97, 32, 123, 49, 125, 13, 10, 98, 32, 99]) := hsx.arg (Nat.le_refl _) hmx
  have HA4 : Hid (w4.cell? ⟨g2, 0, none⟩ = some (.int .i64 1)) := (World.cell?_of_block (a := ⟨g2, 0, none⟩) (hk4 g2 hg3 (by omega) (fun e => by have := HV2.out g2 e; omega))).trans HA3.out
  have HB4 := Lib.hid (HB3.out.trans hb4)
  have HT4 := Lib.hid (HT.out.below HB4.out)
  have HB04 := Lib.hid b0
  have HB14 := Lib.hid b1
  have hgl24 : g2 < w4.heap.size := Nat.lt_of_lt_of_le hg3 hb4.size
  have hsz4 : w.heap.size < w4.heap.size := hf4.box.lt
  have hn4 : ([(Ev.cmd [97, 32, 123, 49, 125, 13, 10, 98, 32, 99], Value.slice (some ⟨gx, ox, none⟩) ([97, 32, 123, 49, 125, 13, 10, 98, 32, 99] : List UInt8).length ([97, 32, 123, 49, 125, 13, 10, 98, 32, 99] : List UInt8).length)] : List (Ev × Value)).length = 1 := rfl
  rw [hn4]
  rw [hn4] at hcp4
  clear hf4 hv4 hp4 ho4 he4 hb4 hk4 hc4 b0 b1 hn4 HC3 hsx hmx
  obtain ⟨w5, hw5⟩ : ∃ x, x = w4.alloc (.cells #[.int .u8 97, .int .u8 32, .int .u8 123, .int .u8 49, .int .u8 125, .int .u8 13, .int .u8 10, .int .u8 98, .int .u8 32, .int .u8 40, .int .u8 66, .int .u8 79, .int .u8 68, .int .u8 89, .int .u8 91, .int .u8 72, .int .u8 69, .int .u8 65, .int .u8 68, .int .u8 69, .int .u8 82, .int .u8 32, .int .u8 40, .int .u8 120, .int .u8 41, .int .u8 93, .int .u8 60, .int .u8 48, .int .u8 62, .int .u8 32, .int .u8 34, .int .u8 113, .int .u8 34, .int .u8 41] 5 (34, 35)) := ⟨_, rfl⟩
  have hb5 : Below w4.heap.size w4 w5 := by rw [hw5]; exact (Below.refl _ _).alloc (Nat.le_refl _) _
  have HW5 := Lib.hid hw5
  have HB45 := Lib.hid hb5
  have hA5 : bytesArg w5 (.slice (some ⟨w4.heap.size, 0, none⟩) 34 34) exT := bytesArg_lit exT hw5 rfl rfl (by decide)
  have HC5 := Lib.hid (wtokens_any _ exT w5 hA5 (by decide))
  rw [ex_t] at HC5
  unfold TksW at HC5
  try simp only at HC5
  clear hb5 hw5 hA5
  go_upto_region 5 with (first | (go_at_call 13; rw [← HW5.out]; with_reducible refine HC5.out.mono ?_; rintro e w6 ⟨hb6, u6, rfl, ho6⟩))
  obtain ⟨g6, cap6, rfl, hcp6, hg6, hgl6, hc6⟩ := row2_read ho6 (by decide)
  have t5 : w6.cell? ⟨g6, 11, none⟩ = some (.string ⟨#[66, 79, 68, 89, 91, 72, 69, 65, 68, 69, 82, 32, 40, 120, 41, 93, 60, 48, 62]⟩) := hc6 11 (by decide)
  have t7 : w6.cell? ⟨g6, 15, none⟩ = some (.string ⟨#[113]⟩) := hc6 15 (by decide)
  have hb46 : Below w4.heap.size w4 w6 := HB45.out.trans (hb6.mono HB45.out.size)
  have a0 : w6.cell? ⟨g2, 0, none⟩ = some (.int .i64 1) := (hb46.cell (p := ⟨g2, 0, none⟩) hgl24).trans HA4.out
  have b0 : w6.cell? ⟨g4, 0, none⟩ = some (.int .i64 2) := (hb46.cell (p := ⟨g4, 0, none⟩) hgl4).trans HB04.out
  have b1 := (hb46.cell (p := ⟨g4, 1, none⟩) hgl4).trans HB14.out
  have hcv := bytesArg_string (HX4.out.below hb46)
  have HB6 := Lib.hid (HB4.out.trans (hb46.mono (by omega)))
  have HT6 := Lib.hid (HT4.out.below hb46)
  clear hc6 ho6 hb6 hb46 HC5 kc
  go_wp2_with (first | (go_at_call 12; with_reducible refine (HNs.out _ HT6.out).mono ?_; rintro e w7 ⟨rfl, hb7⟩; have HB7 := Lib.hid (HB6.out.trans (hb7.mono HB6.out.size)); have HT7 := Lib.hid (HT6.out.below hb7)) | (go_at_call 8; with_reducible refine (HStr.out _ HT7.out).mono ?_; rintro e w8 ⟨rfl, hb8⟩))
  go_ret
  exact ⟨rfl, HB7.out.trans (hb8.mono HB7.out.size)⟩
end Go.Proofs.YtkkdplccneeaiaaGreatDoor
