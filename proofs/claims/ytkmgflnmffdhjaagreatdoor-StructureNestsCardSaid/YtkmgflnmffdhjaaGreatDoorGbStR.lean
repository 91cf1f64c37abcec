/- Layer 20: the example that every statement asks first. -/
import Derived.Test.YtkmgflnmffdhjaaGreatDoorGbStP
import Derived.Test.YtkmgflnmffdhjaaGreatDoorGbStK
import Derived.Lib.SlBytesConst
import Derived.Great.BuildSlice
namespace Go.Proofs.YtkmgflnmffdhjaaGreatDoor
open Go Go.RowKit

def sxB : List UInt8 := [13, 10, 120]
def sxP : List UInt8 := [40, 34, 116, 101, 120, 116, 34, 32, 34, 112, 108, 97, 105, 110, 34, 32, 40, 34, 99, 104, 97, 114, 115, 101, 116, 34, 32, 34, 117, 115, 45, 97, 115, 99, 105, 105, 34, 41, 32, 78, 73, 76, 32, 78, 73, 76, 32, 34, 55, 98, 105, 116, 34, 32, 49, 32, 49, 41]
theorem sx_tree : treeS sxB = leafT 0 2 3 := by kernel_rfl
theorem sx_kind : kindS sxB (fsOf sxB 0 2) 0 = (txtN, plnN, csW) := by kernel_rfl
theorem sx_one : Lib.itoa ((3 - 2 : Nat) : Int) = [49] := by
  show Lib.itoa (1 : Int) = [49]
  unfold Lib.itoa
  rw [if_neg (by decide)]
  show Lib.decDigits 1 = [49]
  rw [Lib.decDigits]
  rfl
theorem sx_lns : Lib.itoa ((linesZ sxB ((2 : Nat) : Int) ((3 : Nat) : Int)).length : Int) = [49] := by
  have h : (linesZ sxB ((2 : Nat) : Int) ((3 : Nat) : Int)).length = 1 := by kernel_rfl
  rw [h]
  exact sx_one
theorem sx_fs : fsOf sxB 0 2 = [] := by kernel_rfl
theorem sx_put : stT sxB false (leafT 0 2 3) = sxP := by
  unfold leafT stT
  rw [if_neg (by decide)]
  simp only
  rw [sx_kind, sx_one, sx_lns, sx_fs]
  kernel_rfl
set_option maxRecDepth 100000 in
set_option maxHeartbeats 1000000 in
theorem awake20_any (w : World) (he : env w) : Calls Tryz.prog 6 #[] w fun e w' => e = .returned (.bool true) ∧ Below w.heap.size w w' := by
  have HE := Lib.hid he
  have HPa : Hid (∀ W v, bytesArg W v sxB → env W → Calls Tryz.prog 7 #[v] W fun e w' => ∃ ka kn kc ca cn cc, e = .returned (.tuple #[.agg #[.int .i64 0, .int .i64 0, .int .i64 2, .int .i64 2, .int .i64 3, .slice ka kn kc, .slice ca cn cc, .int .i64 0, .int .i64 0], .int .i64 0]) ∧
      treeAt (fun k => W.heap.size ≤ k) w' (leafT 0 2 3) (.agg #[.int .i64 0, .int .i64 0, .int .i64 2, .int .i64 2, .int .i64 3, .slice ka kn kc, .slice ca cn cc, .int .i64 0, .int .i64 0]) ∧ Below W.heap.size W w') := fun W v h hE => by
    have := treeParse_any v sxB W h (by decide) hE
    unfold treePost at this
    rw [sx_tree] at this
    exact this
  obtain ⟨C, hC⟩ : ∃ C : ByteArray, C = ⟨csW.toArray⟩ := ⟨_, rfl⟩
  have HKi : Hid (∀ W ao ka kn kc ca cn cc, bytesArg W (.slice ao 3 3) sxB → env W → Calls Tryz.prog 11 #[.slice ao 3 3, .agg #[.int .i64 0, .int .i64 0, .int .i64 2, .int .i64 2, .int .i64 3, .slice ka kn kc, .slice ca cn cc, .int .i64 0, .int .i64 0]] W fun e w' => e = .returned (.tuple #[.string ⟨#[116, 101, 120, 116]⟩, .string ⟨#[112, 108, 97, 105, 110]⟩, .string C]) ∧ Below W.heap.size W w') := fun W ao ka kn kc ca cn cc h hE => by
    have := kind_any ao 3 sxB 0 0 2 2 3 0 0 ka ca kn kc cn cc W h (by decide) (by decide) (by decide) hE
    rw [sx_kind] at this
    rw [hC]
    exact this
  obtain ⟨R, hR⟩ : ∃ R : ByteArray, R = ⟨sxP.toArray⟩ := ⟨_, rfl⟩
  have hRt : (R.toList == [40, 34, 116, 101, 120, 116, 34, 32, 34, 112, 108, 97, 105, 110, 34, 32, 40, 34, 99, 104, 97, 114, 115, 101, 116, 34, 32, 34, 117, 115, 45, 97, 115, 99, 105, 105, 34, 41, 32, 78, 73, 76, 32, 78, 73, 76, 32, 34, 55, 98, 105, 116, 34, 32, 49, 32, 49, 41]) = true := by rw [ByteArray.toList_eq, hR]; rfl
  have HPu : Hid (∀ W ao ka kn kc ca cn cc S, bytesArg W (.slice ao 3 3) sxB → env W → treeAt S W (leafT 0 2 3) (.agg #[.int .i64 0, .int .i64 0, .int .i64 2, .int .i64 2, .int .i64 3, .slice ka kn kc, .slice ca cn cc, .int .i64 0, .int .i64 0]) → Calls Tryz.prog 9 #[.slice ao 3 3, .agg #[.int .i64 0, .int .i64 0, .int .i64 2, .int .i64 2, .int .i64 3, .slice ka kn kc, .slice ca cn cc, .int .i64 0, .int .i64 0], .bool false] W fun e w' => e = .returned (.string R) ∧ Below W.heap.size W w') := fun W ao ka kn kc ca cn cc S h hE ht => by
    have := sput_any ao 3 false sxB W h (by decide) hE (leafT 0 2 3) S _ ht (by rw [← sx_tree]; exact tree_okT sxB) (by decide)
    rw [sx_put] at this
    rw [hR]
    exact this
  have kc := fun (w : World) (C : Array Value) (n c : Nat) => Lib.run_convert_bytes_const (P := Tryz.prog) w 22 5 C n c Tryz.underlying22 Tryz.underlying5
  clear he hC hR
  go_enter Tryz.func6, Tryz.ntmps6
  go_wp2_with fail
  have hrow : bytesArg (w.alloc (.cells #[.int .u8 13, .int .u8 10, .int .u8 120] 5 (3, 4))) (.slice (some ⟨w.heap.size, 0, none⟩) 3 3) sxB := (sliceAt_new w 5 (3, 4) #[.int .u8 13, .int .u8 10, .int .u8 120] sxB (by kernel_rfl)).arg (cap := 3) (by decide) (by unfold maxLen; decide)
  have hX := (Below.refl w.heap.size w).alloc (Nat.le_refl _) (.cells #[.int .u8 13, .int .u8 10, .int .u8 120] 5 (3, 4))
  with_reducible refine (HPa.out _ _ hrow (HE.out.below hX)).mono ?_
  rintro e w5 ⟨ka, kn, kc', ca, cn, cc, rfl, ht, hb5⟩
  have HB5 := Lib.hid (hX.trans (hb5.mono hX.size))
  have HR5 := Lib.hid (hrow.below hb5)
  clear hrow hX hb5 HPa kc
  obtain ⟨Y, hY⟩ : ∃ Y, Y = w5.alloc (partO 0 0 2 2 3 (.slice ka kn kc') (.slice ca cn cc) 0 0) := ⟨_, rfl⟩
  have HBY : Hid (Below w5.heap.size w5 Y) := by rw [hY]; exact (Below.refl _ _).alloc (Nat.le_refl _) _
  have HPY : Hid (Y.heap[w5.heap.size]? = some (partO 0 0 2 2 3 (.slice ka kn kc') (.slice ca cn cc) 0 0)) := by unfold Hid; rw [hY]; exact heap_alloc_new _ _
  have HB6 := Lib.hid (HB5.out.trans (HBY.out.mono HB5.out.size))
  have HR6 := Lib.hid (HR5.out.below HBY.out)
  have HT6 := Lib.hid (treeAt.keep (fun q hS hq => ⟨HBY.out.block q hq, hS⟩) _ _ ht)
  have hJ : w5.heap.size < Y.heap.size := (Array.getElem?_eq_some_iff.1 HPY.out).1
  unfold partO at hY
  have HY := Lib.hid hY
  clear hY ht HR5 HBY
  obtain ⟨p0, p1, p2, p3, p4, p5, p6, p7, p8⟩ := part_cells HPY.out
  go_upto_region 3 with fail
  rw [← HY.out]
  go_wp2_with fail
  with_reducible refine (HKi.out _ _ _ _ _ _ _ _ HR6.out (HE.out.below HB6.out)).mono ?_
  rintro e w7 ⟨rfl, hb7⟩
  have HB7 := Lib.hid (HB6.out.trans (hb7.mono HB6.out.size))
  have HR7 := Lib.hid (HR6.out.below hb7)
  have HT7 := Lib.hid (treeAt.keep (fun q hS hq => ⟨hb7.block q hq, hS⟩) _ _ HT6.out)
  have HP7 := Lib.hid ((hb7.block _ hJ).trans HPY.out)
  clear hb7 p0 p1 p2 p3 p4 p5 p6 p7 p8 HKi HR6 HT6 HPY HY
  obtain ⟨p0, p1, p2, p3, p4, p5, p6, p7, p8⟩ := part_cells HP7.out
  go_wp2_with fail
  with_reducible refine (HPu.out _ _ _ _ _ _ _ _ _ HR7.out (HE.out.below HB7.out) HT7.out).mono ?_
  rintro e w8 ⟨rfl, hb8⟩
  go_wp2_with fail
  go_ret
  exact ⟨rfl, HB7.out.trans (hb8.mono HB7.out.size)⟩
end Go.Proofs.YtkmgflnmffdhjaaGreatDoor
