/- The example that every statement of layer 15 asks first. -/
import Derived.Test.YthcleaflhljdlaaGreatDoorSeK
import Derived.Test.YthcleaflhljdlaaGreatDoorSeR
import Derived.Deep.DeepCutAuto
import Derived.Deep.CutBlock
namespace Go.Proofs.YthcleaflhljdlaaGreatDoor
open Go Go.RowKit

def exT : ByteArray := ⟨#[91, 49, 46, 50, 46, 104, 101, 97, 100, 101, 114, 46, 102, 105, 101, 108, 100, 115, 32, 40, 65, 32, 98, 41, 93, 60, 48, 46, 53, 62]⟩
def exS : Spc := ⟨[1, 2], 2, [[65], [98]], true, 0, 5⟩
theorem exT_spec : specC exT.data.toList = some exS := by kernel_rfl
theorem exM_spec : specC (⟨#[91, 77, 73, 77, 69, 93]⟩ : ByteArray).data.toList = none := by kernel_rfl
theorem itoa_one {n : Nat} (h : n < 10) : Lib.itoa (n : Int) = [UInt8.ofNat (48 + n)] := by rw [Lib.itoa_nonneg, Lib.decDigits_one h]
theorem exS_put : putS exS true = [91, 49, 46, 50, 46, 72, 69, 65, 68, 69, 82, 46, 70, 73, 69, 76, 68, 83, 32, 40, 65, 32, 98, 41, 93, 60, 48, 62] := by
  have h0 : Lib.itoa 0 = [48] := itoa_one (n := 0) (by decide)
  have h1 : Lib.itoa 1 = [49] := itoa_one (n := 1) (by decide)
  have h2 : Lib.itoa 2 = [50] := itoa_one (n := 2) (by decide)
  have hc : checkS exS = true := by kernel_rfl
  have ha : askT exS = [49, 46, 50, 46, 72, 69, 65, 68, 69, 82, 46, 70, 73, 69, 76, 68, 83] := by
    show Lib.join ([Lib.itoa 1, Lib.itoa 2] ++ _) [46] = _
    rw [h1, h2]
    kernel_rfl
  have hn : nmsT exS.names = [32, 40, 65, 32, 98, 41] := by kernel_rfl
  have hk : cutT exS true = [60, 48, 62] := by
    show [60] ++ (Lib.itoa 0 ++ [62]) = _
    rw [h0]
    rfl
  unfold putS
  rw [if_pos hc, ha, hn, hk]
  rfl
set_option maxRecDepth 100000 in
set_option maxHeartbeats 4000000 in
theorem awake_any (w : World) (he : env w) :
    Calls Tryz.prog 7 #[] w fun e w' => e = .returned (.bool true) ∧ Below w.heap.size w w' := by
  have hP := parse_any exT w (by decide) he.2
  rw [exT_spec] at hP
  unfold ParseIs exS at hP
  simp only at hP
  have HP := Lib.hid hP
  have hM := fun W (hw : wrds W) => parse_any ⟨#[91, 77, 73, 77, 69, 93]⟩ W (by decide) hw
  rw [exM_spec] at hM
  unfold ParseIs zeroSp at hM
  simp only at hM
  have HM := Lib.hid hM
  have HE := Lib.hid he
  unfold exT at HP
  clear hP hM he
  go_enter Tryz.func7, Tryz.ntmps7
  go_wp2_with fail
  with_reducible refine HP.out.mono ?_
  rintro e w1 ⟨v, rfl, hv, hn, hb1⟩
  obtain ⟨a1, c1, a2, c2, rfl, ho1, ho2⟩ := hv
  simp only [List.length_cons, List.length_nil, Nat.zero_add, Nat.reduceAdd] at ho1 ho2 ⊢
  have HO1 := Lib.hid ho1
  have HO2 := Lib.hid ho2
  have HB1 := Lib.hid hb1
  clear ho1 ho2 hb1 hn
  obtain ⟨W2, hW2⟩ : ∃ W2, W2 = w1.alloc (.cells #[.slice a1 2 c1, .int .i64 2, .slice a2 2 c2, .bool true, .int .i64 0, .int .i64 5] 26) := ⟨_, rfl⟩
  have hb12 : Below w1.heap.size w1 W2 := by rw [hW2]; exact (Below.refl _ _).alloc (Nat.le_refl _) _
  have hbx : Box W2 w1.heap.size (.slice a1 2 c1) 2 (.slice a2 2 c2) true 0 5 := by rw [hW2]; exact heap_alloc_new w1 _
  have HW2 := Lib.hid hW2.symm
  have HBx := Lib.hid hbx
  have HB2 := Lib.hid (HB1.out.trans (hb12.mono HB1.out.size))
  have HO3 := Lib.hid (ownsRow_below HO1.out hb12)
  have HO4 := Lib.hid (ownsRow_below HO2.out hb12)
  obtain ⟨R, hR⟩ : ∃ R, R = w1.heap.size := ⟨_, rfl⟩
  rw [← hR] at HBx
  have HR := Lib.hid hR
  have HMb := Lib.hid (HM.out W2 (HE.out.below HB2.out).2)
  clear hW2 hb12 hbx hR HO1 HO2
  go_wp2_with fail
  rw [HW2.out, ← HR.out]
  with_reducible refine HMb.out.mono ?_
  rintro e w3 ⟨rfl, hb3⟩
  have HB3 := Lib.hid (HB2.out.trans (hb3.mono HB2.out.size))
  have HBx3 := Lib.hid (HBx.out.below hb3)
  have HO5 := Lib.hid (ownsRow_below HO3.out hb3)
  have HO6 := Lib.hid (ownsRow_below HO4.out hb3)
  obtain ⟨W4, hW4⟩ : ∃ W4, W4 = w3.alloc (.cells #[.slice none 0 0, .int .i64 0, .slice none 0 0, .bool false, .int .i64 0, .int .i64 0] 26) := ⟨_, rfl⟩
  have hb4 : Below w3.heap.size w3 W4 := by rw [hW4]; exact (Below.refl _ _).alloc (Nat.le_refl _) _
  have HW4 := Lib.hid hW4.symm
  have HB4 := Lib.hid (HB3.out.trans (hb4.mono HB3.out.size))
  have HBx4 := Lib.hid (HBx3.out.below hb4)
  have ho7 := ownsRow_below HO5.out hb4
  have ho8 := ownsRow_below HO6.out hb4
  obtain ⟨b, off, rfl, hbl, hcb⟩ := (rowOf_owned ho7).at 1 (by decide)
  obtain ⟨b2, off2, rfl, hbl2, hcb2⟩ := (rowOf_owned ho8).at 1 (by decide)
  have hcb' : W4.cell? ⟨b, off + 1, none⟩ = some (.int .i64 2) := hcb
  have hcb2' : W4.cell? ⟨b2, off2 + 1, none⟩ = some (.string ⟨#[98]⟩) := hcb2
  obtain ⟨k0, k1, k2, k3, k4, k5⟩ := HBx4.out.c
  have hPu := put_any exS true (some ⟨b, off, none⟩) (some ⟨b2, off2, none⟩) c1 c2 W4 ⟨rowOf_owned ho7, rowOf_owned ho8, by decide⟩ (HE.out.below HB4.out)
  rw [exS_put] at hPu
  unfold strV spV exS at hPu
  simp only [List.length_cons, List.length_nil, Nat.zero_add, Nat.reduceAdd] at hPu
  have HPu := Lib.hid hPu
  clear hb3 hW4 hb4 ho7 ho8 hcb hcb2 hPu HB3 HBx3 HO5 HO6
  go_upto_region 3 with fail
  rw [HW4.out]
  go_wp2_with fail
  with_reducible refine HPu.out.mono ?_
  rintro e w5 ⟨rfl, hb5⟩
  have HB5 := Lib.hid (HB4.out.trans (hb5.mono HB4.out.size))
  clear hb5
  go_wp2_with fail
  go_ret
  exact ⟨rfl, HB5.out⟩
end Go.Proofs.YthcleaflhljdlaaGreatDoor
