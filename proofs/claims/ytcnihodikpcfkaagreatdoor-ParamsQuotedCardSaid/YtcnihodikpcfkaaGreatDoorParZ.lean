/- ParamsQuoted. -/
import Derived.Test.YtcnihodikpcfkaaGreatDoorParY
namespace Go.Proofs.YtcnihodikpcfkaaGreatDoor
open Go Go.RowKit

set_option maxRecDepth 100000 in
set_option maxHeartbeats 4000000 in
theorem paramsQuoted_any (a b : ByteArray) (w : World) (ha : a.size ≤ 9223372036854775807) (hb : b.size ≤ 9223372036854775807) (he : env w) :
    Calls Tryz.prog 4 #[.string a, .string b] w fun e w' => e = .returned (.bool true) ∧ Below w.heap.size w w' := by
  have HE := Lib.hid he
  have HAw := Lib.hid (awake_any w he)
  clear he
  by_cases hla : 100 < a.size
  · have q1 : decide ((100 : Int) < (a.size : Int)) = true := decide_eq_true (by omega)
    go_enter Tryz.func4, Tryz.ntmps4
    go_wp2_with fail
    with_reducible refine HAw.out.mono ?_
    rintro e w1 ⟨rfl, hb1⟩
    have HB1 := Lib.hid hb1
    clear hb1 HE HAw
    go_wp2_with fail
    go_ret
    exact ⟨rfl, HB1.out⟩
  by_cases hlb : 100 < b.size
  · have q1 : decide ((100 : Int) < (a.size : Int)) = false := decide_eq_false (by omega)
    have q2 : decide ((100 : Int) < (b.size : Int)) = true := decide_eq_true (by omega)
    go_enter Tryz.func4, Tryz.ntmps4
    go_wp2_with fail
    with_reducible refine HAw.out.mono ?_
    rintro e w1 ⟨rfl, hb1⟩
    have HB1 := Lib.hid hb1
    clear hb1 HE HAw
    go_wp2_with fail
    go_ret
    exact ⟨rfl, HB1.out⟩
  have q1 : decide ((100 : Int) < (a.size : Int)) = false := decide_eq_false (by omega)
  have q2 : decide ((100 : Int) < (b.size : Int)) = false := decide_eq_false (by omega)
  obtain ⟨A, hA⟩ : ∃ A : ByteArray, A = ⟨(quoteL a.data.toList).toArray⟩ := ⟨_, rfl⟩
  obtain ⟨B, hB⟩ : ∃ B : ByteArray, B = ⟨(quoteL b.data.toList).toArray⟩ := ⟨_, rfl⟩
  have HA := Lib.hid hA
  have HB := Lib.hid hB
  have hAs : A.size ≤ 202 := by
    have := quoteL_len a.data.toList
    rw [hA]
    rw [len_toList] at this
    show (quoteL _).toArray.size ≤ _
    simp
    omega
  have hBs : B.size ≤ 202 := by
    have := quoteL_len b.data.toList
    rw [hB]
    rw [len_toList] at this
    show (quoteL _).toArray.size ≤ _
    simp
    omega
  have HQA := Lib.hid (fun W => quoted_any a W (by omega))
  have HQB := Lib.hid (fun W => quoted_any b W (by omega))
  rw [← hA] at HQA
  rw [← hB] at HQB
  clear hA hB
  go_enter Tryz.func4, Tryz.ntmps4
  go_wp2_with fail
  with_reducible refine HAw.out.mono ?_
  rintro e w1 ⟨rfl, hb1⟩
  have HB1 := Lib.hid hb1
  have HE1 := Lib.hid (HE.out.below hb1)
  clear hb1 HE HAw
  go_wp2_with fail
  with_reducible refine (HQA.out _).mono ?_
  rintro e w2 ⟨rfl, hb2⟩
  have HB2 := Lib.hid (HB1.out.trans (hb2.mono HB1.out.size))
  have HE2 := Lib.hid (HE1.out.below hb2)
  clear hb2 HB1 HE1
  go_wp2_with fail
  with_reducible refine (HQA.out _).mono ?_
  rintro e w3 ⟨rfl, hb3⟩
  have HB3 := Lib.hid (HB2.out.trans (hb3.mono HB2.out.size))
  have HE3 := Lib.hid (HE2.out.below hb3)
  clear hb3 HB2 HE2
  go_wp2_with fail
  with_reducible refine (HQB.out _).mono ?_
  rintro e w4 ⟨rfl, hb4⟩
  have HB4 := Lib.hid (HB3.out.trans (hb4.mono HB3.out.size))
  have HE4 := Lib.hid (HE3.out.below hb4)
  clear hb4 HB3 HE3
  go_wp2_with fail
  obtain ⟨T, hT⟩ : ∃ T : ByteArray, T = (⟨#[120, 47, 121, 59, 111, 110, 101, 61]⟩ : ByteArray) ++ A ++ (⟨#[32, 59, 32, 116, 119, 111, 42, 48, 61]⟩ : ByteArray) ++ A ++ (⟨#[59, 116, 119, 111, 42, 49, 32, 61, 32]⟩ : ByteArray) ++ B := ⟨_, rfl⟩
  rw [← hT]
  have hTs : T.size ≤ 100000 := by
    rw [hT]
    simp only [ByteArray.size_append]
    have e1 : (⟨#[120, 47, 121, 59, 111, 110, 101, 61]⟩ : ByteArray).size = 8 := rfl
    have e2 : (⟨#[32, 59, 32, 116, 119, 111, 42, 48, 61]⟩ : ByteArray).size = 9 := rfl
    have e3 : (⟨#[59, 116, 119, 111, 42, 49, 32, 61, 32]⟩ : ByteArray).size = 9 := rfl
    omega
  have hV : parseL T.data.toList true = some ⟨[120], [121], qOut a.data.toList b.data.toList⟩ := by
    rw [← q_parse, ← q_text, hT]
    simp only [cat_toList]
    rw [HA.out, HB.out]
  have HP := Lib.hid (parse_some T true _ hV w4 hTs HE4.out)
  clear hV hT hTs
  with_reducible refine HP.out.mono ?_
  rintro e w5 ⟨a5, n5, c5, rfl, hpr, hb5⟩
  have HB5 := Lib.hid (HB4.out.trans (hb5.mono HB4.out.size))
  have HPr := Lib.hid hpr
  obtain ⟨_, cap, e0, hc1, hc2, _⟩ := hpr
  cases e0
  unfold maxLen at hc2
  have hc1' : 2 ≤ c5 := hc1
  have hX : (⟨a.data.toList.toArray⟩ : ByteArray) = a := rfl
  obtain ⟨Y, hY⟩ : ∃ Y : ByteArray, Y = ⟨(a.data.toList ++ b.data.toList).toArray⟩ := ⟨_, rfl⟩
  have hYs : (Y.toList == (a ++ b).toList) = true := str_eq (by rw [hY, cat_toList])
  have hsm : small1 (qOut a.data.toList b.data.toList) := by
    intro p hp
    simp only [qOut, List.mem_cons, List.not_mem_nil, or_false] at hp
    rcases hp with rfl | rfl <;> simp
  have HG1 := Lib.hid (fun W h1 => get_any ⟨#[120]⟩ ⟨#[121]⟩ (.slice a5 2 c5) (qOut a.data.toList b.data.toList) ⟨#[111, 110, 101]⟩ W h1 hsm)
  have HG2 := Lib.hid (fun W h1 => get_any ⟨#[120]⟩ ⟨#[121]⟩ (.slice a5 2 c5) (qOut a.data.toList b.data.toList) ⟨#[84, 87, 79]⟩ W h1 hsm)
  have g1 : getP (qOut a.data.toList b.data.toList) (⟨#[111, 110, 101]⟩ : ByteArray).data.toList = some a.data.toList := q_get1 _ _
  have g2 : getP (qOut a.data.toList b.data.toList) (⟨#[84, 87, 79]⟩ : ByteArray).data.toList = some (a.data.toList ++ b.data.toList) := q_get2 _ _
  rw [g1] at HG1
  rw [g2] at HG2
  unfold getOV at HG1 HG2
  simp only [hX] at HG1
  simp only [← hY] at HG2
  have HAl : Hid (Below w5.heap.size w5 (w5.alloc (.cells #[.string ⟨#[120]⟩, .string ⟨#[121]⟩, .slice a5 2 c5] 25))) := (Below.refl _ _).alloc (Nat.le_refl _) _
  have HG1' := Lib.hid (HG1.out _ (HPr.out.below HAl.out))
  clear hc1 hX hY hsm g1 g2 hb5 HP HB4 HE4 HG1
  simp only [qOut, List.length_cons, List.length_nil]
  go_wp2_with fail
  with_reducible refine HG1'.out.mono ?_
  rintro e w6 ⟨rfl, hb6⟩
  obtain ⟨x0, x1, x2⟩ := box3_cells hb6
  have HB6 : Hid (Below w5.heap.size w5 w6) := HAl.out.trans (hb6.mono (by simp))
  have hl6 : w5.heap.size < w6.heap.size := World.block_lt_of_cell? _ _ x0
  have HG2' := Lib.hid (HG2.out w6 (HPr.out.below HB6.out))
  clear hb6 HG1' HG2 HAl
  go_wp2_with fail
  with_reducible refine HG2'.out.mono ?_
  rintro e w7 ⟨rfl, hb7⟩
  replace x2 := (hb7.cell (p := ⟨w5.heap.size, 2, none⟩) hl6).trans x2
  have HB7 := Lib.hid (HB5.out.trans ((HB6.out.trans (hb7.mono HB6.out.size)).mono HB5.out.size))
  clear hb7 HG2' x0 x1 HB6
  go_wp2_with fail
  go_ret
  exact ⟨rfl, HB7.out⟩
end Go.Proofs.YtcnihodikpcfkaaGreatDoor
