/- The law SectionPuts. -/
import Derived.Test.YthcleaflhljdlaaGreatDoorSfB
import Derived.Test.YthcleaflhljdlaaGreatDoorSeS
import Derived.Test.YthcleaflhljdlaaGreatDoorSeV
import Derived.Test.YthcleaflhljdlaaGreatDoorQB
import Derived.Deep.DeepCutAuto
import Derived.Deep.CutBlock
namespace Go.Proofs.YthcleaflhljdlaaGreatDoor
open Go Go.RowKit

def sumN (l : List (List UInt8)) : Nat := (l.map List.length).sum
theorem sumN_take (l : List (List UInt8)) (i : Nat) (h : i < l.length) : sumN (l.take (i + 1)) = sumN (l.take i) + l[i].length := by
  have e : ∀ (a b : List (List UInt8)), sumN (a ++ b) = sumN a + sumN b := by
    intro a b
    induction a with
    | nil => simp [sumN]
    | cons x a ih =>
      simp only [sumN, List.cons_append, List.map_cons, List.sum_cons] at ih ⊢
      omega
  rw [List.take_succ_eq_append_getElem h, e]
  simp [sumN]
theorem sumN_le (m : Nat) : ∀ l : List (List UInt8), (∀ a ∈ l, a.length ≤ m) → sumN l ≤ l.length * m
  | [], _ => by simp [sumN]
  | a :: l, h => by
    have h1 := h a (List.mem_cons_self ..)
    have h2 := sumN_le m l (fun x hx => h x (List.mem_cons_of_mem _ hx))
    have e : sumN (a :: l) = a.length + sumN l := by simp [sumN]
    have e2 : (a :: l).length * m = l.length * m + m := by rw [List.length_cons, Nat.add_mul, Nat.one_mul]
    omega
theorem mem_sumN : ∀ (l : List (List UInt8)), ∀ a ∈ l, a.length ≤ sumN l
  | b :: l, a, h => by
    have e : sumN (b :: l) = b.length + sumN l := by simp [sumN]
    rcases List.mem_cons.1 h with rfl | h
    · omega
    · have := mem_sumN l a h
      omega
set_option maxRecDepth 100000 in
set_option maxHeartbeats 8000000 in
theorem sectionPuts_any (s : Spc) (a1 a2 : Option Addr) (c1 c2 : Nat) (w : World) (hp : rowOf w (.slice a1 s.path.length c1) (s.path.map intV)) (hn : rowOf w (.slice a2 s.names.length c2) (s.names.map strV)) (hl : ∀ a ∈ s.names, a.length ≤ 140737488355328) (hl1 : s.path.length ≤ 9223372036854775807) (hl2 : s.names.length ≤ 9223372036854775807) (he : env w) :
    Calls Tryz.prog 4 #[spV s a1 a2 c1 c2] w fun e w' => e = .returned (.bool true) ∧ Below w.heap.size w w' := by
  unfold spV
  obtain ⟨W1, hW1⟩ : ∃ W1, W1 = w.alloc (.cells #[.slice a1 s.path.length c1, .int .i64 s.what, .slice a2 s.names.length c2, .bool s.cut, .int .i64 s.frm, .int .i64 s.many] 26) := ⟨_, rfl⟩
  have hb01 : Below w.heap.size w W1 := by rw [hW1]; exact (Below.refl _ _).alloc (Nat.le_refl _) _
  have hbx : Box W1 w.heap.size (.slice a1 s.path.length c1) s.what (.slice a2 s.names.length c2) s.cut s.frm s.many := by rw [hW1]; exact heap_alloc_new w _
  have HEn := Lib.hid (fun W (hb : Below w.heap.size w W) => he.below hb)
  have HRp := Lib.hid (fun W (hb : Below w.heap.size w W) => hp.below hb)
  have HRn := Lib.hid (fun W (hb : Below w.heap.size w W) => hn.below hb)
  have HA := Lib.hid (awake_any W1 (he.below hb01))
  have HB1 := Lib.hid hb01
  have HW1 := Lib.hid hW1.symm
  have HL := Lib.hid hl
  obtain ⟨R, hR⟩ : ∃ R, R = w.heap.size := ⟨_, rfl⟩
  rw [← hR] at hbx
  have HBx := Lib.hid hbx
  have HR := Lib.hid hR
  clear hp hn hb01 he hbx hW1 hl hR
  go_enter Tryz.func4, Tryz.ntmps4
  go_upto_region 1 with fail
  rw [HW1.out, ← HR.out]
  go_wp2_with fail
  with_reducible refine HA.out.mono ?_
  rintro e w2 ⟨rfl, hb2⟩
  have HB2 := Lib.hid (HB1.out.trans (hb2.mono HB1.out.size))
  have HX2 := Lib.hid (HBx.out.below hb2)
  obtain ⟨k0, k1, k2, k3, k4, k5⟩ := HX2.out.c
  clear hb2 HA HBx HB1 HW1
  go_wp2_with fail
  go_loopg [4, 5] s.names.length (fun qq mv xi wr => ∃ (i : Nat) (m : Int), i ≤ s.names.length ∧ qq = s.names.length - i ∧ xi = .int .i64 (i : Int) ∧ mv = .int .i64 m ∧ Hid (s.names.length ≤ 110 → m = ((sumN (s.names.take i) : Nat) : Int)) ∧ w2 = wr)
  case atStart => exact ⟨0, 0, by omega, by omega, rfl, rfl, (fun _ => by simp [sumN]), rfl⟩
  case round =>
    obtain ⟨i, m, hi, rfl, rfl, rfl, HM, rfl⟩ := hrel
    by_cases hlt : i < s.names.length
    · obtain ⟨b, off, rfl, hb, hc⟩ := (HRn.out w2 HB2.out).at i (by simpa using hlt)
      obtain ⟨u, hu⟩ : ∃ u, u = s.names[i] := ⟨_, rfl⟩
      have hul := HL.out _ (List.getElem_mem hlt)
      rw [← hu] at hul
      obtain ⟨U, hU⟩ : ∃ U : ByteArray, U = ⟨u.toArray⟩ := ⟨_, rfl⟩
      have hc' : w2.cell? ⟨b, off + i, none⟩ = some (.string U) := by rw [hc, hU, hu]; simp [strV]
      have hUs : U.size = u.length := by rw [hU]; exact List.size_toArray
      have hd : (i : Int) < (s.names.length : Int) := by omega
      have HS : Hid (sumN (s.names.take (i + 1)) = sumN (s.names.take i) + U.size) := by unfold Hid; rw [sumN_take _ _ hlt, ← hu, hUs]
      have hsl := sumN_le 140737488355328 (s.names.take i) (fun a ha => HL.out a (List.mem_of_mem_take ha))
      rw [List.length_take] at hsl
      have hUl : U.size ≤ 140737488355328 := by omega
      clear hc hU hu hul hUs
      by_cases h110 : s.names.length ≤ 110
      · obtain ⟨t, ht⟩ : ∃ t, t = sumN (s.names.take i) := ⟨_, rfl⟩
        obtain rfl : m = (t : Int) := by rw [HM.out h110, ht]
        have htl : t ≤ 110 * 140737488355328 := by
          have : min i s.names.length * 140737488355328 ≤ 110 * 140737488355328 := Nat.mul_le_mul_right _ (by omega)
          omega
        have HT : Hid (((sumN (s.names.take (i + 1)) : Nat) : Int) = (t : Int) + (U.size : Int)) := by unfold Hid; rw [HS.out, ← ht]; omega
        clear ht hsl HS
        go_wp2_with fail
        go_roundg (s.names.length - (i + 1))
        case measure => omega
        case rel => exact ⟨i + 1, _, by omega, rfl, by go_num, rfl, fun _ => HT.out.symm, rfl⟩
      · clear hsl HS
        go_wp2_with fail
        go_roundg (s.names.length - (i + 1))
        case measure => omega
        case rel => exact ⟨i + 1, _, by omega, rfl, by go_num, rfl, (fun h => (h110 h).elim), rfl⟩
    · obtain rfl : i = s.names.length := by omega
      by_cases h80 : 80 < (s.path.length : Int)
      · go_wp2_with fail
        go_ret
        exact ⟨rfl, HB2.out⟩
      · by_cases h110 : 110 < (s.names.length : Int)
        · have d80 : decide (80 < (s.path.length : Int)) = false := decide_eq_false h80
          go_wp2_with fail
          go_ret
          exact ⟨rfl, HB2.out⟩
        · by_cases h400 : 400 < m
          · have d80 : decide (80 < (s.path.length : Int)) = false := decide_eq_false h80
            have d110 : decide (110 < (s.names.length : Int)) = false := decide_eq_false h110
            go_wp2_with fail
            go_ret
            exact ⟨rfl, HB2.out⟩
          · have d80 : decide (80 < (s.path.length : Int)) = false := decide_eq_false h80
            have d110 : decide (110 < (s.names.length : Int)) = false := decide_eq_false h110
            have hm := HM.out (by omega)
            rw [List.take_of_length_le (Nat.le_refl _)] at hm
            have hna : ∀ a ∈ s.names, a.length ≤ 400 := fun a ha => by have := mem_sumN _ a ha; omega
            have hsa : SpA w2 s a1 a2 c1 c2 := ⟨HRp.out w2 HB2.out, HRn.out w2 HB2.out, fun a ha => by have := hna a ha; omega⟩
            have HSa := Lib.hid hsa
            have HNa := Lib.hid hna
            have HLp : Hid (s.path.length ≤ 1000000000 ∧ s.names.length ≤ 1000000000) := ⟨by omega, by omega⟩
            clear hm hna hsa HRp HRn HL HM
            have HSp := Lib.hid (fun W => specOf_any s a1 a2 c1 c2 W)
            unfold spV at HSp
            go_wp2_with fail
            with_reducible refine (HSp.out _).mono ?_
            rintro e w3 ⟨rfl, hb3⟩
            obtain ⟨W3, hW3⟩ : ∃ W3, W3 = w3.alloc (.cells #[.slice a1 s.path.length c1, .int .i64 s.what, .slice a2 s.names.length c2, .bool s.cut, .int .i64 s.frm, .int .i64 s.many] 30) := ⟨_, rfl⟩
            have hb33 : Below w3.heap.size w3 W3 := by rw [hW3]; exact (Below.refl _ _).alloc (Nat.le_refl _) _
            have hb23 : Below w2.heap.size w2 W3 := hb3.trans (hb33.mono hb3.size)
            have hy3 : BoxR W3 w3.heap.size (.slice a1 s.path.length c1) s.what (.slice a2 s.names.length c2) s.cut s.frm s.many := by rw [hW3]; exact heap_alloc_new w3 _
            have HB3 := Lib.hid (HB2.out.trans (hb23.mono HB2.out.size))
            have HX3 := Lib.hid (HX2.out.below hb23)
            have HSa3 := Lib.hid (HSa.out.below hb23)
            have HW3 := Lib.hid hW3.symm
            obtain ⟨Y, hY⟩ : ∃ Y, Y = w3.heap.size := ⟨_, rfl⟩
            rw [← hY] at hy3
            have HY3 := Lib.hid hy3
            have HYe := Lib.hid hY
            clear hb3 hb33 hb23 hW3 hy3 hY k0 k1 k2 k3 k4 k5
            obtain ⟨x0, x1, x2, x3, x4, x5⟩ := HX3.out.c
            obtain ⟨y0, y1, y2, y3, y4, y5⟩ := HY3.out.c
            have X0 := BW.cell x0
            have Y0 := BW.cell y0
            have X1 := BW.cell x1
            have Y1 := BW.cell y1
            have X2 := BW.cell x2
            have Y2 := BW.cell y2
            have X3 := BW.cell x3
            have Y3 := BW.cell y3
            have X4 := BW.cell x4
            have Y4 := BW.cell y4
            have X5 := BW.cell x5
            have Y5 := BW.cell y5
            have HG3 : Hid (∀ z : BW W3, Below w.heap.size w z.v) := fun z => HB3.out.trans (z.h.mono HB3.out.size)
            have HC1 : Hid (∀ z : BW W3, _) := fun z => check_any s a1 a2 c1 c2 z.v (HSa3.out.below z.h)
            have HC2 : Hid (∀ z : BW W3, _) := fun z => refCheck_any s a1 a2 c1 c2 z.v (HSa3.out.below z.h) HLp.out.1 HLp.out.2
            have HPf : Hid (∀ z : BW W3, _) := fun z => put_any s false a1 a2 c1 c2 z.v (HSa3.out.below z.h) (HEn.out _ (HG3.out z))
            have HPt : Hid (∀ z : BW W3, _) := fun z => put_any s true a1 a2 c1 c2 z.v (HSa3.out.below z.h) (HEn.out _ (HG3.out z))
            have HQf : Hid (∀ z : BW W3, _) := fun z => refPut_any s false a1 a2 c1 c2 z.v (HSa3.out.below z.h) HLp.out.1 HLp.out.2 (fun a ha => by have := HNa.out a ha; omega)
            have HQt : Hid (∀ z : BW W3, _) := fun z => refPut_any s true a1 a2 c1 c2 z.v (HSa3.out.below z.h) HLp.out.1 HLp.out.2 (fun a ha => by have := HNa.out a ha; omega)
            have HPc := Lib.hid (put_spec s)
            have HPl := Lib.hid (put_len s false (fun a ha => by have := HNa.out a ha; omega))
            obtain ⟨ck, hck⟩ : ∃ ck, ck = checkS s := ⟨_, rfl⟩
            rw [← hck] at HC1 HC2 HPc
            have HCk : Hid (∀ W, Below w.heap.size w W → SpA W s a1 a2 c1 c2 → Calls Tryz.prog 12 #[spV s a1 a2 c1 c2] W fun e w' => e = .returned (errS ck) ∧ Below W.heap.size W w') := fun W _ h => by rw [hck]; exact check_any s a1 a2 c1 c2 W h
            obtain ⟨PF, hPF⟩ : ∃ P : ByteArray, P = ⟨(putS s false).toArray⟩ := ⟨_, rfl⟩
            obtain ⟨PT, hPT⟩ : ∃ P : ByteArray, P = ⟨(putS s true).toArray⟩ := ⟨_, rfl⟩
            have hPFl : PF.data.toList = putS s false := by rw [hPF]
            rw [← hPFl] at HPc HPl
            unfold strV at HPf HPt HQf HQt
            rw [← hPF] at HPf HQf
            rw [← hPT] at HPt HQt
            unfold spV at HPf HPt HQf HQt HC1 HC2 HCk
            unfold errS at HC1 HC2 HCk
            obtain ⟨ek, hek⟩ : ∃ ek : Int, ek = if ck = true then 0 else 1 := ⟨_, rfl⟩
            rw [← hek] at HC1 HC2 HCk
            have HEk := Lib.hid hek
            clear hek
            clear hck hPF hPT hPFl x0 x1 x2 x3 x4 x5 y0 y1 y2 y3 y4 y5
            go_upto_region 12 with fail
            rw [HW3.out, ← HYe.out]
            refine wp_region_below (by kernel_rfl) (by kernel_rfl) ?_
            repeat (go_big_quiet_step (first | (go_at_call 12; with_reducible exact BW.calls (HC1.out _)) | (go_at_call 13; with_reducible exact BW.calls (HC2.out _)) | (go_at_call 14; first | (with_reducible exact BW.calls (HPf.out _)) | (with_reducible exact BW.calls (HPt.out _))) | (go_at_call 15; first | (with_reducible exact BW.calls (HQf.out _)) | (with_reducible exact BW.calls (HQt.out _)))))
            refine wpQuiet_nil ?_
            rintro W4 ⟨⟨_, hb4⟩, rfl⟩
            have HB4 := Lib.hid (HB3.out.trans (hb4.mono HB3.out.size))
            have HX4 := Lib.hid (HX3.out.below hb4)
            have HY4 := Lib.hid (HY3.out.below hb4)
            have HSa4 := Lib.hid (HSa3.out.below hb4)
            have hpf4 := HPf.out ⟨W4, hb4⟩
            dsimp only at hpf4
            have HPf4 := Lib.hid hpf4
            clear hpf4
            clear hb4 X0 X1 X2 X3 X4 X5 Y0 Y1 Y2 Y3 Y4 Y5 HC1 HC2 HPf HPt HQf HQt HG3
            obtain ⟨x0, x1, x2, x3, x4, x5⟩ := HX4.out.c
            go_wp2_with fail
            with_reducible refine HPf4.out.mono ?_
            rintro e w5 ⟨rfl, hb5⟩
            have HB5 := Lib.hid (HB4.out.trans (hb5.mono HB4.out.size))
            have HX5 := Lib.hid (HX4.out.below hb5)
            have HY5 := Lib.hid (HY4.out.below hb5)
            have HSa5 := Lib.hid (HSa4.out.below hb5)
            have hP := parse_any PF w5 (by have := HPl.out; rw [len_toList] at this; omega) (HEn.out _ HB5.out).2
            rw [HPc.out] at hP
            unfold ParseIs at hP
            clear hb5 x0 x1 x2 x3 x4 x5
            cases ck with
            | false =>
              obtain rfl : ek = 1 := by rw [HEk.out]; rfl
              rw [if_neg (by decide)] at hP
              unfold zeroSp at hP
              simp only at hP
              have HP := Lib.hid hP
              clear hP
              go_wp2_with fail
              with_reducible refine HP.out.mono ?_
              rintro e w6 ⟨rfl, hb6⟩
              obtain ⟨W6, hW6⟩ : ∃ W6, W6 = w6.alloc (.cells #[.slice none 0 0, .int .i64 0, .slice none 0 0, .bool false, .int .i64 0, .int .i64 0] 26) := ⟨_, rfl⟩
              have hbb : Below w5.heap.size w5 W6 := by rw [hW6]; exact hb6.alloc hb6.size _
              have HB6 := Lib.hid (HB5.out.trans (hbb.mono HB5.out.size))
              have HX6 := Lib.hid (HX5.out.below hbb)
              have HSa6 := Lib.hid (HSa5.out.below hbb)
              have HW6 := Lib.hid hW6.symm
              have HC6 := Lib.hid (HCk.out W6 HB6.out HSa6.out)
              clear hb6 hbb hW6 HP
              obtain ⟨x0, x1, x2, x3, x4, x5⟩ := HX6.out.c
              go_upto_region 15 with fail
              rw [HW6.out]
              go_wp2_with fail
              with_reducible refine HC6.out.mono ?_
              rintro e w7 ⟨rfl, hb7⟩
              have HB7 := Lib.hid (HB6.out.trans (hb7.mono HB6.out.size))
              clear hb7
              go_wp2_with fail
              go_ret
              exact ⟨rfl, HB7.out⟩
            | true =>
              obtain rfl : ek = 0 := by rw [HEk.out]; rfl
              rw [if_pos rfl] at hP
              simp only at hP
              have HP := Lib.hid hP
              clear hP
              go_wp2_with fail
              with_reducible refine HP.out.mono ?_
              rintro e w6 ⟨v1, rfl, hv1, hn1, hb6⟩
              obtain ⟨b1, d1, b2, d2, rfl, hs1⟩ := hv1.parts hn1
              obtain ⟨W6, hW6⟩ : ∃ W6, W6 = w6.alloc (.cells #[.slice b1 s.path.length d1, .int .i64 s.what, .slice b2 s.names.length d2, .bool s.cut, .int .i64 s.frm, .int .i64 s.many] 26) := ⟨_, rfl⟩
              have hb66 : Below w6.heap.size w6 W6 := by rw [hW6]; exact (Below.refl _ _).alloc (Nat.le_refl _) _
              have hz6 : Box W6 w6.heap.size (.slice b1 s.path.length d1) s.what (.slice b2 s.names.length d2) s.cut s.frm s.many := by rw [hW6]; exact heap_alloc_new w6 _
              have hbb : Below w5.heap.size w5 W6 := hb6.trans (hb66.mono hb6.size)
              have HB6 := Lib.hid (HB5.out.trans (hbb.mono HB5.out.size))
              have HX6 := Lib.hid (HX5.out.below hbb)
              have HY6 := Lib.hid (HY5.out.below hbb)
              have HSa6 := Lib.hid (HSa5.out.below hbb)
              have HSb6 := Lib.hid (hs1.below hb66)
              have HW6 := Lib.hid hW6.symm
              have HC6 := Lib.hid (HCk.out W6 HB6.out HSa6.out)
              obtain ⟨Z, hZ⟩ : ∃ Z, Z = w6.heap.size := ⟨_, rfl⟩
              rw [← hZ] at hz6
              have HZ6 := Lib.hid hz6
              have HZe := Lib.hid hZ
              clear hb6 hb66 hbb hW6 HP hv1 hn1 hs1 hz6 hZ
              obtain ⟨x0, x1, x2, x3, x4, x5⟩ := HX6.out.c
              go_upto_region 15 with fail
              rw [HW6.out, ← HZe.out]
              go_wp2_with fail
              with_reducible refine HC6.out.mono ?_
              rintro e w7 ⟨rfl, hb7⟩
              have HB7 := Lib.hid (HB6.out.trans (hb7.mono HB6.out.size))
              have HY7 := Lib.hid (HY6.out.below hb7)
              have HZ7 := Lib.hid (HZ6.out.below hb7)
              have HSa7 := Lib.hid (HSa6.out.below hb7)
              have HSb7 := Lib.hid (HSb6.out.below hb7)
              clear hb7 x0 x1 x2 x3 x4 x5
              obtain ⟨y0, y1, y2, y3, y4, y5⟩ := HY7.out.c
              obtain ⟨z0, z1, z2, z3, z4, z5⟩ := HZ7.out.c
              have Y0 := BW.cell y0
              have Y1 := BW.cell y1
              have Y2 := BW.cell y2
              have Y3 := BW.cell y3
              have Y4 := BW.cell y4
              have Y5 := BW.cell y5
              have Z0 := BW.cell z0
              have Z1 := BW.cell z1
              have Z2 := BW.cell z2
              have Z3 := BW.cell z3
              have Z4 := BW.cell z4
              have Z5 := BW.cell z5
              have HF1 : Hid (∀ z : BW w7, _) := fun z => specOf_any s b1 b2 d1 d2 z.v
              have HF3 : Hid (∀ z : BW w7, _) := fun z => same_spec s b1 b2 d1 d2 a1 a2 c1 c2 z.v (HSb7.out.below z.h) (HSa7.out.below z.h) HLp.out.1 HLp.out.2
              unfold spV at HF1 HF3
              clear y0 y1 y2 y3 y4 y5 z0 z1 z2 z3 z4 z5
              go_upto_region 17 with fail
              refine wp_region_below (by kernel_rfl) (by kernel_rfl) ?_
              repeat (go_big_quiet_step (first | (go_at_call 11; with_reducible exact BW.calls (HF1.out _)) | (go_at_call 10; with_reducible exact BW.calls (HF3.out _))))
              refine wpQuiet_nil ?_
              rintro W8 ⟨⟨_, hb8⟩, rfl⟩
              have HB8 := Lib.hid (HB7.out.trans (hb8.mono HB7.out.size))
              clear hb8
              go_wp2_with fail
              go_ret
              exact ⟨rfl, HB8.out⟩
end Go.Proofs.YthcleaflhljdlaaGreatDoor
