/- Statement CharsetJoins: a text of two rows of bytes is the two texts, if both go. -/
import Derived.Test.YtodheanfpclhaaaDoorCsZ
import Derived.Test.YtodheanfpclhaaaDoorApp
namespace Go.Proofs.YtodheanfpclhaaaDoor
open Go Go.RowKit

theorem e21 : ((21 : Int) == 21) = true := by decide
set_option maxRecDepth 100000 in
set_option maxHeartbeats 8000000 in
theorem charsetJoins_any (nm : ByteArray) (va : Value) (la : List UInt8) (vb : Value) (lb : List UInt8) (w : World) (_hn : nm.size ≤ 9223372036854775807) (hva : bytesArg w va la) (hvb : bytesArg w vb lb) (hT : Tryd.tabs w) :
    Calls Tryd.prog 6 #[.string nm, va, vb] w fun e w' => e = .returned (.bool true) ∧ Below w.heap.size w w' := by
  obtain ⟨i0, hi0, hz0, hz1, hz2⟩ := info_parts Tryd.infoB
  have HAw := Lib.hid (awake_any w hT)
  have HTb := Lib.hid hT
  have HVa := Lib.hid hva
  have HVb := Lib.hid hvb
  obtain ⟨ao, cap, rfl, hc, hm, hsa⟩ := hva
  obtain ⟨bo, capb, rfl, hcb, hmb, hsb⟩ := hvb
  have HSa : Hid (sliceAt w ao la) := hsa
  have HSb : Hid (sliceAt w bo lb) := hsb
  unfold maxLen at hm hmb
  clear hT hsa hsb
  by_cases g0 : 200 < la.length
  · have p0 : decide ((200 : Int) < (la.length : Int)) = true := decide_eq_true (by omega)
    have r0 : (200 : Int) < (la.length : Int) := by omega
    go_enter Tryd.func6, Tryd.ntmps6
    go_wp2_with fail
    with_reducible refine HAw.out.mono ?_
    rintro e w1 ⟨rfl, hb1⟩
    go_wp2_with fail
    go_ret
    exact ⟨rfl, hb1⟩
  have p0 : decide ((200 : Int) < (la.length : Int)) = false := decide_eq_false (by omega)
  have r0 : ¬ (200 : Int) < (la.length : Int) := by omega
  by_cases g1 : 200 < lb.length
  · have p1 : decide ((200 : Int) < (lb.length : Int)) = true := decide_eq_true (by omega)
    have r1 : (200 : Int) < (lb.length : Int) := by omega
    go_enter Tryd.func6, Tryd.ntmps6
    go_wp2_with fail
    with_reducible refine HAw.out.mono ?_
    rintro e w1 ⟨rfl, hb1⟩
    go_wp2_with fail
    go_ret
    exact ⟨rfl, hb1⟩
  have p1 : decide ((200 : Int) < (lb.length : Int)) = false := decide_eq_false (by omega)
  have r1 : ¬ (200 : Int) < (lb.length : Int) := by omega
  by_cases g2 : 50 < nm.size
  · have p2 : decide ((50 : Int) < (nm.size : Int)) = true := decide_eq_true (by omega)
    have r2 : (50 : Int) < (nm.size : Int) := by omega
    go_enter Tryd.func6, Tryd.ntmps6
    go_wp2_with fail
    with_reducible refine HAw.out.mono ?_
    rintro e w1 ⟨rfl, hb1⟩
    go_wp2_with fail
    go_ret
    exact ⟨rfl, hb1⟩
  have p2 : decide ((50 : Int) < (nm.size : Int)) = false := decide_eq_false (by omega)
  have r2 : ¬ (50 : Int) < (nm.size : Int) := by omega
  have HTa := Lib.hid (fun W hb => text_any nm (.slice ao la.length cap) la W (by omega) (HVa.out.below hb) (by omega) (Utf8Tabs_below HTb.out hb))
  have HTc := Lib.hid (fun W hb => text_any nm (.slice bo lb.length capb) lb W (by omega) (HVb.out.below hb) (by omega) (Utf8Tabs_below HTb.out hb))
  have HTd := Lib.hid (fun W (hb : Below w.heap.size w W) u (hu : bytesArg W u (la ++ lb)) => text_any nm u (la ++ lb) W (by omega) hu (by rw [List.length_append]; omega) (Utf8Tabs_below HTb.out hb))
  obtain ⟨k, hk⟩ : ∃ k, k = kindL nm.data.toList := ⟨_, rfl⟩
  rw [← hk] at HTa HTc HTd
  clear hk
  cases h1 : textK k la with
  | none =>
    rw [h1] at HTa
    unfold errV at HTa
    obtain ⟨T2, n2, e2⟩ := errV_two (textK k lb)
    rw [e2] at HTc
    clear h1 e2
    obtain ⟨T3, n3, e3⟩ := errV_two (textK k (la ++ lb))
    rw [e3] at HTd
    clear e3
    have q0 : ((⟨#[]⟩ : ByteArray).toList == []) = true := by kernel_rfl
    go_enter Tryd.func6, Tryd.ntmps6
    go_wp2_with fail
    with_reducible refine HAw.out.mono ?_
    rintro e w1 ⟨rfl, hb1⟩
    have HB1 := Lib.hid hb1
    clear hb1
    go_wp2_with fail
    with_reducible refine (HTa.out _ HB1.out).mono ?_
    rintro e w2 ⟨rfl, hb2⟩
    have HB2 := Lib.hid (HB1.out.trans (hb2.mono HB1.out.size))
    clear hb2
    go_wp2_with fail
    with_reducible refine (HTc.out _ HB2.out).mono ?_
    rintro e w3 ⟨rfl, hb3⟩
    have HB3 := Lib.hid (HB2.out.trans (hb3.mono HB2.out.size))
    clear hb3
    have HO0 : Hid (w3.ownsRow w.heap.size 5 1 (.slice none 0 0) 0 []) := World.ownsRow_nil _ _ _ _
    have hla : 0 + la.length ≤ 1048576 := by omega
    go_wp2_with (first
      | (at_builtin; refine wpList_append_bytes rfl _ _ 22 rfl w.heap.size 5 i0 Tryd.underlying22 hi0 hz0 hz1 hz2 (.slice none 0 0) 0 [] rfl HO0.out ao cap la rfl (HSa.out.below HB3.out) hla HB3.out.size ?_; intro v4 w4 hown4 hgrow4
         have HO4 : Hid (w4.ownsRow w.heap.size 5 1 v4 la.length (la.map byteV)) := own_cast hown4 (by omega) (by simp)
         have HB4 : Hid (Below w.heap.size w w4) := HB3.out.grown hgrow4 HB3.out.size (fun q hq => (HO0.out.lt q hq).1)
         clear hown4 hgrow4)
      | (at_builtin; refine wpList_append_bytes rfl _ _ 22 rfl w.heap.size 5 i0 Tryd.underlying22 hi0 hz0 hz1 hz2 v4 la.length (la.map byteV) rfl HO4.out bo capb lb rfl (HSb.out.below HB4.out) (by omega) HB4.out.size ?_; intro v5 w5 hown5 hgrow5
         have HO5 : Hid (w5.ownsRow w.heap.size 5 1 v5 (la.length + lb.length) ((la ++ lb).map byteV)) := own_cast hown5 rfl (by simp)
         have HB5 : Hid (Below w.heap.size w w5) := HB4.out.grown hgrow5 HB4.out.size (fun q hq => (HO4.out.lt q hq).1)
         clear hown5 hgrow5))
    with_reducible refine (HTd.out w5 HB5.out v5 (bytesArg_owned HO5.out)).mono ?_
    rintro e w6 ⟨rfl, hb6⟩
    have HB6 := Lib.hid (HB5.out.trans (hb6.mono HB5.out.size))
    clear hb6
    go_wp2_with fail
    go_ret
    exact ⟨rfl, HB6.out⟩
  | some x =>
    rw [h1, errV_some] at HTa
    cases h2 : textK k lb with
    | none =>
      rw [h2] at HTc
      unfold errV at HTc
      clear h1 h2
      obtain ⟨T3, n3, e3⟩ := errV_two (textK k (la ++ lb))
      rw [e3] at HTd
      clear e3
      have q0 : ((⟨#[]⟩ : ByteArray).toList == []) = true := by kernel_rfl
      go_enter Tryd.func6, Tryd.ntmps6
      go_wp2_with fail
      with_reducible refine HAw.out.mono ?_
      rintro e w1 ⟨rfl, hb1⟩
      have HB1 := Lib.hid hb1
      clear hb1
      go_wp2_with fail
      with_reducible refine (HTa.out _ HB1.out).mono ?_
      rintro e w2 ⟨rfl, hb2⟩
      have HB2 := Lib.hid (HB1.out.trans (hb2.mono HB1.out.size))
      clear hb2
      go_wp2_with fail
      with_reducible refine (HTc.out _ HB2.out).mono ?_
      rintro e w3 ⟨rfl, hb3⟩
      have HB3 := Lib.hid (HB2.out.trans (hb3.mono HB2.out.size))
      clear hb3
      have HO0 : Hid (w3.ownsRow w.heap.size 5 1 (.slice none 0 0) 0 []) := World.ownsRow_nil _ _ _ _
      have hla : 0 + la.length ≤ 1048576 := by omega
      go_wp2_with (first
        | (at_builtin; refine wpList_append_bytes rfl _ _ 22 rfl w.heap.size 5 i0 Tryd.underlying22 hi0 hz0 hz1 hz2 (.slice none 0 0) 0 [] rfl HO0.out ao cap la rfl (HSa.out.below HB3.out) hla HB3.out.size ?_; intro v4 w4 hown4 hgrow4
           have HO4 : Hid (w4.ownsRow w.heap.size 5 1 v4 la.length (la.map byteV)) := own_cast hown4 (by omega) (by simp)
           have HB4 : Hid (Below w.heap.size w w4) := HB3.out.grown hgrow4 HB3.out.size (fun q hq => (HO0.out.lt q hq).1)
           clear hown4 hgrow4)
        | (at_builtin; refine wpList_append_bytes rfl _ _ 22 rfl w.heap.size 5 i0 Tryd.underlying22 hi0 hz0 hz1 hz2 v4 la.length (la.map byteV) rfl HO4.out bo capb lb rfl (HSb.out.below HB4.out) (by omega) HB4.out.size ?_; intro v5 w5 hown5 hgrow5
           have HO5 : Hid (w5.ownsRow w.heap.size 5 1 v5 (la.length + lb.length) ((la ++ lb).map byteV)) := own_cast hown5 rfl (by simp)
           have HB5 : Hid (Below w.heap.size w w5) := HB4.out.grown hgrow5 HB4.out.size (fun q hq => (HO4.out.lt q hq).1)
           clear hown5 hgrow5))
      with_reducible refine (HTd.out w5 HB5.out v5 (bytesArg_owned HO5.out)).mono ?_
      rintro e w6 ⟨rfl, hb6⟩
      have HB6 := Lib.hid (HB5.out.trans (hb6.mono HB5.out.size))
      clear hb6
      go_wp2_with fail
      go_ret
      exact ⟨rfl, HB6.out⟩
    | some y =>
      rw [h2, errV_some] at HTc
      have h3 := text_app h1 h2
      have hlx := textK_len h1
      have hly := textK_len h2
      rw [h3, errV_some] at HTd
      obtain ⟨X, hX⟩ : ∃ X : ByteArray, X = ⟨x.toArray⟩ := ⟨_, rfl⟩
      obtain ⟨Y, hY⟩ : ∃ Y : ByteArray, Y = ⟨y.toArray⟩ := ⟨_, rfl⟩
      obtain ⟨Z, hZ⟩ : ∃ Z : ByteArray, Z = ⟨(x ++ y).toArray⟩ := ⟨_, rfl⟩
      have q1 : (Z.toList == (X ++ Y).toList) = true := str_eq (by rw [cat_toList, hX, hY, hZ])
      have hXs : X.size ≤ 1000 := by rw [hX]; show x.length ≤ _; omega
      have hYs : Y.size ≤ 1000 := by rw [hY]; show y.length ≤ _; omega
      rw [← hX] at HTa
      rw [← hY] at HTc
      rw [← hZ] at HTd
      clear h1 h2 h3 hX hY hZ
      go_enter Tryd.func6, Tryd.ntmps6
      go_wp2_with fail
      with_reducible refine HAw.out.mono ?_
      rintro e w1 ⟨rfl, hb1⟩
      have HB1 := Lib.hid hb1
      clear hb1
      go_wp2_with fail
      with_reducible refine (HTa.out _ HB1.out).mono ?_
      rintro e w2 ⟨rfl, hb2⟩
      have HB2 := Lib.hid (HB1.out.trans (hb2.mono HB1.out.size))
      clear hb2
      go_wp2_with fail
      with_reducible refine (HTc.out _ HB2.out).mono ?_
      rintro e w3 ⟨rfl, hb3⟩
      have HB3 := Lib.hid (HB2.out.trans (hb3.mono HB2.out.size))
      clear hb3
      have HO0 : Hid (w3.ownsRow w.heap.size 5 1 (.slice none 0 0) 0 []) := World.ownsRow_nil _ _ _ _
      have hla : 0 + la.length ≤ 1048576 := by omega
      go_wp2_with (first
        | (at_builtin; refine wpList_append_bytes rfl _ _ 22 rfl w.heap.size 5 i0 Tryd.underlying22 hi0 hz0 hz1 hz2 (.slice none 0 0) 0 [] rfl HO0.out ao cap la rfl (HSa.out.below HB3.out) hla HB3.out.size ?_; intro v4 w4 hown4 hgrow4
           have HO4 : Hid (w4.ownsRow w.heap.size 5 1 v4 la.length (la.map byteV)) := own_cast hown4 (by omega) (by simp)
           have HB4 : Hid (Below w.heap.size w w4) := HB3.out.grown hgrow4 HB3.out.size (fun q hq => (HO0.out.lt q hq).1)
           clear hown4 hgrow4)
        | (at_builtin; refine wpList_append_bytes rfl _ _ 22 rfl w.heap.size 5 i0 Tryd.underlying22 hi0 hz0 hz1 hz2 v4 la.length (la.map byteV) rfl HO4.out bo capb lb rfl (HSb.out.below HB4.out) (by omega) HB4.out.size ?_; intro v5 w5 hown5 hgrow5
           have HO5 : Hid (w5.ownsRow w.heap.size 5 1 v5 (la.length + lb.length) ((la ++ lb).map byteV)) := own_cast hown5 rfl (by simp)
           have HB5 : Hid (Below w.heap.size w w5) := HB4.out.grown hgrow5 HB4.out.size (fun q hq => (HO4.out.lt q hq).1)
           clear hown5 hgrow5))
      with_reducible refine (HTd.out w5 HB5.out v5 (bytesArg_owned HO5.out)).mono ?_
      rintro e w6 ⟨rfl, hb6⟩
      have HB6 := Lib.hid (HB5.out.trans (hb6.mono HB5.out.size))
      clear hb6
      go_wp2_with fail
      go_ret
      exact ⟨rfl, HB6.out⟩
end Go.Proofs.YtodheanfpclhaaaDoor
