/- Statement CharsetTexts: any bytes of any charset as a text, and any text's bytes, are the document's, or refused. -/
import Derived.Test.YtodheanfpclhaaaDoorCsX
namespace Go.Proofs.YtodheanfpclhaaaDoor
open Go Go.RowKit

set_option maxRecDepth 100000 in
set_option maxHeartbeats 4000000 in
theorem charsetTexts_any (nm : ByteArray) (v : Value) (l : List UInt8) (w : World) (_hn : nm.size ≤ 9223372036854775807) (hv : bytesArg w v l) (hT : Tryd.tabs w) :
    Calls Tryd.prog 3 #[.string nm, v] w fun e w' => e = .returned (.bool true) ∧ Below w.heap.size w w' := by
  have HAw := Lib.hid (awake_any w hT)
  have HTb := Lib.hid hT
  have HV := Lib.hid hv
  obtain ⟨ao, cap, rfl, hc, hm, _⟩ := hv
  unfold maxLen at hm
  clear hT
  by_cases h1 : 300 < l.length
  · have q1 : decide ((300 : Int) < (l.length : Int)) = true := decide_eq_true (by omega)
    have q2 : (300 : Int) < (l.length : Int) := by omega
    go_enter Tryd.func3, Tryd.ntmps3
    go_wp2_with fail
    with_reducible refine HAw.out.mono ?_
    rintro e w1 ⟨rfl, hb1⟩
    go_wp2_with fail
    go_ret
    exact ⟨rfl, hb1⟩
  have q1 : decide ((300 : Int) < (l.length : Int)) = false := decide_eq_false (by omega)
  have q2 : ¬ (300 : Int) < (l.length : Int) := by omega
  by_cases h2 : 50 < nm.size
  · have q3 : decide ((50 : Int) < (nm.size : Int)) = true := decide_eq_true (by omega)
    have q4 : (50 : Int) < (nm.size : Int) := by omega
    go_enter Tryd.func3, Tryd.ntmps3
    go_wp2_with fail
    with_reducible refine HAw.out.mono ?_
    rintro e w1 ⟨rfl, hb1⟩
    go_wp2_with fail
    go_ret
    exact ⟨rfl, hb1⟩
  have q3 : decide ((50 : Int) < (nm.size : Int)) = false := decide_eq_false (by omega)
  have q4 : ¬ (50 : Int) < (nm.size : Int) := by omega
  obtain ⟨S, hS⟩ : ∃ S : ByteArray, S = ⟨l.toArray⟩ := ⟨_, rfl⟩
  have hSs : S.size ≤ 300 := by rw [hS]; show l.length ≤ _; omega
  have hSl : S.data.toList = l := by rw [hS]
  have HCv : Hid (∀ W, Below w.heap.size w W → (convert 22 9 (.slice ao l.length cap)).run Tryd.prog W = .ok (.string S) W) := fun W hb => by rw [hS]; exact bytesArg_string (HV.out.below hb)
  have HTx := Lib.hid (fun W hb => text_any nm (.slice ao l.length cap) l W (by omega) (HV.out.below hb) (by omega) (Utf8Tabs_below HTb.out hb))
  have HTr := Lib.hid (fun W => refText_any nm S W (by omega) (by omega))
  have HBx := Lib.hid (fun W (hb : Below w.heap.size w W) => bytes_any nm S W (by omega) (by omega) (Utf8Tabs_below HTb.out hb))
  have HBr := Lib.hid (fun W => refBytes_any nm S W (by omega) (by omega))
  have HKn := Lib.hid (fun W => known_any nm W (by omega))
  have HKr := Lib.hid (fun W => refKnown_any nm W (by omega))
  rw [hSl] at HTr HBx HBr
  obtain ⟨T1, n1, e1⟩ := errV_two (textK (kindL nm.data.toList) l)
  obtain ⟨T2, n2, e2⟩ := errV_two (bytesK (kindL nm.data.toList) l)
  have HE2 := Lib.hid e2
  rw [e1] at HTx HTr
  rw [e2] at HBr
  obtain ⟨kb, hkb⟩ : ∃ kb, kb = decide (kindL nm.data.toList ≠ 0) := ⟨_, rfl⟩
  rw [← hkb] at HKn HKr
  have r1 : (T1.toList == T1.toList) = true := by simp
  have r2 : (T2.toList == T2.toList) = true := by simp
  have r3 : ((n1 : Int) == n1) = true := by simp
  have r4 : ((n2 : Int) == n2) = true := by simp
  have r5 : (kb == kb) = true := by simp
  clear hS hSl e1 e2 hkb h1 h2
  go_enter Tryd.func3, Tryd.ntmps3
  go_wp2_with fail
  with_reducible refine HAw.out.mono ?_
  rintro e w1 ⟨rfl, hb1⟩
  have HB1 := Lib.hid hb1
  clear hb1
  go_wp2_with fail
  with_reducible refine (HTx.out _ HB1.out).mono ?_
  rintro e w2 ⟨rfl, hb2⟩
  have HB2 := Lib.hid (HB1.out.trans (hb2.mono HB1.out.size))
  have hcv2 := HCv.out w2 HB2.out
  clear hb2
  go_wp2_with fail
  with_reducible refine (HTr.out _).mono ?_
  rintro e w3 ⟨rfl, hb3⟩
  have HB3 := Lib.hid (HB2.out.trans (hb3.mono HB2.out.size))
  have hcv3 := HCv.out w3 HB3.out
  clear hb3 hcv2
  go_wp2_with fail
  with_reducible refine (HBx.out _ HB3.out).mono ?_
  rintro e w4 ⟨⟨vb, rfl, hvb⟩, hb4⟩
  have HB4 := Lib.hid (HB3.out.trans (hb4.mono HB3.out.size))
  have hcv4 := HCv.out w4 HB4.out
  obtain ⟨u, lu, rfl, hu, hT2⟩ := bytE_two HE2.out hvb
  have HU := Lib.hid hu
  have HT2 := Lib.hid hT2
  obtain ⟨uo, uc, rfl, _, _, _⟩ := hu
  clear hb4 hcv3 hvb hT2
  go_wp2_with fail
  with_reducible refine (HBr.out _).mono ?_
  rintro e w5 ⟨rfl, hb5⟩
  have HB5 := Lib.hid (HB4.out.trans (hb5.mono HB4.out.size))
  have hcu : (convert 22 9 (.slice uo lu.length uc)).run Tryd.prog w5 = .ok (.string T2) w5 := by rw [HT2.out]; exact bytesArg_string (HU.out.below hb5)
  clear hb5 hcv4
  go_wp2_with fail
  with_reducible refine (HKn.out _).mono ?_
  rintro e w6 ⟨rfl, hb6⟩
  have HB6 := Lib.hid (HB5.out.trans (hb6.mono HB5.out.size))
  clear hb6
  go_wp2_with fail
  with_reducible refine (HKr.out _).mono ?_
  rintro e w7 ⟨rfl, hb7⟩
  have HB7 := Lib.hid (HB6.out.trans (hb7.mono HB6.out.size))
  clear hb7
  go_wp2_with fail
  go_ret
  exact ⟨rfl, HB7.out⟩
end Go.Proofs.YtodheanfpclhaaaDoor
