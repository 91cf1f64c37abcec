/- The laws of layer 3 (quoted-printable): what is awake; QpDecodes. -/
import Derived.Test.YtdofnejgfcnnoaaDoorQpI
import Derived.Test.YtdofnejgfcnnoaaDoorQpF
import Derived.Test.YtdofnejgfcnnoaaDoorRow
import Derived.Lib.SlBytesConst
namespace Go.Proofs.YtdofnejgfcnnoaaDoor
open Go Go.RowKit

theorem awake_any (w : World) : Calls Tryd.prog 7 #[] w fun e w' => e = .returned (.bool true) ∧ Below w.heap.size w w' := by
  have HA := Lib.hid (sliceAt_new w 5 (8, 9) #[.int .u8 97, .int .u8 61, .int .u8 51, .int .u8 68, .int .u8 61, .int .u8 32, .int .u8 10, .int .u8 98] [97, 61, 51, 68, 61, 32, 10, 98] rfl)
  have kc := fun (w : World) (C : Array Value) (n c : Nat) => Lib.run_convert_bytes_const (P := Tryd.prog) w 22 5 C n c Tryd.underlying22 Tryd.underlying5
  go_enter Tryd.func7, Tryd.ntmps7
  go_wp2_with fail
  refine (decode_any _ [97, 61, 51, 68, 61, 32, 10, 98] _ (HA.out.arg (cap := 8) (by decide) (by decide)) (by decide)).mono ?_
  rintro e w1 ⟨hb, u, rfl, hown⟩
  have e1 : decQ [97, 61, 51, 68, 61, 32, 10, 98] = some [97, 61, 98] := by decide
  rw [e1] at hown ⊢
  have HO := Lib.hid hown
  have HB : Hid (Below w.heap.size w w1) := ((Below.refl _ _).alloc (Nat.le_refl _) _).trans (hb.mono (by simp))
  clear hown hb e1
  have HA2 := Lib.hid (sliceAt_new w1 5 (2, 3) #[.int .u8 61, .int .u8 51] [61, 51] rfl)
  go_wp2_with fail
  refine (decode_any _ [61, 51] _ (HA2.out.arg (cap := 2) (by decide) (by decide)) (by decide)).mono ?_
  rintro e w2 ⟨hb, u2, rfl, _⟩
  have e1 : decQ [61, 51] = none := by decide
  rw [e1]
  have HB12 : Hid (Below w1.heap.size w1 w2) := ((Below.refl _ _).alloc (Nat.le_refl _) _).trans (hb.mono (by simp))
  have HB2 : Hid (Below w.heap.size w w2) := HB.out.trans (HB12.out.mono HB.out.size)
  have HO2 := ownsRow_below HO.out HB12.out
  have hst := run_string_of_owned (P := Tryd.prog) Tryd.underlying22 Tryd.underlying5 Tryd.underlying9 HO2
  clear e1 hb HA HA2 HO HO2
  have HA3 := Lib.hid (sliceAt_new w2 5 (2, 3) #[.int .u8 97, .int .u8 61] [97, 61] rfl)
  go_wp2_with fail
  refine (encode_any _ [97, 61] _ (HA3.out.arg (cap := 2) (by decide) (by decide)) (by decide)).mono ?_
  rintro e w3 ⟨u3, rfl, hown, hb⟩
  have e1 : encQ [97, 61] = [97, 61, 51, 68] := by decide
  rw [e1] at hown
  have hst3 := run_string_of_owned (P := Tryd.prog) Tryd.underlying22 Tryd.underlying5 Tryd.underlying9 hown
  have HB3 : Hid (Below w.heap.size w w3) := HB2.out.trans ((((Below.refl _ _).alloc (Nat.le_refl _) _).trans (hb.mono (by simp))).mono HB2.out.size)
  clear e1 hown hb HA3
  go_wp2
  go_ret
  exact ⟨rfl, HB3.out⟩

set_option maxHeartbeats 1000000 in
theorem qpDecodes_any (v : Value) (l : List UInt8) (w : World) (hv : bytesArg w v l) :
    Calls Tryd.prog 3 #[v] w fun e w' => e = .returned (.bool true) ∧ Below w.heap.size w w' := by
  obtain ⟨ao, cap, rfl, hc, hm, hs⟩ := hv
  have HS : Hid (bytesArg w (.slice ao l.length cap) l) := ⟨ao, cap, rfl, hc, hm, hs⟩
  clear hs
  by_cases hl : 400 < l.length
  · go_enter Tryd.func3, Tryd.ntmps3
    go_wp2_with fail
    refine (awake_any _).mono ?_
    rintro e w1 ⟨rfl, hb1⟩
    have HB1 := Lib.hid hb1; clear hb1
    go_wp2
    go_ret
    exact ⟨rfl, HB1.out⟩
  · have hl' : l.length ≤ 400 := by omega
    clear hl
    go_enter Tryd.func3, Tryd.ntmps3
    go_wp2_with fail
    refine (awake_any _).mono ?_
    rintro e w1 ⟨rfl, hb1⟩
    have HB1 := Lib.hid hb1
    have HV := Lib.hid (HS.out.below hb1)
    clear hb1
    go_wp2_with fail
    refine (decode_any _ l _ HV.out (by omega)).mono ?_
    rintro e w2 ⟨hb2, u, rfl, hown2⟩
    have hcv2 := bytesArg_string (HV.out.below hb2)
    have HO2 := Lib.hid hown2
    have HB2 := Lib.hid (HB1.out.trans (hb2.mono HB1.out.size))
    clear hown2 hb2
    obtain ⟨B, hB⟩ : ∃ B : ByteArray, B = ⟨l.toArray⟩ := ⟨_, rfl⟩
    have hBl : B.size ≤ 400 := by rw [hB]; show (List.toArray l).size ≤ 400; simpa using hl'
    have HBL : Hid (B.data.toList = l) := by unfold Hid; rw [hB]
    rw [← hB] at hcv2
    clear hB
    go_wp2_with fail
    refine (refDecode_any B _ (by omega)).mono ?_
    rintro e w3 ⟨rfl, hb3⟩
    rw [HBL.out]
    have hst := run_string_of_owned (P := Tryd.prog) Tryd.underlying22 Tryd.underlying5 Tryd.underlying9 (ownsRow_below HO2.out hb3)
    have HB3 := Lib.hid (HB2.out.trans (hb3.mono HB2.out.size))
    obtain ⟨o, ho⟩ : ∃ o, o = decQ l := ⟨_, rfl⟩
    rw [← ho] at hst ⊢
    obtain ⟨O, hO⟩ : ∃ O : ByteArray, O = ⟨(o.getD []).toArray⟩ := ⟨_, rfl⟩
    obtain ⟨q, hq⟩ : ∃ q, q = o.isSome := ⟨_, rfl⟩
    rw [← hO] at hst
    rw [← hO, ← hq]
    clear hb3 hcv2 hO hq ho
    go_wp2
    go_ret
    exact ⟨rfl, HB3.out⟩
end Go.Proofs.YtdofnejgfcnnoaaDoor
