/- The laws of layer 2 (base64): B64Decodes. -/
import Derived.Test.YtgcdcodeaamlpaaDoorB64P
import Derived.Outline
import Derived.Deep.RegionHeld
namespace Go.Proofs.YtgcdcodeaamlpaaDoor
open Go Go.RowKit

set_option maxHeartbeats 4000000 in
theorem b64Decodes_any (v : Value) (l : List UInt8) (w : World) (hv : bytesArg w v l) (ht : lets w) :
    Calls Tryd.prog 4 #[v] w fun e w' => e = .returned (.bool true) ∧ Below w.heap.size w w' := by
  obtain ⟨ao, cap, rfl, hc, hm, hs⟩ := hv
  have HS : Hid (bytesArg w (.slice ao l.length cap) l) := ⟨ao, cap, rfl, hc, hm, hs⟩
  have HT := Lib.hid ht
  clear hs ht
  by_cases hl : 300 < l.length
  · go_enter Tryd.func4, Tryd.ntmps4
    go_wp2_with fail
    refine (awake_any _ HT.out).mono ?_
    rintro e w1 ⟨rfl, hb1⟩
    have HB1 := Lib.hid hb1; clear hb1
    go_wp2
    go_ret
    exact ⟨rfl, HB1.out⟩
  · have hl' : l.length ≤ 300 := by omega
    clear hl
    go_enter Tryd.func4, Tryd.ntmps4
    go_wp2_with fail
    refine (awake_any _ HT.out).mono ?_
    rintro e w1 ⟨rfl, hb1⟩
    have HB1 := Lib.hid hb1
    have HV := Lib.hid (fun W' (hb' : Below w1.heap.size w1 W') => bytesArg_string ((HS.out.below hb1).below hb'))
    clear hb1
    obtain ⟨B, hB⟩ : ∃ B : ByteArray, B = ⟨l.toArray⟩ := ⟨_, rfl⟩
    have hBl : B.size ≤ 300 := by rw [hB]; show (List.toArray l).size ≤ 300; simpa using hl'
    have HBL : Hid (B.data.toList = l) := by unfold Hid; rw [hB]
    rw [← hB] at HV
    clear hB
    go_wp2_with fail
    refine (decode_any _ l _ (HS.out.below HB1.out) (by omega) (HT.out.below HB1.out)).mono ?_
    rintro e w2 ⟨u, rfl, hown2, hb2⟩
    have hcv2 := HV.out w2 hb2
    have HO2 := Lib.hid hown2
    have HB12 := Lib.hid hb2
    clear hown2 hb2
    go_wp2_with fail
    refine (refDecode_any B _ (by omega)).mono ?_
    rintro e w3 ⟨rfl, hb3⟩
    rw [HBL.out]
    obtain ⟨o, ho⟩ : ∃ o, o = decS (bareS l) := ⟨_, rfl⟩
    rw [← ho] at HO2 ⊢
    obtain ⟨O, hO⟩ : ∃ O : ByteArray, O = ⟨(o.getD []).toArray⟩ := ⟨_, rfl⟩
    have HU := Lib.hid (fun W' (hb' : Below w3.heap.size w3 W') => run_string_of_owned (P := Tryd.prog) Tryd.underlying22 Tryd.underlying5 Tryd.underlying9 (ownsRow_below (ownsRow_below HO2.out hb3) hb'))
    obtain ⟨q, hq⟩ : ∃ q, q = o.isSome := ⟨_, rfl⟩
    rw [← hO, ← hq]
    rw [← hO] at HU
    have HB13 : Hid (Below w1.heap.size w1 w3) := HB12.out.trans (hb3.mono HB12.out.size)
    have HV3 := Lib.hid (fun W' (hb' : Below w3.heap.size w3 W') => HV.out W' (HB13.out.trans (hb'.mono HB13.out.size)))
    clear hb3 hcv2 hO hq ho HV
    have HE := Lib.hid (bare_any _ l w3.drew ((HS.out.below HB1.out).below HB13.out.drew) (by omega))
    have hB3 : Below w3.heap.size w3 w3.drew := (Below.refl _ _).drew
    go_wp2_with fail
    go_region_held (fun W' => (convert 22 9 u).run Tryd.prog W' = .ok (.string O) W' ∧ (convert 22 9 (.slice ao l.length cap)).run Tryd.prog W' = .ok (.string B) W') (exact ⟨HU.out _ (by assumption), HV3.out _ (by assumption)⟩)
      ((first | (go_at_call 13; refine HE.out.mono ?_; rintro e w4 ⟨u4, rfl, hown4, hb4⟩; have hB4 : Below w3.heap.size w3 w4 := hB3.trans hb4; have hst4 := run_string_of_owned (P := Tryd.prog) Tryd.underlying22 Tryd.underlying5 Tryd.underlying9 hown4) | (go_at_call 14; refine (refBare_any B _ (by omega)).mono ?_; rintro e w5 ⟨T, rfl, hT, hb5⟩; have hB5 : Below w3.heap.size w3 w5 := hB4.trans (hb5.mono hB4.size); have hst5 := run_string_of_owned (P := Tryd.prog) Tryd.underlying22 Tryd.underlying5 Tryd.underlying9 (ownsRow_below hown4 hb5))))
    all_goals
      have ht : (bareS l == T.toList) = true := lst_eq (by rw [hT, HBL.out])
      rw [ht]
      have HB5 := Lib.hid (HB1.out.trans ((HB13.out.trans (hB5.mono HB13.out.size)).mono HB1.out.size))
      clear ht hT hst4 hst5 hB5 hB4 hB3 hb4 hb5 hown4
      go_wp2
      go_ret
      exact ⟨rfl, HB5.out⟩
end Go.Proofs.YtgcdcodeaamlpaaDoor
