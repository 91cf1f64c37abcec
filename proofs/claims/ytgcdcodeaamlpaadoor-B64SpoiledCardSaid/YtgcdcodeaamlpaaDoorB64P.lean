/- The laws of layer 2 (base64): B64Encodes, B64Decodes. -/
import Derived.Test.YtgcdcodeaamlpaaDoorB64O
import Derived.Outline
import Derived.Deep.RegionWith
namespace Go.Proofs.YtgcdcodeaamlpaaDoor
open Go Go.RowKit

theorem lst_eq {a : List UInt8} {b : ByteArray} (h : b.data.toList = a) : (a == b.toList) = true := by
  rw [ByteArray.toList_eq, h]
  simp

set_option maxHeartbeats 1000000 in
theorem b64Encodes_any (v : Value) (l : List UInt8) (wd : Int) (w : World) (hv : bytesArg w v l) (h1 : -9223372036854775808 ≤ wd) (h2 : wd ≤ 9223372036854775807) (ht : lets w) :
    Calls Tryd.prog 3 #[v, .int .i64 wd] w fun e w' => e = .returned (.bool true) ∧ Below w.heap.size w w' := by
  obtain ⟨ao, cap, rfl, hc, hm, hs⟩ := hv
  have HS : Hid (bytesArg w (.slice ao l.length cap) l) := ⟨ao, cap, rfl, hc, hm, hs⟩
  have HT := Lib.hid ht
  clear hs ht
  by_cases hl : 300 < l.length
  · go_enter Tryd.func3, Tryd.ntmps3
    go_wp2_with fail
    refine (awake_any _ HT.out).mono ?_
    rintro e w1 ⟨rfl, hb1⟩
    have HB1 := Lib.hid hb1; clear hb1
    go_wp2
    go_ret
    exact ⟨rfl, HB1.out⟩
  · have hl' : l.length ≤ 300 := by omega
    clear hl
    go_enter Tryd.func3, Tryd.ntmps3
    go_wp2_with fail
    refine (awake_any _ HT.out).mono ?_
    rintro e w1 ⟨rfl, hb1⟩
    have HB1 := Lib.hid hb1
    have HV := Lib.hid (fun W' (hb' : Below w1.heap.size w1 W') => bytesArg_string ((HS.out.below hb1).below hb'))
    have HE := Lib.hid (encode_any _ l wd w1.drew (HS.out.below hb1.drew) (by omega) h1 h2 (HT.out.below hb1.drew))
    clear hb1
    obtain ⟨B, hB⟩ : ∃ B : ByteArray, B = ⟨l.toArray⟩ := ⟨_, rfl⟩
    have hBl : B.size ≤ 300 := by rw [hB]; show (List.toArray l).size ≤ 300; simpa using hl'
    have HBL : Hid (B.data.toList = l) := by unfold Hid; rw [hB]
    rw [← hB] at HV
    clear hB
    have hcv := HV.out w1.drew (Below.refl _ _).drew
    go_wp2_with fail
    go_region_with (first | (go_at_call 9; refine HE.out.mono ?_; rintro e w2 ⟨u, rfl, hown2, hb2⟩; have hst := run_string_of_owned (P := Tryd.prog) Tryd.underlying22 Tryd.underlying5 Tryd.underlying9 hown2; have hcv2 := HV.out w2 ((Below.refl _ _).drew.trans hb2)) | (go_at_call 10; refine (refEncode_any B wd _ (by omega) h1 h2).mono ?_; rintro e w3 ⟨T, rfl, hT, rfl⟩))
    all_goals
      have HTT := Lib.hid hT
      have HB2 := Lib.hid (HB1.out.trans (((Below.refl w1.heap.size w1).drew.trans hb2).mono HB1.out.size))
      have HBL2 := HBL
      clear hst hcv2 hcv hT
      go_wp2
      go_ret
      exact ⟨ret_bool (lst_eq (by rw [HTT.out, HBL2.out])), HB2.out⟩
end Go.Proofs.YtgcdcodeaamlpaaDoor
