/- The laws of layer 2 (base64): B64Long. -/
import Derived.Test.YtgcdcodeaamlpaaDoorB64P
import Derived.Outline
import Derived.Deep.RegionWith
namespace Go.Proofs.YtgcdcodeaamlpaaDoor
open Go Go.RowKit

set_option maxRecDepth 100000 in
set_option maxHeartbeats 4000000 in
theorem b64Long_any (v : Value) (l : List UInt8) (wd : UInt8) (w : World) (hv : bytesArg w v l) (ht : lets w) :
    Calls Tryd.prog 7 #[v, .int .u8 (wd.toNat : Int)] w fun e w' => e = .returned (.bool true) ∧ Below w.heap.size w w' := by
  obtain ⟨ao, cap, rfl, hc, hm, hs⟩ := hv
  have HS : Hid (bytesArg w (.slice ao l.length cap) l) := ⟨ao, cap, rfl, hc, hm, hs⟩
  have HT := Lib.hid ht
  clear hs ht
  have hwd := wd.toNat_lt
  by_cases hl : 300 < l.length
  · go_enter Tryd.func7, Tryd.ntmps7
    go_wp2_with fail
    refine (awake_any _ HT.out).mono ?_
    rintro e w1 ⟨rfl, hb1⟩
    have HB1 := Lib.hid hb1; clear hb1
    go_wp2
    go_ret
    exact ⟨rfl, HB1.out⟩
  · have hl' : l.length ≤ 300 := by omega
    clear hl
    obtain ⟨E, hE⟩ : ∃ E, E = encS l := ⟨_, rfl⟩
    have hEN : E.length = (l.length + 2) / 3 * 4 := by rw [hE, enc_len]
    obtain ⟨N, hN⟩ : ∃ N, N = E.length := ⟨_, rfl⟩
    have hn : ((l.length : Int) + 2) / 3 * 4 = (N : Int) := by omega
    have hNl : N ≤ 404 := by omega
    have HEE := Lib.hid hE
    have HNN := Lib.hid hN
    clear hE hN hEN
    go_enter Tryd.func7, Tryd.ntmps7
    go_wp2_with fail
    refine (awake_any _ HT.out).mono ?_
    rintro e w1 ⟨rfl, hb1⟩
    have HB1 := Lib.hid hb1; clear hb1
    go_wp2_with fail
    refine (encode_any _ l 0 _ (HS.out.below HB1.out) (by omega) (by decide) (by decide) (HT.out.below HB1.out)).mono ?_
    rintro e w2 ⟨u2, rfl, hown2, hb2⟩
    have e2 : lineS 0 (encS l) = E := by rw [HEE.out]; rfl
    rw [e2] at hown2
    obtain ⟨a2, c2, rfl, hc2, hm2, _⟩ := bytesArg_owned hown2
    rw [← HNN.out] at hc2 ⊢
    have HB2 : Hid (Below w.heap.size w w2) := HB1.out.trans (hb2.mono HB1.out.size)
    clear hown2 hb2 e2
    go_wp2_with fail
    refine (encode_any _ l (-5) _ (HS.out.below HB2.out) (by omega) (by decide) (by decide) (HT.out.below HB2.out)).mono ?_
    rintro e w3 ⟨u3, rfl, hown3, hb3⟩
    have e3 : lineS (-5) (encS l) = E := by rw [HEE.out]; rfl
    rw [e3] at hown3
    obtain ⟨a3, c3, rfl, hc3, hm3, _⟩ := bytesArg_owned hown3
    rw [← HNN.out] at hc3 ⊢
    have HB3 : Hid (Below w.heap.size w w3) := HB2.out.trans (hb3.mono HB2.out.size)
    clear hown3 hb3 e3
    obtain ⟨W, hW⟩ : ∃ W : Nat, W = wd.toNat + 1 := ⟨_, rfl⟩
    have hW1 : 1 ≤ W := by omega
    have hW2 : W ≤ 256 := by omega
    have hW3 : ((wd.toNat : Int) + 1) = (W : Int) := by omega
    obtain ⟨C, hC⟩ : ∃ C, C = cutL W E := ⟨_, rfl⟩
    obtain ⟨M, hM⟩ : ∃ M, M = (N + W - 1) / W := ⟨_, rfl⟩
    have hCl : C.length = N + 2 * M := by rw [hC, cut_len W (by omega), ← HNN.out, hM]
    have hM2 : ((N : Int) + (W : Int) - 1) / (W : Int) = (M : Int) := by
      rw [hM, Int.natCast_ediv]
      congr 1
      omega
    have hMl : M ≤ 660 := by
      rw [hM]
      exact Nat.le_trans (Nat.div_le_self _ _) (by omega)
    have HWW := Lib.hid hW
    have HCC := Lib.hid hC
    have HMM := Lib.hid hM
    have HCL := Lib.hid hCl
    clear hW hC hM hCl
    go_wp2_with fail
    refine (encode_any _ l (W : Int) _ (HS.out.below HB3.out) (by omega) (by omega) (by omega) (HT.out.below HB3.out)).mono ?_
    rintro e w4 ⟨u4, rfl, hown4, hb4⟩
    have e4 : lineS (W : Int) (encS l) = C := by
      unfold lineS
      rw [if_pos (by omega), HCC.out, HEE.out]
      rfl
    rw [e4] at hown4
    have HO4 := Lib.hid hown4
    have hA4 := bytesArg_owned hown4
    obtain ⟨a4, c4, rfl, hc4, hm4, hs4⟩ := hA4
    unfold maxLen at hm4
    have HS4 := Lib.hid hs4
    have HCL' := HCL.out
    rw [HCL'] at hc4 ⊢
    have HB4 : Hid (Below w.heap.size w w4) := HB3.out.trans (hb4.mono HB3.out.size)
    clear hown4 hb4 e4 hs4 HCL'
    have HNil : Hid (0 < M → ∃ b off, a4 = some ⟨b, off, none⟩ ∧ ∀ j x, C[j]? = some x → w4.cell? ⟨b, off + j, none⟩ = some (byteV x)) := by
      intro h
      rcases HS4.out with e | ⟨b, off, e, _, hc⟩
      · have := HCL.out
        rw [e] at this
        simp at this
        omega
      · refine ⟨b, off, e, fun j x hx => ?_⟩
        obtain ⟨hj, rfl⟩ := List.getElem?_eq_some_iff.1 hx
        exact hc j hj
    go_wp2_with fail
    rw [hM2]
    clear hM2 hn hW3
    go_loopg [10, 11] M (fun g v _ wr => ∃ i : Nat, i ≤ M ∧ g = M - i ∧ v = .int .i64 i ∧ w4 = wr)
    case atStart => exact ⟨0, Nat.zero_le _, rfl, rfl, rfl⟩
    case round =>
      obtain ⟨i, hi, rfl, rfl, rfl⟩ := hrel
      by_cases hlt : i + 1 < M
      · obtain ⟨b, off, rfl, hcell⟩ := HNil.out (by omega)
        obtain ⟨P, hP⟩ : ∃ P, P = i * (W + 2) := ⟨_, rfl⟩
        have hp : (i : Int) * ((W : Int) + 2) = (P : Int) := by rw [hP, Int.natCast_mul]; rfl
        have hle : (i + 1) * W ≤ N := by
          have h1 : (i + 2) * W ≤ M * W := Nat.mul_le_mul_right _ (by omega)
          have h2 : M * W ≤ N + W - 1 := by rw [HMM.out]; exact Nat.div_mul_le_self _ _
          have h3 : (i + 2) * W = (i + 1) * W + W := Nat.succ_mul _ _
          omega
        have hle' : (i + 1) * W = i * W + W := Nat.succ_mul _ _
        have hPe : P = i * W + 2 * i := by rw [hP, Nat.mul_add]; omega
        have hPl : P + W + 1 < N + 2 * M := by omega
        obtain ⟨h13, h10⟩ := cut_at W (by omega) i E (by rw [← HNN.out]; exact hle)
        rw [← HCC.out, ← hP] at h13 h10
        have hc13 : w4.cell? ⟨b, off + (P + W), none⟩ = some (.int .u8 13) := hcell _ _ h13
        have hc10 : w4.cell? ⟨b, off + (P + W + 1), none⟩ = some (.int .u8 10) := hcell _ _ h10
        clear hcell hP hle hle' hPe h13 h10
        go_wp2
        go_roundg (M - (i + 1))
        case measure => omega
        case rel => exact ⟨i + 1, by omega, rfl, by go_num, rfl⟩
      · have HBa := Lib.hid (bare_any _ C w4.drew ((HO4.out |> bytesArg_owned).below ((Below.refl w4.heap.size w4).drew)) (by rw [HCL.out]; omega))
        have hbE : bareS C = E := by rw [HCC.out, bareS_cut _ (by omega), HEE.out, bareS_enc]
        have HE0 : Hid (lineS 0 (encS l) = E) := by unfold Hid; rw [HEE.out]; rfl
        rw [HCL.out, hbE] at HBa
        have HSl : Hid (∀ W', Below w4.heap.size w4 W' → bytesArg W' (.slice ao l.length cap) l ∧ lets W') := fun W' hb => ⟨(HS.out.below HB4.out).below hb, (HT.out.below HB4.out).below hb⟩
        clear hbE hc2 hm2 hc3 hm3
        go_wp2_with fail
        go_region_with (first | (go_at_call 13; refine HBa.out.mono ?_; rintro e w5 ⟨u5, rfl, hown5, hb5⟩; have hB5 := Lib.hid ((Below.refl w4.heap.size w4).drew.trans hb5); have hst5 := run_string_of_owned (P := Tryd.prog) Tryd.underlying22 Tryd.underlying5 Tryd.underlying9 hown5; have HO5 := Lib.hid hown5; clear hown5 hb5) | (go_at_call 9; refine (encode_any _ l 0 _ (HSl.out _ hB5.out).1 (by omega) (by decide) (by decide) (HSl.out _ hB5.out).2).mono ?_; rintro e w6 ⟨u6, rfl, hown6, hb6⟩; rw [HE0.out] at hown6; have hst6 := run_string_of_owned (P := Tryd.prog) Tryd.underlying22 Tryd.underlying5 Tryd.underlying9 hown6; have hst5' := run_string_of_owned (P := Tryd.prog) Tryd.underlying22 Tryd.underlying5 Tryd.underlying9 (ownsRow_below HO5.out hb6); have hB6 := Lib.hid (hB5.out.trans (hb6.mono hB5.out.size)); clear hown6 hb6))
        all_goals
          clear hst5 hst5' hst6
          go_wp2
          go_ret
          exact ⟨rfl, HB4.out.trans (hB6.out.mono HB4.out.size)⟩
end Go.Proofs.YtgcdcodeaamlpaaDoor
