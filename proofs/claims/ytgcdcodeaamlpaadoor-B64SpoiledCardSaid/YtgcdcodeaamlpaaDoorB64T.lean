/- The laws of layer 2 (base64): B64Spoiled. -/
import Derived.Test.YtgcdcodeaamlpaaDoorB64P
import Derived.Outline
import Derived.Deep.RegionHeld
namespace Go.Proofs.YtgcdcodeaamlpaaDoor
open Go Go.RowKit

theorem below_drewN' {w : World} (n : Nat) : Below w.heap.size w (w.drewN n) := ⟨rfl, rfl, rfl, Nat.le_refl _, fun _ _ => rfl⟩

set_option maxRecDepth 100000 in
set_option maxHeartbeats 40000000 in
theorem b64Spoiled_any (v : Value) (l : List UInt8) (at_ : Nat) (x : UInt8) (cut : Bool) (w : World) (hv : bytesArg w v l) (hat : at_ ≤ 65535) (ht : lets w) :
    Calls Tryd.prog 6 #[v, .int .u16 (at_ : Int), .int .u8 (x.toNat : Int), .bool cut] w fun e w' => e = .returned (.bool true) ∧ Below w.heap.size w w' := by
  obtain ⟨i0, hi0, hz0, hz1, hz2⟩ := info_parts Tryd.infoU8
  obtain ⟨ao, cap, rfl, hc, hm, hs⟩ := hv
  have HS : Hid (bytesArg w (.slice ao l.length cap) l) := ⟨ao, cap, rfl, hc, hm, hs⟩
  have HT := Lib.hid ht
  clear hs ht
  have hl : (l.length = 0) ∨ (0 < l.length ∧ 200 < l.length) ∨ (0 < l.length ∧ l.length ≤ 200) := by omega
  rcases hl with hl | ⟨hl, hl2⟩ | ⟨hl, hl2⟩
  · have hq : ((l.length : Int) == 0) = true := beq_yes (by omega)
    clear hl
    go_enter Tryd.func6, Tryd.ntmps6
    go_wp2_with fail
    refine (awake_any _ HT.out).mono ?_
    rintro e w1 ⟨rfl, hb1⟩
    have HB1 := Lib.hid hb1; clear hb1
    go_wp2
    go_ret
    exact ⟨rfl, HB1.out⟩
  · have hq : ((l.length : Int) == 0) = false := beq_no (by omega)
    go_enter Tryd.func6, Tryd.ntmps6
    go_wp2_with fail
    refine (awake_any _ HT.out).mono ?_
    rintro e w1 ⟨rfl, hb1⟩
    have HB1 := Lib.hid hb1; clear hb1
    go_wp2
    go_ret
    exact ⟨rfl, HB1.out⟩
  · have hq : ((l.length : Int) == 0) = false := beq_no (by omega)
    obtain ⟨E, hE⟩ : ∃ E, E = encS l := ⟨_, rfl⟩
    have hEN : E.length = (l.length + 2) / 3 * 4 := by rw [hE, enc_len]
    obtain ⟨N, hN⟩ : ∃ N, N = E.length := ⟨_, rfl⟩
    have hN0 : 0 < N := by omega
    have hNl : N ≤ 268 := by omega
    have hN1 : ((N : Int) == 0) = false := beq_no (by omega)
    obtain ⟨K, hK⟩ : ∃ K, K = at_ % N := ⟨_, rfl⟩
    have hK1 : K < N := by rw [hK]; exact Nat.mod_lt _ hN0
    have hK2 : (at_ : Int) % (N : Int) = (K : Int) := by rw [hK, Int.natCast_emod]
    have HEE := Lib.hid hE
    have HNN := Lib.hid hN
    clear hE hN hEN hK
    go_enter Tryd.func6, Tryd.ntmps6
    go_wp2_with fail
    refine (awake_any _ HT.out).mono ?_
    rintro e w1 ⟨rfl, hb1⟩
    have HB1 := Lib.hid hb1; clear hb1
    go_wp2_with fail
    refine (encode_any _ l 0 _ (HS.out.below HB1.out) (by omega) (by decide) (by decide) (HT.out.below HB1.out)).mono ?_
    rintro e w2 ⟨u2, rfl, hown2, hb2⟩
    have e2 : lineS 0 (encS l) = E := by rw [HEE.out]; rfl
    rw [e2] at hown2
    obtain ⟨a2, c2, rfl, hc2, hm2, hs2⟩ := bytesArg_owned hown2
    unfold maxLen at hm2
    rw [← HNN.out] at hc2 ⊢
    have HB2 : Hid (Below w.heap.size w w2) := HB1.out.trans (hb2.mono HB1.out.size)
    have HS2 : Hid (sliceAt w2 a2 E) := hs2
    rcases hs2 with e | ⟨b, off, rfl, hb, _⟩
    · have := HNN.out
      rw [e] at this
      simp at this
      omega
    clear hown2 hb2 e2
    go_wp2_with (at_builtin; refine wpList_append_own _ rfl _ _ 22 rfl w2.heap.size 5 i0 (.int .u8 0) 1 1 Tryd.underlying22 hi0 hz0 hz1 hz2 rfl (by decide) _ _ _ rfl (World.ownsRow_nil _ _ _ _) ⟨b, off, none⟩ K c2 ((E.take K).map byteV) rfl (by have := HNN.out; simp; omega) ?c1 ?c2 ?c3 ?c4 ?c5 ?_)
    case c1 => exact (sliceAt.take HS2.out K).news
    case c2 => exact news_one _
    case c3 => unfold maxLen; omega
    case c4 => omega
    case c5 => exact Nat.le_refl _
    intro v3 w3 hown3 hgrow3 _
    have HO3 := Lib.hid hown3
    have HB3 : Hid (Below w2.heap.size w2 w3) := (Below.refl _ _).grown hgrow3 (Nat.le_refl _) (fun q hq => by simp [Value.ownBlock] at hq)
    clear hown3 hgrow3
    by_cases hcap : c2 = K + 1
    · subst hcap
      cases cut
      · go_wp2_with (at_builtin; refine wpList_append_own _ rfl _ _ 22 rfl w2.heap.size 5 i0 (.int .u8 0) 1 1 Tryd.underlying22 hi0 hz0 hz1 hz2 rfl (by decide) _ _ _ rfl (HO3.out.alloc _) ⟨w3.heap.size, 0, none⟩ 1 1 [byteV x] rfl rfl ?c1 ?c2 ?c3 ?c4 ?c5 ?_)
        case c1 => exact cell_one_new w3 _ _
        case c2 => exact news_one [x]
        case c3 => unfold maxLen; omega
        case c4 => omega
        case c5 => simp; have := HB3.out.size; omega
        intro v4 w4 hown4 hgrow4 _
        have HO4 := Lib.hid hown4
        have HB4 : Hid (Below w2.heap.size w2 w4) := (HB3.out.alloc (by have := HB3.out.size; omega) _).grown hgrow4 (by have := HB3.out.size; simp; omega) (fun q hq => (HO3.out.lt q hq).1)
        clear hown4 hgrow4
        go_wp2_with (at_builtin; refine wpList_append_own _ rfl _ _ 22 rfl w2.heap.size 5 i0 (.int .u8 0) 1 1 Tryd.underlying22 hi0 hz0 hz1 hz2 rfl (by decide) _ _ _ rfl HO4.out ⟨b, off, none⟩ 0 0 [] rfl rfl ?c1 ?c2 ?c3 ?c4 ?c5 ?_)
        case c1 => intro j u hu; simp at hu
        case c2 => intro u hu; simp at hu
        case c3 => unfold maxLen; omega
        case c4 => omega
        case c5 => exact HB4.out.size
        intro v5 w5 hown5 hgrow5 _
        have HB5 : Hid (Below w2.heap.size w2 w5) := HB4.out.grown hgrow5 HB4.out.size (fun q hq => (HO4.out.lt q hq).1)
        obtain ⟨F, hF⟩ : ∃ F, F = E.take K ++ [x] ++ E.drop (K + 1) := ⟨_, rfl⟩
        have HO5 : Hid (w5.ownsRow w2.heap.size 5 1 v5 F.length (F.map byteV)) := own_cast hown5 (by have := HNN.out; rw [hF]; simp; omega) (by have := HNN.out; rw [hF, List.drop_eq_nil_of_le (by omega)]; simp)
        have hFl : F.length ≤ 300 := by have := HNN.out; rw [hF]; simp; omega
        clear hown5 hgrow5 hF
        have HD := Lib.hid (decode_any _ F w5 (bytesArg_owned HO5.out) (by omega) ((HT.out.below HB2.out).below HB5.out))
        obtain ⟨B, hB⟩ : ∃ B : ByteArray, B = ⟨F.toArray⟩ := ⟨_, rfl⟩
        have hBl : B.size ≤ 300 := by rw [hB]; show (List.toArray F).size ≤ 300; simpa using hFl
        have HBL : Hid (B.data.toList = F) := by unfold Hid; rw [hB]
        obtain ⟨o, ho⟩ : ∃ o, o = decS (bareS F) := ⟨_, rfl⟩
        rw [← ho] at HD
        go_wp2_with fail
        refine HD.out.mono ?_
        rintro e w6 ⟨u6, rfl, hown6, hb6⟩
        have hcv := run_string_of_owned (P := Tryd.prog) Tryd.underlying22 Tryd.underlying5 Tryd.underlying9 (ownsRow_below HO5.out hb6)
        rw [← hB] at hcv
        have HO6 := Lib.hid hown6
        have HB56 := Lib.hid hb6
        clear hown6 hb6 hB HD
        go_wp2_with fail
        refine (refDecode_any B _ (by omega)).mono ?_
        rintro e w7 ⟨rfl, hb7⟩
        rw [HBL.out, ← ho]
        have HB57 : Hid (Below w5.heap.size w5 w7) := HB56.out.trans (hb7.mono HB56.out.size)
        have HB7 : Hid (Below w.heap.size w w7) := HB2.out.trans ((HB5.out.trans (HB57.out.mono HB5.out.size)).mono HB2.out.size)
        obtain ⟨O, hO⟩ : ∃ O : ByteArray, O = ⟨(o.getD []).toArray⟩ := ⟨_, rfl⟩
        have HU := Lib.hid (fun W' (hb' : Below w7.heap.size w7 W') => run_string_of_owned (P := Tryd.prog) Tryd.underlying22 Tryd.underlying5 Tryd.underlying9 (ownsRow_below (ownsRow_below HO6.out hb7) hb'))
        rw [← hO] at HU ⊢
        have hB7d : Below w7.heap.size w7 w7.drew := (Below.refl _ _).drew
        have HOH := Lib.hid ho
        clear hcv hO ho
        rcases o with _ | c
        · have hq7 := fun n => HU.out (w7.drewN n) (below_drewN' n)
          clear hb7 hB7d
          go_wp2_with fail
          go_quiet (fail)
          go_wp2
          go_ret
          exact ⟨rfl, HB7.out.trans ((below_drewN' _).mono HB7.out.size)⟩
        · have henc : encS c = bareS F := enc_dec _ _ HOH.out.symm
          have hcl : c.length ≤ 300 := by
            have h1 := enc_len c
            have h2 := bareS_len F
            rw [henc] at h1
            omega
          have HEn := Lib.hid (encode_any u6 c 0 w7.drew (bytesArg_owned (ownsRow_below (ownsRow_below HO6.out hb7) hB7d)) (by omega) (by decide) (by decide) ((HT.out.below HB7.out).below hB7d))
          have e0 : lineS 0 (encS c) = bareS F := by rw [henc]; rfl
          rw [e0] at HEn
          have HBa := Lib.hid (fun W' (hb' : Below w7.heap.size w7 W') => bare_any v5 F W' (bytesArg_owned (ownsRow_below (ownsRow_below HO5.out HB57.out) hb')) (by omega))
          clear hb7 henc e0
          go_wp2_with fail
          go_region_held (fun W' => (convert 22 9 u6).run Tryd.prog W' = .ok (.string O) W') (exact HU.out _ (by assumption))
            ((first | (go_at_call 9; refine HEn.out.mono ?_; rintro e w8 ⟨u8, rfl, hown8, hb8⟩; have hB8 : Below w7.heap.size w7 w8 := hB7d.trans hb8; have hst8 := run_string_of_owned (P := Tryd.prog) Tryd.underlying22 Tryd.underlying5 Tryd.underlying9 hown8) | (go_at_call 13; refine (HBa.out _ hB8).mono ?_; rintro e w9 ⟨u9, rfl, hown9, hb9⟩; have hB9 : Below w7.heap.size w7 w9 := hB8.trans (hb9.mono hB8.size); have hst9 := run_string_of_owned (P := Tryd.prog) Tryd.underlying22 Tryd.underlying5 Tryd.underlying9 (ownsRow_below hown8 hb9); have hst9' := run_string_of_owned (P := Tryd.prog) Tryd.underlying22 Tryd.underlying5 Tryd.underlying9 hown9)))
          all_goals
            have HB9 := Lib.hid (HB7.out.trans (hB9.mono HB7.out.size))
            clear hst8 hst9 hst9' hown8 hown9 hb8 hb9 hB7d hB8 hB9
            go_wp2
            go_ret
            exact ⟨rfl, HB9.out⟩
      · go_wp2_with (at_builtin; refine wpList_append_own _ rfl _ _ 22 rfl w2.heap.size 5 i0 (.int .u8 0) 1 1 Tryd.underlying22 hi0 hz0 hz1 hz2 rfl (by decide) _ _ _ rfl HO3.out ⟨b, off, none⟩ 0 0 [] rfl rfl ?c1 ?c2 ?c3 ?c4 ?c5 ?_)
        case c1 => intro j u hu; simp at hu
        case c2 => intro u hu; simp at hu
        case c3 => unfold maxLen; omega
        case c4 => omega
        case c5 => exact HB3.out.size
        intro v5 w5 hown5 hgrow5 _
        have HB5 : Hid (Below w2.heap.size w2 w5) := HB3.out.grown hgrow5 HB3.out.size (fun q hq => (HO3.out.lt q hq).1)
        obtain ⟨F, hF⟩ : ∃ F, F = E.take K ++ E.drop (K + 1) := ⟨_, rfl⟩
        have HO5 : Hid (w5.ownsRow w2.heap.size 5 1 v5 F.length (F.map byteV)) := own_cast hown5 (by have := HNN.out; rw [hF]; simp; omega) (by have := HNN.out; rw [hF, List.drop_eq_nil_of_le (by omega)]; simp)
        have hFl : F.length ≤ 300 := by have := HNN.out; rw [hF]; simp; omega
        clear hown5 hgrow5 hF
        have HD := Lib.hid (decode_any _ F w5 (bytesArg_owned HO5.out) (by omega) ((HT.out.below HB2.out).below HB5.out))
        obtain ⟨B, hB⟩ : ∃ B : ByteArray, B = ⟨F.toArray⟩ := ⟨_, rfl⟩
        have hBl : B.size ≤ 300 := by rw [hB]; show (List.toArray F).size ≤ 300; simpa using hFl
        have HBL : Hid (B.data.toList = F) := by unfold Hid; rw [hB]
        obtain ⟨o, ho⟩ : ∃ o, o = decS (bareS F) := ⟨_, rfl⟩
        rw [← ho] at HD
        go_wp2_with fail
        refine HD.out.mono ?_
        rintro e w6 ⟨u6, rfl, hown6, hb6⟩
        have hcv := run_string_of_owned (P := Tryd.prog) Tryd.underlying22 Tryd.underlying5 Tryd.underlying9 (ownsRow_below HO5.out hb6)
        rw [← hB] at hcv
        have HO6 := Lib.hid hown6
        have HB56 := Lib.hid hb6
        clear hown6 hb6 hB HD
        go_wp2_with fail
        refine (refDecode_any B _ (by omega)).mono ?_
        rintro e w7 ⟨rfl, hb7⟩
        rw [HBL.out, ← ho]
        have HB57 : Hid (Below w5.heap.size w5 w7) := HB56.out.trans (hb7.mono HB56.out.size)
        have HB7 : Hid (Below w.heap.size w w7) := HB2.out.trans ((HB5.out.trans (HB57.out.mono HB5.out.size)).mono HB2.out.size)
        obtain ⟨O, hO⟩ : ∃ O : ByteArray, O = ⟨(o.getD []).toArray⟩ := ⟨_, rfl⟩
        have HU := Lib.hid (fun W' (hb' : Below w7.heap.size w7 W') => run_string_of_owned (P := Tryd.prog) Tryd.underlying22 Tryd.underlying5 Tryd.underlying9 (ownsRow_below (ownsRow_below HO6.out hb7) hb'))
        rw [← hO] at HU ⊢
        have hB7d : Below w7.heap.size w7 w7.drew := (Below.refl _ _).drew
        have HOH := Lib.hid ho
        clear hcv hO ho
        rcases o with _ | c
        · have hq7 := fun n => HU.out (w7.drewN n) (below_drewN' n)
          clear hb7 hB7d
          go_wp2_with fail
          go_quiet (fail)
          go_wp2
          go_ret
          exact ⟨rfl, HB7.out.trans ((below_drewN' _).mono HB7.out.size)⟩
        · have henc : encS c = bareS F := enc_dec _ _ HOH.out.symm
          have hcl : c.length ≤ 300 := by
            have h1 := enc_len c
            have h2 := bareS_len F
            rw [henc] at h1
            omega
          have HEn := Lib.hid (encode_any u6 c 0 w7.drew (bytesArg_owned (ownsRow_below (ownsRow_below HO6.out hb7) hB7d)) (by omega) (by decide) (by decide) ((HT.out.below HB7.out).below hB7d))
          have e0 : lineS 0 (encS c) = bareS F := by rw [henc]; rfl
          rw [e0] at HEn
          have HBa := Lib.hid (fun W' (hb' : Below w7.heap.size w7 W') => bare_any v5 F W' (bytesArg_owned (ownsRow_below (ownsRow_below HO5.out HB57.out) hb')) (by omega))
          clear hb7 henc e0
          go_wp2_with fail
          go_region_held (fun W' => (convert 22 9 u6).run Tryd.prog W' = .ok (.string O) W') (exact HU.out _ (by assumption))
            ((first | (go_at_call 9; refine HEn.out.mono ?_; rintro e w8 ⟨u8, rfl, hown8, hb8⟩; have hB8 : Below w7.heap.size w7 w8 := hB7d.trans hb8; have hst8 := run_string_of_owned (P := Tryd.prog) Tryd.underlying22 Tryd.underlying5 Tryd.underlying9 hown8) | (go_at_call 13; refine (HBa.out _ hB8).mono ?_; rintro e w9 ⟨u9, rfl, hown9, hb9⟩; have hB9 : Below w7.heap.size w7 w9 := hB8.trans (hb9.mono hB8.size); have hst9 := run_string_of_owned (P := Tryd.prog) Tryd.underlying22 Tryd.underlying5 Tryd.underlying9 (ownsRow_below hown8 hb9); have hst9' := run_string_of_owned (P := Tryd.prog) Tryd.underlying22 Tryd.underlying5 Tryd.underlying9 hown9)))
          all_goals
            have HB9 := Lib.hid (HB7.out.trans (hB9.mono HB7.out.size))
            clear hst8 hst9 hst9' hown8 hown9 hb8 hb9 hB7d hB8 hB9
            go_wp2
            go_ret
            exact ⟨rfl, HB9.out⟩
    · cases cut
      · go_wp2_with (at_builtin; refine wpList_append_own _ rfl _ _ 22 rfl w2.heap.size 5 i0 (.int .u8 0) 1 1 Tryd.underlying22 hi0 hz0 hz1 hz2 rfl (by decide) _ _ _ rfl (HO3.out.alloc _) ⟨w3.heap.size, 0, none⟩ 1 1 [byteV x] rfl rfl ?c1 ?c2 ?c3 ?c4 ?c5 ?_)
        case c1 => exact cell_one_new w3 _ _
        case c2 => exact news_one [x]
        case c3 => unfold maxLen; omega
        case c4 => omega
        case c5 => simp; have := HB3.out.size; omega
        intro v4 w4 hown4 hgrow4 _
        have HO4 := Lib.hid hown4
        have HB4 : Hid (Below w2.heap.size w2 w4) := (HB3.out.alloc (by have := HB3.out.size; omega) _).grown hgrow4 (by have := HB3.out.size; simp; omega) (fun q hq => (HO3.out.lt q hq).1)
        clear hown4 hgrow4
        go_wp2_with (at_builtin; refine wpList_append_own _ rfl _ _ 22 rfl w2.heap.size 5 i0 (.int .u8 0) 1 1 Tryd.underlying22 hi0 hz0 hz1 hz2 rfl (by decide) _ _ _ rfl HO4.out ⟨b, off + (K + 1), none⟩ (N - (K + 1)) (c2 - (K + 1)) ((E.drop (K + 1)).map byteV) rfl (by have := HNN.out; simp; omega) ?c1 ?c2 ?c3 ?c4 ?c5 ?_)
        case c1 => exact (sliceAt.drop (sliceAt.below HS2.out HB4.out)).news
        case c2 => exact news_one _
        case c3 => unfold maxLen; omega
        case c4 => omega
        case c5 => exact HB4.out.size
        intro v5 w5 hown5 hgrow5 _
        have HB5 : Hid (Below w2.heap.size w2 w5) := HB4.out.grown hgrow5 HB4.out.size (fun q hq => (HO4.out.lt q hq).1)
        obtain ⟨F, hF⟩ : ∃ F, F = E.take K ++ [x] ++ E.drop (K + 1) := ⟨_, rfl⟩
        have HO5 : Hid (w5.ownsRow w2.heap.size 5 1 v5 F.length (F.map byteV)) := own_cast hown5 (by have := HNN.out; rw [hF]; simp; omega) (by rw [hF]; simp)
        have hFl : F.length ≤ 300 := by have := HNN.out; rw [hF]; simp; omega
        clear hown5 hgrow5 hF
        have HD := Lib.hid (decode_any _ F w5 (bytesArg_owned HO5.out) (by omega) ((HT.out.below HB2.out).below HB5.out))
        obtain ⟨B, hB⟩ : ∃ B : ByteArray, B = ⟨F.toArray⟩ := ⟨_, rfl⟩
        have hBl : B.size ≤ 300 := by rw [hB]; show (List.toArray F).size ≤ 300; simpa using hFl
        have HBL : Hid (B.data.toList = F) := by unfold Hid; rw [hB]
        obtain ⟨o, ho⟩ : ∃ o, o = decS (bareS F) := ⟨_, rfl⟩
        rw [← ho] at HD
        go_wp2_with fail
        refine HD.out.mono ?_
        rintro e w6 ⟨u6, rfl, hown6, hb6⟩
        have hcv := run_string_of_owned (P := Tryd.prog) Tryd.underlying22 Tryd.underlying5 Tryd.underlying9 (ownsRow_below HO5.out hb6)
        rw [← hB] at hcv
        have HO6 := Lib.hid hown6
        have HB56 := Lib.hid hb6
        clear hown6 hb6 hB HD
        go_wp2_with fail
        refine (refDecode_any B _ (by omega)).mono ?_
        rintro e w7 ⟨rfl, hb7⟩
        rw [HBL.out, ← ho]
        have HB57 : Hid (Below w5.heap.size w5 w7) := HB56.out.trans (hb7.mono HB56.out.size)
        have HB7 : Hid (Below w.heap.size w w7) := HB2.out.trans ((HB5.out.trans (HB57.out.mono HB5.out.size)).mono HB2.out.size)
        obtain ⟨O, hO⟩ : ∃ O : ByteArray, O = ⟨(o.getD []).toArray⟩ := ⟨_, rfl⟩
        have HU := Lib.hid (fun W' (hb' : Below w7.heap.size w7 W') => run_string_of_owned (P := Tryd.prog) Tryd.underlying22 Tryd.underlying5 Tryd.underlying9 (ownsRow_below (ownsRow_below HO6.out hb7) hb'))
        rw [← hO] at HU ⊢
        have hB7d : Below w7.heap.size w7 w7.drew := (Below.refl _ _).drew
        have HOH := Lib.hid ho
        clear hcv hO ho
        rcases o with _ | c
        · have hq7 := fun n => HU.out (w7.drewN n) (below_drewN' n)
          clear hb7 hB7d
          go_wp2_with fail
          go_quiet (fail)
          go_wp2
          go_ret
          exact ⟨rfl, HB7.out.trans ((below_drewN' _).mono HB7.out.size)⟩
        · have henc : encS c = bareS F := enc_dec _ _ HOH.out.symm
          have hcl : c.length ≤ 300 := by
            have h1 := enc_len c
            have h2 := bareS_len F
            rw [henc] at h1
            omega
          have HEn := Lib.hid (encode_any u6 c 0 w7.drew (bytesArg_owned (ownsRow_below (ownsRow_below HO6.out hb7) hB7d)) (by omega) (by decide) (by decide) ((HT.out.below HB7.out).below hB7d))
          have e0 : lineS 0 (encS c) = bareS F := by rw [henc]; rfl
          rw [e0] at HEn
          have HBa := Lib.hid (fun W' (hb' : Below w7.heap.size w7 W') => bare_any v5 F W' (bytesArg_owned (ownsRow_below (ownsRow_below HO5.out HB57.out) hb')) (by omega))
          clear hb7 henc e0
          go_wp2_with fail
          go_region_held (fun W' => (convert 22 9 u6).run Tryd.prog W' = .ok (.string O) W') (exact HU.out _ (by assumption))
            ((first | (go_at_call 9; refine HEn.out.mono ?_; rintro e w8 ⟨u8, rfl, hown8, hb8⟩; have hB8 : Below w7.heap.size w7 w8 := hB7d.trans hb8; have hst8 := run_string_of_owned (P := Tryd.prog) Tryd.underlying22 Tryd.underlying5 Tryd.underlying9 hown8) | (go_at_call 13; refine (HBa.out _ hB8).mono ?_; rintro e w9 ⟨u9, rfl, hown9, hb9⟩; have hB9 : Below w7.heap.size w7 w9 := hB8.trans (hb9.mono hB8.size); have hst9 := run_string_of_owned (P := Tryd.prog) Tryd.underlying22 Tryd.underlying5 Tryd.underlying9 (ownsRow_below hown8 hb9); have hst9' := run_string_of_owned (P := Tryd.prog) Tryd.underlying22 Tryd.underlying5 Tryd.underlying9 hown9)))
          all_goals
            have HB9 := Lib.hid (HB7.out.trans (hB9.mono HB7.out.size))
            clear hst8 hst9 hst9' hown8 hown9 hb8 hb9 hB7d hB8 hB9
            go_wp2
            go_ret
            exact ⟨rfl, HB9.out⟩
      · go_wp2_with (at_builtin; refine wpList_append_own _ rfl _ _ 22 rfl w2.heap.size 5 i0 (.int .u8 0) 1 1 Tryd.underlying22 hi0 hz0 hz1 hz2 rfl (by decide) _ _ _ rfl HO3.out ⟨b, off + (K + 1), none⟩ (N - (K + 1)) (c2 - (K + 1)) ((E.drop (K + 1)).map byteV) rfl (by have := HNN.out; simp; omega) ?c1 ?c2 ?c3 ?c4 ?c5 ?_)
        case c1 => exact (sliceAt.drop (sliceAt.below HS2.out HB3.out)).news
        case c2 => exact news_one _
        case c3 => unfold maxLen; omega
        case c4 => omega
        case c5 => exact HB3.out.size
        intro v5 w5 hown5 hgrow5 _
        have HB5 : Hid (Below w2.heap.size w2 w5) := HB3.out.grown hgrow5 HB3.out.size (fun q hq => (HO3.out.lt q hq).1)
        obtain ⟨F, hF⟩ : ∃ F, F = E.take K ++ E.drop (K + 1) := ⟨_, rfl⟩
        have HO5 : Hid (w5.ownsRow w2.heap.size 5 1 v5 F.length (F.map byteV)) := own_cast hown5 (by have := HNN.out; rw [hF]; simp; omega) (by rw [hF]; simp)
        have hFl : F.length ≤ 300 := by have := HNN.out; rw [hF]; simp; omega
        clear hown5 hgrow5 hF
        have HD := Lib.hid (decode_any _ F w5 (bytesArg_owned HO5.out) (by omega) ((HT.out.below HB2.out).below HB5.out))
        obtain ⟨B, hB⟩ : ∃ B : ByteArray, B = ⟨F.toArray⟩ := ⟨_, rfl⟩
        have hBl : B.size ≤ 300 := by rw [hB]; show (List.toArray F).size ≤ 300; simpa using hFl
        have HBL : Hid (B.data.toList = F) := by unfold Hid; rw [hB]
        obtain ⟨o, ho⟩ : ∃ o, o = decS (bareS F) := ⟨_, rfl⟩
        rw [← ho] at HD
        go_wp2_with fail
        refine HD.out.mono ?_
        rintro e w6 ⟨u6, rfl, hown6, hb6⟩
        have hcv := run_string_of_owned (P := Tryd.prog) Tryd.underlying22 Tryd.underlying5 Tryd.underlying9 (ownsRow_below HO5.out hb6)
        rw [← hB] at hcv
        have HO6 := Lib.hid hown6
        have HB56 := Lib.hid hb6
        clear hown6 hb6 hB HD
        go_wp2_with fail
        refine (refDecode_any B _ (by omega)).mono ?_
        rintro e w7 ⟨rfl, hb7⟩
        rw [HBL.out, ← ho]
        have HB57 : Hid (Below w5.heap.size w5 w7) := HB56.out.trans (hb7.mono HB56.out.size)
        have HB7 : Hid (Below w.heap.size w w7) := HB2.out.trans ((HB5.out.trans (HB57.out.mono HB5.out.size)).mono HB2.out.size)
        obtain ⟨O, hO⟩ : ∃ O : ByteArray, O = ⟨(o.getD []).toArray⟩ := ⟨_, rfl⟩
        have HU := Lib.hid (fun W' (hb' : Below w7.heap.size w7 W') => run_string_of_owned (P := Tryd.prog) Tryd.underlying22 Tryd.underlying5 Tryd.underlying9 (ownsRow_below (ownsRow_below HO6.out hb7) hb'))
        rw [← hO] at HU ⊢
        have hB7d : Below w7.heap.size w7 w7.drew := (Below.refl _ _).drew
        have HOH := Lib.hid ho
        clear hcv hO ho
        rcases o with _ | c
        · have hq7 := fun n => HU.out (w7.drewN n) (below_drewN' n)
          clear hb7 hB7d
          go_wp2_with fail
          go_quiet (fail)
          go_wp2
          go_ret
          exact ⟨rfl, HB7.out.trans ((below_drewN' _).mono HB7.out.size)⟩
        · have henc : encS c = bareS F := enc_dec _ _ HOH.out.symm
          have hcl : c.length ≤ 300 := by
            have h1 := enc_len c
            have h2 := bareS_len F
            rw [henc] at h1
            omega
          have HEn := Lib.hid (encode_any u6 c 0 w7.drew (bytesArg_owned (ownsRow_below (ownsRow_below HO6.out hb7) hB7d)) (by omega) (by decide) (by decide) ((HT.out.below HB7.out).below hB7d))
          have e0 : lineS 0 (encS c) = bareS F := by rw [henc]; rfl
          rw [e0] at HEn
          have HBa := Lib.hid (fun W' (hb' : Below w7.heap.size w7 W') => bare_any v5 F W' (bytesArg_owned (ownsRow_below (ownsRow_below HO5.out HB57.out) hb')) (by omega))
          clear hb7 henc e0
          go_wp2_with fail
          go_region_held (fun W' => (convert 22 9 u6).run Tryd.prog W' = .ok (.string O) W') (exact HU.out _ (by assumption))
            ((first | (go_at_call 9; refine HEn.out.mono ?_; rintro e w8 ⟨u8, rfl, hown8, hb8⟩; have hB8 : Below w7.heap.size w7 w8 := hB7d.trans hb8; have hst8 := run_string_of_owned (P := Tryd.prog) Tryd.underlying22 Tryd.underlying5 Tryd.underlying9 hown8) | (go_at_call 13; refine (HBa.out _ hB8).mono ?_; rintro e w9 ⟨u9, rfl, hown9, hb9⟩; have hB9 : Below w7.heap.size w7 w9 := hB8.trans (hb9.mono hB8.size); have hst9 := run_string_of_owned (P := Tryd.prog) Tryd.underlying22 Tryd.underlying5 Tryd.underlying9 (ownsRow_below hown8 hb9); have hst9' := run_string_of_owned (P := Tryd.prog) Tryd.underlying22 Tryd.underlying5 Tryd.underlying9 hown9)))
          all_goals
            have HB9 := Lib.hid (HB7.out.trans (hB9.mono HB7.out.size))
            clear hst8 hst9 hst9' hown8 hown9 hb8 hb9 hB7d hB8 hB9
            go_wp2
            go_ret
            exact ⟨rfl, HB9.out⟩
end Go.Proofs.YtgcdcodeaamlpaaDoor
