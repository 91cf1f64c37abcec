/- The laws of layer 2 (base64): B64Back. -/
import Derived.Test.YtgcdcodeaamlpaaDoorB64P
import Derived.Outline
namespace Go.Proofs.YtgcdcodeaamlpaaDoor
open Go Go.RowKit

theorem lineS_len (w : Int) (t : List UInt8) : (lineS w t).length ≤ 3 * t.length := by
  unfold lineS
  split
  · rw [cut_len _ (by omega)]
    have h : (t.length + w.toNat - 1) / w.toNat ≤ t.length := by
      obtain ⟨n, hn⟩ : ∃ n, w.toNat = n + 1 := ⟨w.toNat - 1, by omega⟩
      rw [hn]
      rcases Nat.eq_zero_or_pos t.length with h0 | h0
      · rw [h0]
        exact Nat.le_of_eq (Nat.div_eq_of_lt (by omega))
      · apply Nat.div_le_of_le_mul
        rw [Nat.add_mul, Nat.one_mul]
        have := Nat.mul_le_mul_left n h0
        omega
    omega
  · omega
theorem and_u8 (x y : Nat) (hx : x < 256) (hy : y < 256) : bits .and .u8 (x : Int) (y : Int) = ((x &&& y : Nat) : Int) := by
  have h : x &&& y < 2 ^ 8 := Nat.and_lt_two_pow _ hy
  show IntKind.u8.wrap ((BitVec.ofInt 8 (x : Int) &&& BitVec.ofInt 8 (y : Int)).toNat : Int) = _
  rw [BitVec.toNat_and, BitVec.ofInt_natCast, BitVec.ofInt_natCast, BitVec.toNat_ofNat, BitVec.toNat_ofNat, Nat.mod_eq_of_lt hx, Nat.mod_eq_of_lt hy]
  show ((x &&& y : Nat) : Int) % 256 = _
  omega
theorem and7 (b : UInt8) : bits .and .u8 (b.toNat : Int) 7 = ((b.toNat % 8 : Nat) : Int) := by
  have := and_u8 b.toNat 7 b.toNat_lt (by omega)
  rw [show (7 : Nat) = 2 ^ 3 - 1 from rfl, Nat.and_two_pow_sub_one_eq_mod] at this
  exact this
theorem and3 (b : UInt8) : bits .and .u8 (b.toNat : Int) 3 = ((b.toNat % 4 : Nat) : Int) := by
  have := and_u8 b.toNat 3 b.toNat_lt (by omega)
  rw [show (3 : Nat) = 2 ^ 2 - 1 from rfl, Nat.and_two_pow_sub_one_eq_mod] at this
  exact this
theorem gap_at : ∀ k, (h : k < 4) → isGap ((⟨#[32, 9, 13, 10]⟩ : ByteArray)[k]'h) = true := by decide
theorem sliceAt.cell {W : World} {ao : Option Addr} {l : List UInt8} (h : sliceAt W ao l) (k : Nat) (hk : k < l.length) : ∃ b off, ao = some ⟨b, off, none⟩ ∧ b < W.heap.size ∧ W.cell? ⟨b, off + k, none⟩ = some (.int .u8 (l[k].toNat : Int)) := by
  rcases h with rfl | ⟨b, off, e, hlt, hc⟩
  · simp at hk
  · exact ⟨b, off, e, hlt, hc k hk⟩

set_option maxRecDepth 100000 in
set_option maxHeartbeats 4000000 in
theorem b64Back_any (v : Value) (l : List UInt8) (wd : UInt8) (gv : Value) (gl : List UInt8) (w : World) (hv : bytesArg w v l) (hg : bytesArg w gv gl) (ht : lets w) :
    Calls Tryd.prog 5 #[v, .int .u8 (wd.toNat : Int), gv] w fun e w' => e = .returned (.bool true) ∧ Below w.heap.size w w' := by
  obtain ⟨i0, hi0, hz0, hz1, hz2⟩ := info_parts Tryd.infoU8
  obtain ⟨ao, cap, rfl, hc, hm, hs⟩ := hv
  obtain ⟨ag, gcap, rfl, hgc, hgm, hgs⟩ := hg
  have HS : Hid (bytesArg w (.slice ao l.length cap) l) := ⟨ao, cap, rfl, hc, hm, hs⟩
  have HG : Hid (sliceAt w ag gl) := hgs
  have HT := Lib.hid ht
  clear hs ht hgs
  have hwd := wd.toNat_lt
  have hl : 300 < l.length ∨ (l.length ≤ 300 ∧ 100 < gl.length) ∨ (l.length ≤ 300 ∧ gl.length ≤ 100) := by omega
  rcases hl with hl | ⟨hl, hl2⟩ | ⟨hl, hl2⟩
  iterate 2
    · go_enter Tryd.func5, Tryd.ntmps5
      go_wp2_with fail
      refine (awake_any _ HT.out).mono ?_
      rintro e w1 ⟨rfl, hb1⟩
      have HB1 := Lib.hid hb1; clear hb1
      go_wp2
      go_ret
      exact ⟨rfl, HB1.out⟩
  · obtain ⟨C, hC⟩ : ∃ C, C = lineS (wd.toNat : Int) (encS l) := ⟨_, rfl⟩
    have hCl : C.length ≤ 1212 := by
      rw [hC]
      refine Nat.le_trans (lineS_len _ _) ?_
      rw [enc_len]
      omega
    have HCC := Lib.hid hC
    go_enter Tryd.func5, Tryd.ntmps5
    go_wp2_with fail
    refine (awake_any _ HT.out).mono ?_
    rintro e w1 ⟨rfl, hb1⟩
    have HB1 := Lib.hid hb1; clear hb1
    go_wp2_with fail
    refine (encode_any _ l (wd.toNat : Int) _ (HS.out.below HB1.out) (by omega) (by omega) (by omega) (HT.out.below HB1.out)).mono ?_
    rintro e w2 ⟨u2, rfl, hown2, hb2⟩
    rw [← hC] at hown2
    have HO2 := Lib.hid hown2
    obtain ⟨a2, c2, rfl, hc2, hm2, hs2⟩ := bytesArg_owned hown2
    unfold maxLen at hm2
    have HS2 : Hid (sliceAt w2 a2 C) := hs2
    have HB2 : Hid (Below w.heap.size w w2) := HB1.out.trans (hb2.mono HB1.out.size)
    have HG2 : Hid (sliceAt w2 ag gl) := sliceAt.below HG.out HB2.out
    clear hown2 hb2 hs2 hC
    go_wp2_with fail
    go_loopg [9, 10] C.length (fun g o v wr => ∃ (i : Nat) (f : List UInt8), i ≤ C.length ∧ g = C.length - i ∧ v = .int .i64 i ∧ f.length ≤ 2 * i ∧ wr.ownsRow w2.heap.size 5 1 o f.length (f.map byteV) ∧ Hid (bareS f = bareS (C.take i)) ∧ Hid (Below w2.heap.size w2 wr))
    case atStart => exact ⟨0, [], by omega, by omega, rfl, by simp, World.ownsRow_nil _ _ _ _, rfl, Below.refl _ _⟩
    case round =>
      obtain ⟨i, f, hi, rfl, rfl, hf, hown, HF, HB⟩ := hrel
      have HO := Lib.hid hown
      clear hown
      by_cases hlt : i < C.length
      · obtain ⟨b, off, rfl, hb, hcell⟩ := HS2.out.cell i hlt
        have hcell' : wr.cell? ⟨b, off + i, none⟩ = some (.int .u8 (C[i].toNat : Int)) := (HB.out.cell (p := ⟨b, off + i, none⟩) hb).trans hcell
        have HT2 := Lib.hid (take_snocL C i hlt)
        clear hcell hb
        go_wp2_with (at_builtin; refine wpList_append_own _ rfl _ _ 22 rfl w2.heap.size 5 i0 (.int .u8 0) 1 1 Tryd.underlying22 hi0 hz0 hz1 hz2 rfl (by decide) _ _ _ rfl (HO.out.alloc _) ⟨wr.heap.size, 0, none⟩ 1 1 [byteV C[i]] rfl rfl ?c1 ?c2 ?c3 ?c4 ?c5 ?_)
        case c1 => exact cell_one_new wr _ _
        case c2 => exact news_one [C[i]]
        case c3 => unfold maxLen; omega
        case c4 => omega
        case c5 => simp; have := HB.out.size; omega
        intro v3 w3 hown3 hgrow3 _
        have HO3 := Lib.hid hown3
        have HB3 : Hid (Below w2.heap.size w2 w3) := (HB.out.alloc (by have := HB.out.size; omega) _).grown hgrow3 (by have := HB.out.size; simp; omega) (fun q hq => (HO.out.lt q hq).1)
        clear hown3 hgrow3 hcell'
        by_cases hgi : i < gl.length
        · obtain ⟨gb, goff, rfl, hgb, hgcell⟩ := HG2.out.cell i hgi
          have hgcell' : w3.cell? ⟨gb, goff + i, none⟩ = some (.int .u8 (gl[i].toNat : Int)) := (HB3.out.cell (p := ⟨gb, goff + i, none⟩) hgb).trans hgcell
          have h7 := and7 gl[i]
          have h3 := and3 gl[i]
          obtain ⟨x, hx⟩ : ∃ x, x = gl[i].toNat % 8 := ⟨_, rfl⟩
          obtain ⟨y, hy⟩ : ∃ y, y = gl[i].toNat % 4 := ⟨_, rfl⟩
          have hy4 : y < 4 := by omega
          rw [← hx] at h7
          rw [← hy] at h3
          clear hgcell hgb hx hy
          by_cases hx4 : x < 4
          · obtain ⟨z, hz⟩ : ∃ z, z = (⟨#[32, 9, 13, 10]⟩ : ByteArray)[y]'hy4 := ⟨_, rfl⟩
            have HZ : Hid (isGap z = true) := by unfold Hid; rw [hz]; exact gap_at y hy4
            have HZ2 := Lib.hid hz
            clear hz
            go_wp2_with (at_builtin; refine wpList_append_own _ rfl _ _ 22 rfl w2.heap.size 5 i0 (.int .u8 0) 1 1 Tryd.underlying22 hi0 hz0 hz1 hz2 rfl (by decide) _ _ _ rfl (HO3.out.alloc _) ⟨w3.heap.size, 0, none⟩ 1 1 [byteV z] rfl rfl ?c1 ?c2 ?c3 ?c4 ?c5 ?_)
            case c1 => rw [HZ2.out]; exact cell_one_new w3 _ _
            case c2 => exact news_one [z]
            case c3 => unfold maxLen; simp; omega
            case c4 => simp; omega
            case c5 => simp; have := HB3.out.size; omega
            intro v4 w4 hown4 hgrow4 _
            have HO4 := Lib.hid hown4
            have HB4 : Hid (Below w2.heap.size w2 w4) := (HB3.out.alloc (by have := HB3.out.size; omega) _).grown hgrow4 (by have := HB3.out.size; simp; omega) (fun q hq => (HO3.out.lt q hq).1)
            clear hown4 hgrow4
            go_wp2
            go_roundg (C.length - (i + 1))
            case measure => omega
            case rel =>
              refine ⟨i + 1, f ++ [C[i]] ++ [z], by omega, rfl, by go_num, by simp; omega, own_cast HO4.out (by simp) (by simp), ?_, HB4⟩
              unfold Hid
              rw [bareS_snoc_gap HZ.out, bareS_append, HF.out, HT2.out, bareS_append]
          · go_wp2
            go_roundg (C.length - (i + 1))
            case measure => omega
            case rel => exact ⟨i + 1, f ++ [C[i]], by omega, rfl, by go_num, by simp; omega, own_cast HO3.out (by simp) (by simp), by unfold Hid; rw [bareS_append, HF.out, HT2.out, bareS_append], HB3⟩
        · go_wp2
          go_roundg (C.length - (i + 1))
          case measure => omega
          case rel => exact ⟨i + 1, f ++ [C[i]], by omega, rfl, by go_num, by simp; omega, own_cast HO3.out (by simp) (by simp), by unfold Hid; rw [bareS_append, HF.out, HT2.out, bareS_append], HB3⟩
      · have hdec : decS (bareS f) = some l := by rw [HF.out, List.take_of_length_le (by omega), HCC.out, dec_line]
        have hdec2 : decS (bareS C) = some l := by rw [HCC.out, dec_line]
        have HD := Lib.hid (decode_any _ f wr (bytesArg_owned HO.out) (by omega) ((HT.out.below HB2.out).below HB.out))
        rw [hdec] at HD
        have HD2 : Hid (∀ W', Below w2.heap.size w2 W' → Calls Tryd.prog 11 #[.slice a2 C.length c2] W' (DecGot W' (some l))) := fun W' hb => by
          have := decode_any (.slice a2 C.length c2) C W' (((bytesArg_owned HO2.out)).below hb) (by omega) ((HT.out.below HB2.out).below hb)
          rw [hdec2] at this
          exact this
        clear hdec hdec2
        go_wp2_with fail
        refine HD.out.mono ?_
        rintro e w3 ⟨u3, rfl, hown3, hb3⟩
        have HO3 := Lib.hid hown3
        have HB3 : Hid (Below w2.heap.size w2 w3) := HB.out.trans (hb3.mono HB.out.size)
        clear hown3 hb3
        go_wp2_with fail
        refine (HD2.out _ HB3.out).mono ?_
        rintro e w4 ⟨u4, rfl, hown4, hb4⟩
        have h1 := run_string_of_owned (P := Tryd.prog) Tryd.underlying22 Tryd.underlying5 Tryd.underlying9 (ownsRow_below HO3.out hb4)
        have h2 := run_string_of_owned (P := Tryd.prog) Tryd.underlying22 Tryd.underlying5 Tryd.underlying9 hown4
        have HB4 : Hid (Below w.heap.size w w4) := HB2.out.trans ((HB3.out.trans (hb4.mono HB3.out.size)).mono HB2.out.size)
        have h3 := bytesArg_string (HS.out.below HB4.out)
        have e1 : (some l).getD [] = l := rfl
        rw [e1] at h1 h2
        clear hown4 hb4 e1
        go_wp2
        go_ret
        exact ⟨rfl, HB4.out⟩
end Go.Proofs.YtgcdcodeaamlpaaDoor
