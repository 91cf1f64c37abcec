/- The laws of layer 6 (header): HeaderFolds. -/
import Derived.Test.YtjgbcfecgbkefaaDoorHdrN
import Derived.Deep.RegionHeld
namespace Go.Proofs.YtjgbcfecgbkefaaDoor
open Go Go.RowKit

theorem bytes_one (s : ByteArray) (k : Nat) (h : k < s.size) : (s.extract k (k + 1)).data.toList = [s[k]] := by
  rw [extract_toList, drop_cons s k h, Nat.add_sub_cancel_left]
  rfl
def goodC (c : UInt8) : Bool := decide (33 ≤ c.toNat ∧ c.toNat ≤ 126)
def subjW : List UInt8 := [115, 117, 98, 106, 101, 99, 116]
def subjC : List UInt8 := [83, 85, 66, 74, 69, 67, 84]

set_option maxRecDepth 100000 in
set_option maxHeartbeats 4000000 in
theorem headerFolds_any (vl : Value) (ls : List ByteArray) (caps : Bool) (w : World) (hvl : strsArg w vl ls) :
    Calls Tryd.prog 4 #[vl, .bool caps] w fun e w' => e = .returned (.bool true) ∧ Below w.heap.size w w' := by
  obtain ⟨lo, lc, rfl, hlc, hlm, hlcell⟩ := hvl.at
  have HLC := Lib.hid hlcell
  clear hvl hlcell
  unfold maxLen at hlm
  rcases Nat.lt_or_ge 8 ls.length with hl | hl
  · go_enter Tryd.func4, Tryd.ntmps4
    go_wp2_with fail
    refine (awake_any _).mono ?_
    rintro e w1 ⟨rfl, hb1⟩
    have HB1 := Lib.hid hb1; clear hb1
    go_wp2
    go_ret
    exact ⟨rfl, HB1.out⟩
  have hd1 : decide ((8 : Int) < (ls.length : Int)) = false := decide_eq_false (by omega)
  go_enter Tryd.func4, Tryd.ntmps4
  go_wp2_with fail
  refine (awake_any _).mono ?_
  rintro e w1 ⟨rfl, hb1⟩
  have HB1 := Lib.hid hb1; clear hb1
  go_upto_block 0 with fail
  go_cut [6, 7] (fun bv wv wx => ∃ (B V : ByteArray) (tl : List (List UInt8)), bv = .string B ∧ wv = .string V ∧ B.size ≤ 300 ∧ V.size ≤ 200 ∧ tl.length = ls.length ∧ Hid (∀ t ∈ tl, goodT t) ∧ Hid (B.data.toList = preB tl) ∧ Hid (V.data.toList = wantL tl) ∧ w1 = wx)
  case first =>
    go_wp2_with fail
    go_loopg [6, 7, 8] ls.length (fun q bv wv iv wr => ∃ (i : Nat) (B V : ByteArray) (tl : List (List UInt8)), i ≤ ls.length ∧ q = ls.length - i ∧ iv = .int .i64 i ∧ bv = .string B ∧ wv = .string V ∧ tl.length = i ∧ Hid (∀ t ∈ tl, goodT t) ∧ Hid (∀ t ∈ tl, t.length ≤ 20) ∧ Hid (B.data.toList = preB tl) ∧ Hid (V.data.toList = wantL tl) ∧ w1 = wr)
    case atStart => exact ⟨0, ⟨#[88, 45, 66, 101, 102, 111, 114, 101, 58, 32, 49, 13, 10, 83, 117, 98, 106, 101, 99, 116, 58]⟩, ⟨#[]⟩, [], Nat.zero_le _, rfl, rfl, rfl, rfl, rfl, (fun _ h => by cases h), (fun _ h => by cases h), rfl, rfl, rfl⟩
    case round =>
      obtain ⟨i, B, V, tl, hi, rfl, rfl, rfl, rfl, htl, HG, HL, HBt, HV, rfl⟩ := hrel
      have hBs : B.size ≤ 21 + i * 23 := by
        have := preB_len HL.out
        rw [← HBt.out, len_toList, htl] at this
        exact this
      have hVs : V.size ≤ i * 21 := by
        have := wantL_len HL.out
        rw [← HV.out, len_toList, htl] at this
        exact this
      have HTl := Lib.hid htl
      clear htl
      by_cases hlt : i < ls.length
      · obtain ⟨lb, loff, rfl, hlb, hcell, hsz⟩ := HLC.out i hlt
        obtain ⟨S, hS⟩ : ∃ S, S = ls[i] := ⟨_, rfl⟩
        rw [← hS] at hcell hsz
        clear hS
        unfold maxLen at hsz
        replace hcell := (HB1.out.cell (p := ⟨lb, loff + i, none⟩) hlb).trans hcell
        go_upto_block 2 with fail
        go_cut [9] (fun tv wx => ∃ T : ByteArray, tv = .string T ∧ T.size ≤ 20 ∧ Hid (∀ c ∈ T.data.toList, goodC c = true) ∧ w1 = wx)
        case first =>
          go_wp2_with fail
          go_loopg [9, 10] 20 (fun q tv kv wx => ∃ (k : Nat) (T : ByteArray), k ≤ 20 ∧ q = 20 - k ∧ kv = .int .i64 k ∧ tv = .string T ∧ T.size ≤ k ∧ Hid (∀ c ∈ T.data.toList, goodC c = true) ∧ w1 = wx)
          case atStart => exact ⟨0, ⟨#[]⟩, Nat.zero_le _, rfl, rfl, rfl, Nat.zero_le _, by unfold Hid; simp, rfl⟩
          case round =>
            obtain ⟨k, T, hk, rfl, rfl, rfl, hT, HT, rfl⟩ := hrel
            by_cases hkS : k < S.size
            · by_cases hk20 : k < 20
              · by_cases h32 : (32 : Int) < (S[k].toNat : Int)
                · by_cases h127 : (S[k].toNat : Int) < 127
                  · have HPl : Hid (goodC S[k] = true) := decide_eq_true (by omega)
                    go_wp2_with fail
                    go_roundg (20 - (k + 1))
                    case measure => omega
                    case rel =>
                      refine ⟨k + 1, T ++ S.extract k (k + 1), by omega, rfl, by go_num, rfl, ?_, ?_, rfl⟩
                      · rw [ByteArray.size_append, extract_size' S k (k + 1) (by omega)]
                        omega
                      · intro c hc
                        rw [cat_toList, bytes_one S k hkS] at hc
                        rcases List.mem_append.1 hc with h | h
                        · exact HT.out c h
                        · rw [List.mem_singleton.1 h]
                          exact HPl.out
                  · go_wp2_with fail
                    go_roundg (20 - (k + 1))
                    case measure => omega
                    case rel => exact ⟨k + 1, T, by omega, rfl, by go_num, rfl, by omega, HT, rfl⟩
                · go_wp2_with fail
                  go_roundg (20 - (k + 1))
                  case measure => omega
                  case rel => exact ⟨k + 1, T, by omega, rfl, by go_num, rfl, by omega, HT, rfl⟩
              · obtain rfl : k = 20 := by omega
                go_wp2_with fail
                go_meet
                exact ⟨T, rfl, by omega, HT, rfl⟩
            · go_wp2_with fail
              go_meet
              exact ⟨T, rfl, by omega, HT, rfl⟩
        case rest =>
          obtain ⟨T, rfl, hT, HT, rfl⟩ := hcut
          clear hcell
          go_upto_if 66 with fail
          go_cut [9] (fun tv wx => ∃ T : ByteArray, tv = .string T ∧ T.size ≤ 20 ∧ Hid (goodT T.data.toList) ∧ w1 = wx)
          case first =>
            by_cases h0 : T.size = 0
            · have hte : T.toList.isEmpty = true := by rw [(toList_nil_iff T).2 h0]; rfl
              rw [hte]
              go_wp2_with fail
              go_meet
              exact ⟨⟨#[120]⟩, rfl, by decide, ⟨by decide, by decide⟩, rfl⟩
            · have hte : T.toList.isEmpty = false := by
                rw [List.isEmpty_eq_false_iff]
                exact fun h => h0 ((toList_nil_iff T).1 h)
              have HGd : Hid (goodT T.data.toList) := ⟨fun e => h0 (by rw [← len_toList, e]; rfl), fun c hc => of_decide_eq_true (HT.out c hc)⟩
              rw [hte]
              clear h0
              go_wp2_with fail
              go_meet
              exact ⟨T, rfl, hT, HGd, rfl⟩
          case rest =>
            clear HT hT
            obtain ⟨T, rfl, hT, HGd, rfl⟩ := hcut
            have HGn : Hid (∀ t ∈ tl ++ [T.data.toList], goodT t) := by
              intro t ht
              rcases List.mem_append.1 ht with h | h
              · exact HG.out t h
              · rw [List.mem_singleton.1 h]
                exact HGd.out
            have HLn : Hid (∀ t ∈ tl ++ [T.data.toList], t.length ≤ 20) := by
              intro t ht
              rcases List.mem_append.1 ht with h | h
              · exact HL.out t h
              · rw [List.mem_singleton.1 h, len_toList]
                exact hT
            have HTn : Hid ((tl ++ [T.data.toList]).length = i + 1) := by
              unfold Hid
              rw [List.length_append, HTl.out]
              rfl
            by_cases h0 : V.size = 0
            · have hve : V.toList.isEmpty = true := by rw [(toList_nil_iff V).2 h0]; rfl
              have HNil : Hid (tl = []) := by
                rcases tl with _ | ⟨u, r⟩
                · rfl
                · have h1 := wantL_ne HG.out (by simp)
                  rw [← HV.out] at h1
                  exact absurd (List.eq_nil_of_length_eq_zero (by rw [len_toList]; exact h0)) h1
              clear h0
              go_wp2_with fail
              go_roundg (ls.length - (i + 1))
              case measure => omega
              case rel => exact ⟨i + 1, _, _, tl ++ [T.data.toList], by omega, rfl, by go_num, rfl, rfl, HTn.out, HGn, HLn, by unfold Hid; rw [preB_snoc, ← HBt.out]; simp, by unfold Hid; rw [HNil.out, List.nil_append, wantL_one, cat_toList, HV.out, HNil.out, wantL_nil, List.nil_append], rfl⟩
            · have hve : V.toList.isEmpty = false := by
                rw [List.isEmpty_eq_false_iff]
                exact fun h => h0 ((toList_nil_iff V).1 h)
              have HNil : Hid (¬ tl = []) := by
                intro e
                apply h0
                rw [← len_toList, HV.out, e]
                rfl
              clear h0
              go_wp2_with fail
              go_roundg (ls.length - (i + 1))
              case measure => omega
              case rel => exact ⟨i + 1, _, _, tl ++ [T.data.toList], by omega, rfl, by go_num, rfl, rfl, HTn.out, HGn, HLn, by unfold Hid; rw [preB_snoc, ← HBt.out]; simp, by unfold Hid; rw [wantL_snoc HNil.out, ← HV.out]; simp, rfl⟩
      · obtain rfl : i = ls.length := by omega
        go_wp2_with fail
        go_meet
        exact ⟨B, V, tl, rfl, rfl, by omega, by omega, HTl.out, HG, HBt, HV, rfl⟩
  case rest =>
    obtain ⟨B, V, tl, rfl, rfl, hBs, hVs, htl, HG, HBt, HVt, rfl⟩ := hcut
    have HTl := Lib.hid htl
    clear htl
    go_upto_if 81 with fail
    go_cut [6] (fun bv wx => ∃ B' : ByteArray, bv = .string B' ∧ B'.size ≤ 302 ∧ Hid (B'.data.toList = preB tl ++ (if tl = [] then [13, 10] else [])) ∧ w1 = wx)
    case first =>
      by_cases h0 : ls.length = 0
      · have hb : ((ls.length : Int) == 0) = true := beq_yes (by omega)
        have HN : Hid (tl = []) := List.eq_nil_of_length_eq_zero (by rw [HTl.out]; exact h0)
        rw [hb]
        clear h0
        go_wp2_with fail
        go_meet
        refine ⟨_, rfl, ?_, ?_, rfl⟩
        · rw [ByteArray.size_append]
          show B.size + 2 ≤ 302
          omega
        · unfold Hid
          rw [cat_toList, HBt.out, if_pos HN.out]
      · have hb : ((ls.length : Int) == 0) = false := beq_no (by omega)
        have HN : Hid (¬ tl = []) := fun e => h0 (by rw [← HTl.out, e]; rfl)
        rw [hb]
        clear h0
        go_wp2_with fail
        go_meet
        refine ⟨B, rfl, by omega, ?_, rfl⟩
        unfold Hid
        rw [HBt.out, if_neg HN.out, List.append_nil]
    case rest =>
      obtain ⟨B', rfl, hBs', HB', rfl⟩ := hcut
      go_upto_if 86 with fail
      go_cut [11] (fun nv wx => ∃ nm : ByteArray, nv = .string nm ∧ Hid (nm.data.toList = [115, 117, 98, 106, 101, 99, 116] ∨ nm.data.toList = [83, 85, 66, 74, 69, 67, 84]) ∧ w1 = wx)
      case first =>
        cases caps
        · go_wp2_with fail
          go_meet
          exact ⟨⟨#[115, 117, 98, 106, 101, 99, 116]⟩, rfl, .inl rfl, rfl⟩
        · go_wp2_with fail
          go_meet
          exact ⟨⟨#[83, 85, 66, 74, 69, 67, 84]⟩, rfl, .inr rfl, rfl⟩
      case rest =>
        obtain ⟨nm, rfl, HNm, rfl⟩ := hcut
        obtain ⟨C, hC⟩ : ∃ C : ByteArray, C = B' ++ ⟨#[88, 45, 65, 102, 116, 101, 114, 58, 32, 50, 13, 10, 13, 10, 98, 111, 100, 121]⟩ := ⟨_, rfl⟩
        rw [← hC]
        have hCl : C.data.toList = textF tl := by
          rw [hC, cat_toList, HB'.out, ← preB_end]
          rfl
        have hCs : C.size ≤ 320 := by
          rw [hC, ByteArray.size_append]
          show B'.size + 18 ≤ 320
          omega
        clear hC
        have HG' := HG.out
        obtain ⟨_, hbeh, _⟩ := folds_lines tl HG'
        have hTs : (textF tl).length = C.size := by rw [← hCl, len_toList]
        have HShort : Hid (shortF (foldsF (subE tl))) := by
          intro x hx
          simp only [foldsF, List.mem_cons, List.not_mem_nil, or_false] at hx
          rcases hx with rfl | rfl | rfl <;> simp only <;> decide
        obtain ⟨W1, bcap, hcv, hbarg, hb1⟩ := conv_bytesArg (P := Tryd.prog) w1 9 22 5 C (by unfold maxLen; omega) Tryd.underlying9 Tryd.underlying22 Tryd.underlying5
        have HOf := of_whole (.slice (some ⟨w1.heap.size, 0, none⟩) C.size bcap) (textF tl) W1 (by rw [← hCl]; exact hbarg) (by omega)
        unfold OfPost at HOf
        rw [folds_fields tl HG', hbeh, hTs] at HOf
        have HOfH := Lib.hid HOf
        have hrest : C.extract (subE tl + 14) C.size = ⟨#[98, 111, 100, 121]⟩ := by
          apply bytes_eq
          rw [extract_toList, hCl, folds_rest, ← hTs]
          have := congrArg List.length (folds_rest tl)
          rw [List.length_drop] at this
          rw [this]
          rfl
        have hnC : subE tl + 14 ≤ C.size := by
          have := congrArg List.length (folds_rest tl)
          rw [List.length_drop, hTs] at this
          have e : bodyW.length = 4 := rfl
          omega
        have HV1 := Lib.hid (fun W v vf h hf => value_any v vf C.data.toList (foldsF (subE tl)) nm W h (by rw [len_toList]; omega) hf HShort.out)
        have HV2 := Lib.hid (fun W v vf h hf => value_any v vf C.data.toList (foldsF (subE tl)) ⟨#[120, 45, 97, 102, 116, 101, 114]⟩ W h (by rw [len_toList]; omega) hf HShort.out)
        have HV3 := Lib.hid (fun W v vf h hf => value_any v vf C.data.toList (foldsF (subE tl)) ⟨#[110, 111, 110, 101]⟩ W h (by rw [len_toList]; omega) hf HShort.out)
        have eV : (⟨(wantL tl).toArray⟩ : ByteArray) = V := bytes_eq (by rw [HVt.out])
        rw [hCl, folds_subject HG' _ HNm.out, eV, ← hCl] at HV1
        rw [hCl, show (⟨#[120, 45, 97, 102, 116, 101, 114]⟩ : ByteArray).data.toList = [120, 45, 97, 102, 116, 101, 114] from rfl, folds_after, ← hCl] at HV2
        rw [hCl, show (⟨#[110, 111, 110, 101]⟩ : ByteArray).data.toList = [110, 111, 110, 101] from rfl, folds_none, ← hCl] at HV3
        have HBW1 : Hid (Below w.heap.size w W1) := HB1.out.trans (hb1.mono HB1.out.size)
        obtain ⟨E, hE⟩ : ∃ E, E = subE tl := ⟨_, rfl⟩
        obtain ⟨n, hn⟩ : ∃ n, n = subE tl + 14 := ⟨_, rfl⟩
        obtain ⟨fs, hfs⟩ : ∃ fs, fs = foldsF (subE tl) := ⟨_, rfl⟩
        have hf3 : fs.length = 3 := by rw [hfs]; rfl
        rw [← hn] at HOfH hrest hnC
        rw [← hfs] at HOfH HV1 HV2 HV3
        have HF3 := Lib.hid hf3
        clear HOf hbarg hb1 hbeh hTs eV hE hn hfs hf3 hCl HNm HG' HG HBt HVt HB' HShort HTl
        go_wp2_with fail
        with_reducible refine HOfH.out.mono ?_
        rintro e w2 ⟨u, rfl, hown, hb2⟩
        have HB2 := Lib.hid (HBW1.out.trans (hb2.mono HBW1.out.size))
        have HR : Hid (rowF w2 u fs) := rowF_owned hown
        obtain ⟨fo, fc, rfl, hfc, hfm, _⟩ := HR.out.at
        rw [HF3.out] at HR hfc ⊢
        unfold maxLen at hfm
        clear hown hb2 hcv HOfH
        have hcvall := fun W : World => run_bytes_of_string (P := Tryd.prog) W 9 22 5 C Tryd.underlying9 Tryd.underlying22 Tryd.underlying5
        go_wp2_with fail
        with_reducible refine (HV1.out _ _ _ ?h1 ?h2).mono ?_
        case h1 => exact bytesRow_arg _ C _ _ (by unfold maxLen; omega)
        case h2 => exact HR.out.below ((Below.refl _ _).drew.alloc (Nat.le_refl _) _)
        rintro e w3 ⟨rfl, hb3⟩
        have HB3 : Hid (Below w.heap.size w w3) := (HB2.out.drew.alloc HB2.out.size _).trans (hb3.mono (by have := HB2.out.size; simp; omega))
        have HR3 := Lib.hid ((HR.out.below ((Below.refl _ _).drew.alloc (Nat.le_refl _) _)).below hb3)
        clear hb3 HB2 HR
        go_wp2_with fail
        with_reducible refine (HV2.out _ _ _ ?h3 ?h4).mono ?_
        case h3 => exact bytesRow_arg _ C _ _ (by unfold maxLen; omega)
        case h4 => exact HR3.out.below ((Below.refl _ _).drew.alloc (Nat.le_refl _) _)
        rintro e w4 ⟨rfl, hb4⟩
        have HB4 : Hid (Below w.heap.size w w4) := (HB3.out.drew.alloc HB3.out.size _).trans (hb4.mono (by have := HB3.out.size; simp; omega))
        have HR4 := Lib.hid ((HR3.out.below ((Below.refl _ _).drew.alloc (Nat.le_refl _) _)).below hb4)
        clear hb4 HB3 HR3
        go_wp2_with fail
        with_reducible refine (HV3.out _ _ _ ?h5 ?h6).mono ?_
        case h5 => exact bytesRow_arg _ C _ _ (by unfold maxLen; omega)
        case h6 => exact HR4.out.below ((Below.refl _ _).drew.alloc (Nat.le_refl _) _)
        rintro e w5 ⟨rfl, hb5⟩
        have HB5 : Hid (Below w.heap.size w w5) := (HB4.out.drew.alloc HB4.out.size _).trans (hb5.mono (by have := HB4.out.size; simp; omega))
        clear hb5 HB4 HR4
        go_wp2_with fail
        go_ret
        exact ⟨rfl, HB5.out⟩
end Go.Proofs.YtjgbcfecgbkefaaDoor
