/- TreeLeaves. -/
import Derived.Test.YtjbleholnakdaaaGreatDoorGb33
namespace Go.Proofs.YtjbleholnakdaaaGreatDoor
open Go Go.RowKit

def leafX (hs b : List UInt8) : List UInt8 := sbjH ++ hs.filter prB ++ 13 :: 10 :: 13 :: 10 :: b
theorem prB_all (hs : List UInt8) : (hs.filter prB).all prB = true := by
  rw [List.all_eq_true]
  intro c hc
  exact (List.mem_filter.1 hc).2
theorem leafX_tree (hs b : List UInt8) (N M : Nat) (hN : N = 9 + (hs.filter prB).length + 4) (hM : M = N + b.length) : treeS (leafX hs b) = .mk 0 (0, N) (N, M) [] [] (0, 0) := by
  subst hM
  subst hN
  exact leaf_tree _ b (prB_all hs)
theorem filter_snoc (hs : List UInt8) (k : Nat) (h : k < hs.length) : (hs.take (k + 1)).filter prB = (hs.take k).filter prB ++ (if prB hs[k] = true then [hs[k]] else []) := by
  rw [List.take_succ_eq_append_getElem h, List.filter_append]
  congr 1
  by_cases hp : prB hs[k] = true
  · rw [if_pos hp, List.filter_cons, if_pos hp, List.filter_nil]
  · rw [if_neg hp, List.filter_cons, if_neg hp, List.filter_nil]
set_option maxRecDepth 100000 in
set_option maxHeartbeats 4000000 in
theorem treeLeaves_any (hv : Value) (hs : List UInt8) (bv : Value) (bs : List UInt8) (w : World) (hh : bytesArg w hv hs) (hb : bytesArg w bv bs) (he : env w) :
    Calls Tryz.prog 5 #[hv, bv] w fun e w' => e = .returned (.bool true) ∧ Below w.heap.size w w' := by
  have HE := Lib.hid he
  have HAw := Lib.hid (awake_any w he)
  have HBb := Lib.hid hb
  clear he
  obtain ⟨ao, cap, rfl, hc, hm, hcs⟩ := hh
  obtain ⟨bo, bcap, rfl, hbc, hbm, hbs⟩ := hb
  have HC : Hid (sliceAt w ao hs) := hcs
  clear hcs hbs
  unfold maxLen at hm hbm
  have hcase : 200 < hs.length ∨ (hs.length ≤ 200 ∧ 300 < bs.length) ∨ (hs.length ≤ 200 ∧ bs.length ≤ 300) := by omega
  rcases hcase with h1 | ⟨h1, h2⟩ | ⟨h1, h2⟩
  iterate 2
    · go_enter Tryz.func5, Tryz.ntmps5
      go_wp2_with fail
      with_reducible refine HAw.out.mono ?_
      rintro e w1 ⟨rfl, hb1⟩
      have HB1 := Lib.hid hb1
      clear hb1
      go_wp2
      go_ret
      exact ⟨rfl, HB1.out⟩
  · go_enter Tryz.func5, Tryz.ntmps5
    go_wp2_with fail
    with_reducible refine HAw.out.mono ?_
    rintro e w1 ⟨rfl, hb1⟩
    have HB1 := Lib.hid hb1
    clear hb1 HAw
    go_wp2_with fail
    go_loopg [6, 7] hs.length (fun q fv iv wr => ∃ (k : Nat) (F : ByteArray), k ≤ hs.length ∧ q = hs.length - k ∧ fv = .string F ∧ iv = .int .i64 k ∧ F.size ≤ 9 + k ∧ Hid (F.data.toList = sbjH ++ (hs.take k).filter prB) ∧ Hid (Below w.heap.size w wr))
    case atStart => exact ⟨0, _, by omega, rfl, rfl, rfl, by decide, rfl, HB1.out⟩
    case round =>
      clear HB1
      obtain ⟨k, F, hk, rfl, rfl, rfl, hF, HF, HB⟩ := hrel
      by_cases hlt : k < hs.length
      · obtain ⟨b, off, rfl, hbl, hcell⟩ := HC.out.cell k hlt
        have hone : bytesArg w (.slice (some ⟨b, off + k, none⟩) 1 (cap - k)) [hs[k]] := by
          have h4 : sliceAt w (some ⟨b, off, none⟩) hs := HC.out
          have h5 := (h4.drop (k := k)).take 1
          have h6 : (hs.drop k).take 1 = [hs[k]] := by rw [List.drop_eq_getElem_cons hlt]; rfl
          rw [h6] at h5
          exact h5.arg (cap := cap - k) (by simp; omega) (by unfold maxLen; omega)
        obtain ⟨c, hc'⟩ : ∃ c, c = hs[k] := ⟨_, rfl⟩
        have HS := Lib.hid (filter_snoc hs k hlt)
        rw [← hc'] at hcell HS hone
        have HCv := Lib.hid (bytesArg_string (bytesArg.below hone HB.out))
        have hcell' : wr.cell? ⟨b, off + k, none⟩ = some (.int .u8 (c.toNat : Int)) := (HB.out.cell (p := ⟨b, off + k, none⟩) hbl).trans hcell
        clear hcell hone hc'
        have hct := c.toNat_lt
        by_cases h3 : 32 < c.toNat
        · by_cases h4 : c.toNat < 127
          · have HP : Hid (prB c = true) := by unfold Hid prB; exact decide_eq_true ⟨h3, h4⟩
            have hcv := HCv.out
            go_wp2_with fail
            go_roundg (hs.length - (k + 1))
            case measure => omega
            case rel =>
              refine ⟨k + 1, F ++ ⟨#[c]⟩, by omega, rfl, rfl, by go_num, ?_, ?_, HB.out⟩
              · rw [ByteArray.size_append]
                show F.size + 1 ≤ _
                omega
              · show (F ++ ⟨#[c]⟩).data.toList = _
                rw [cat_toList, HF.out, HS.out, if_pos HP.out, List.append_assoc]
          · have HP : Hid (¬ prB c = true) := by unfold Hid prB; intro h; have := of_decide_eq_true h; omega
            go_wp2_with fail
            go_roundg (hs.length - (k + 1))
            case measure => omega
            case rel =>
              refine ⟨k + 1, F, by omega, rfl, rfl, by go_num, by omega, ?_, HB.out⟩
              show F.data.toList = _
              rw [HF.out, HS.out, if_neg HP.out, List.append_nil]
        · have HP : Hid (¬ prB c = true) := by unfold Hid prB; intro h; have := of_decide_eq_true h; omega
          go_wp2_with fail
          go_roundg (hs.length - (k + 1))
          case measure => omega
          case rel =>
            refine ⟨k + 1, F, by omega, rfl, rfl, by go_num, by omega, ?_, HB.out⟩
            show F.data.toList = _
            rw [HF.out, HS.out, if_neg HP.out, List.append_nil]
      · obtain ⟨f, hf⟩ : ∃ f, f = (hs.filter prB).length := ⟨_, rfl⟩
        have HFl : Hid (F.data.toList = sbjH ++ hs.filter prB) := by
          have := HF.out
          rw [List.take_of_length_le (by omega)] at this
          exact this
        have hFs : F.size = 9 + f := by
          rw [← len_toList, HFl.out, List.length_append, hf]
          rfl
        have hfb : f ≤ 200 := by rw [hf]; exact Nat.le_trans (List.length_filter_le _ _) h1
        have HCb := Lib.hid (fun W (hb' : Below w.heap.size w W) => bytesArg_string (bytesArg.below HBb.out hb'))
        obtain ⟨B, hB⟩ : ∃ B : ByteArray, B = ⟨bs.toArray⟩ := ⟨_, rfl⟩
        rw [← hB] at HCb
        have hBs : B.size = bs.length := by rw [hB]; show bs.toArray.size = _; simp
        obtain ⟨T, hT⟩ : ∃ T : ByteArray, T = F ++ ⟨#[13, 10, 13, 10]⟩ ++ B := ⟨_, rfl⟩
        have hTs : T.size = 9 + f + 4 + bs.length := by
          rw [hT, ByteArray.size_append, ByteArray.size_append, hFs, hBs]
          have e1 : (⟨#[13, 10, 13, 10]⟩ : ByteArray).size = 4 := rfl
          omega
        have HTl : Hid (T.data.toList = leafX hs bs) := by
          show T.data.toList = leafX hs bs
          rw [hT, cat_toList, cat_toList, HFl.out, hB]
          unfold leafX
          simp
        have htr : treeS T.data.toList = .mk 0 (0, F.size + 4) (F.size + 4, T.size) [] [] (0, 0) := by rw [HTl.out]; exact leafX_tree hs bs _ _ (by omega) (by omega)
        have HPa : Hid (∀ W v, bytesArg W v T.data.toList → env W → Calls Tryz.prog 8 #[v] W fun e w' => ∃ ka kc ca cc, e = .returned (.tuple #[.agg #[.int .i64 0, .int .i64 0, .int .i64 ((F.size : Int) + 4), .int .i64 ((F.size : Int) + 4), .int .i64 (T.size : Int), .slice ka 0 kc, .slice ca 0 cc, .int .i64 0, .int .i64 0], .int .i64 0]) ∧
            treeAt (fun k => W.heap.size ≤ k) w' (.mk 0 (0, F.size + 4) (F.size + 4, T.size) [] [] (0, 0)) (.agg #[.int .i64 0, .int .i64 0, .int .i64 ((F.size : Int) + 4), .int .i64 ((F.size : Int) + 4), .int .i64 (T.size : Int), .slice ka 0 kc, .slice ca 0 cc, .int .i64 0, .int .i64 0]) ∧ Below W.heap.size W w') := fun W v hv hE => by
          have hP := treeParse_any v _ W hv (by rw [len_toList]; omega) hE
          unfold treePost at hP
          rw [htr] at hP
          refine hP.mono ?_
          rintro e w' ⟨ka, kn, kc, ca, cn, cc, he, ht, hb⟩
          obtain rfl : kn = 0 := kids_len ht
          obtain ⟨ka', kn', kc', ca', cn', cc', us, hu, hcu, ho, hk⟩ := treeAt_open ht
          simp only [Value.agg.injEq, Array.mk.injEq, List.cons.injEq, Value.slice.injEq] at hu
          obtain ⟨_, _, _, _, _, ⟨rfl, rfl, rfl⟩, ⟨rfl, rfl, rfl⟩, _⟩ := hu
          obtain rfl : cn = 0 := own_len hcu
          exact ⟨ka, kc, ca, cc, he, ht, hb⟩
        have hcb := HCb.out wr HB.out
        obtain ⟨W1, cap1, hcv1, harg1, hbw1⟩ := conv_bytesArg (P := Tryz.prog) wr 9 32 5 T (by unfold maxLen; omega) Tryz.underlying9 Tryz.underlying32 Tryz.underlying5
        have HA1 := Lib.hid harg1
        have HBw := Lib.hid (HB.out.trans (hbw1.mono HB.out.size))
        have hTB : F ++ ⟨#[13, 10, 13, 10]⟩ ++ B = T := hT.symm
        have HTB := Lib.hid hTB
        have hTle : T.size ≤ 1000 := by omega
        have hFle : F.size ≤ 1000 := by omega
        have hBle : B.size ≤ 300 := by omega
        clear hB hT hTB htr harg1 hbw1 hTs hFs hBs hf hfb hF
        go_upto_region 13 with fail
        rw [HTB.out]
        go_wp2_with fail
        with_reducible refine (HPa.out _ _ HA1.out (HE.out.below HBw.out)).mono ?_
        rintro e w5 ⟨ka, kc, ca, cc, rfl, ht, hb5⟩
        have HB5 : Hid (Below w.heap.size w w5) := HBw.out.trans (hb5.mono HBw.out.size)
        have HT := Lib.hid ht
        have HCn := Lib.hid (fun (W : World) (hb : Below w5.heap.size w5 W) => count_any _ (.mk 0 (0, F.size + 4) (F.size + 4, T.size) [] [] (0, 0)) (Nat.le_refl _) (fun k => W1.heap.size ≤ k) W _ (treeAt.keep (fun q hS hq => ⟨hb.block q hq, hS⟩) _ _ HT.out) (by show 1 ≤ 1000000000; decide))
        have HDp := Lib.hid (fun (W : World) (hb : Below w5.heap.size w5 W) => deep_any _ (.mk 0 (0, F.size + 4) (F.size + 4, T.size) [] [] (0, 0)) (Nat.le_refl _) (fun k => W1.heap.size ≤ k) W _ (treeAt.keep (fun q hS hq => ⟨hb.block q hq, hS⟩) _ _ HT.out) (by show 0 ≤ 1000000000; decide) (by show 1 ≤ 1000000000; decide))
        have hc1 : (countT (.mk 0 (0, F.size + 4) (F.size + 4, T.size) [] [] (0, 0)) : Int) = 1 := rfl
        have hd0 : (deepT (.mk 0 (0, F.size + 4) (F.size + 4, T.size) [] [] (0, 0)) : Int) = 0 := rfl
        rw [hc1] at HCn
        rw [hd0] at HDp
        clear hc1 hd0 ht hb5 HPa
        go_upto_region 14 with fail
        obtain ⟨X, hX⟩ : ∃ X, X = w5.alloc (partO 0 0 ((F.size : Int) + 4) ((F.size : Int) + 4) (T.size : Int) (.slice ka 0 kc) (.slice ca 0 cc) 0 0) := ⟨_, rfl⟩
        have hBX : Below w5.heap.size w5 X := by rw [hX]; exact (Below.refl _ _).alloc (Nat.le_refl _) _
        have o0 : X.heap[w5.heap.size]? = some (partO 0 0 ((F.size : Int) + 4) ((F.size : Int) + 4) (T.size : Int) (.slice ka 0 kc) (.slice ca 0 cc) 0 0) := by rw [hX]; exact heap_alloc_new _ _
        have hz : X.heap.size = w5.heap.size + 1 := by rw [hX]; simp
        unfold partO at hX
        rw [← hX]
        obtain ⟨x0, x1, x2, x3, x4, x5, x6, x7, x8⟩ := part_cells o0
        have O0 := Lib.hid o0
        have HBX := Lib.hid hBX
        have Hz := Lib.hid hz
        have ks := span_eql
        clear hX hz o0 hBX
        go_wp2_with fail
        refine (HCn.out X HBX.out).mono ?_
        rintro e w6 ⟨rfl, hb6⟩
        have O6 := Lib.hid ((hb6.block w5.heap.size (by have := Hz.out; omega)).trans O0.out)
        have HB6 := Lib.hid (HBX.out.trans (hb6.mono HBX.out.size))
        clear hb6 x0 x1 x2 x3 x4 x5 x6 x7 x8
        obtain ⟨x0, x1, x2, x3, x4, x5, x6, x7, x8⟩ := part_cells O6.out
        go_wp2_with fail
        refine (HDp.out w6 HB6.out).mono ?_
        rintro e w7 ⟨rfl, hb7⟩
        have HB7 := Lib.hid (HB6.out.trans (hb7.mono HB6.out.size))
        clear hb7
        go_wp2_with fail
        go_ret
        exact ⟨rfl, HB5.out.trans (HB7.out.mono HB5.out.size)⟩
end Go.Proofs.YtjbleholnakdaaaGreatDoor
