/- Layer 20: StructureNests. -/
import Derived.Test.YtkmgflnmffdhjaaGreatDoorGbStR
import Derived.Test.YtkmgflnmffdhjaaGreatDoorGbParX
import Derived.Test.YtkmgflnmffdhjaaGreatDoorGbAdG
namespace Go.Proofs.YtkmgflnmffdhjaaGreatDoor
open Go Go.RowKit

theorem part_kb {H : Nat} {W W' : World} {k a b c d e f : Int} {ks cs : Value} (hb : Below W.heap.size W W') (h : W.heap[H]? = some (partO k a b c d ks cs e f)) : W'.heap[H]? = some (partO k a b c d ks cs e f) :=
  (hb.block H (Array.getElem?_eq_some_iff.1 h).1).trans h
theorem count_mem {q : Tr} : ∀ {ts : List Tr}, q ∈ ts → countT q ≤ countK ts
  | [], h => by cases h
  | t :: r, h => by
    have e : countK (t :: r) = countT t + countK r := rfl
    rcases List.mem_cons.1 h with rfl | h
    · omega
    · have := count_mem h
      omega
set_option maxRecDepth 100000 in
set_option maxHeartbeats 2000000 in
theorem structureNests_any (v : Value) (l : List UInt8) (all : Bool) (w : World) (hv : bytesArg w v l) (he : env w) :
    Calls Tryz.prog 4 #[v, .bool all] w fun e w' => e = .returned (.bool true) ∧ Below w.heap.size w w' := by
  have HE := Lib.hid he
  have HAw := Lib.hid (awake20_any w he)
  have HV := Lib.hid hv
  obtain ⟨ao, cap, rfl, hc, hm, hs⟩ := hv
  unfold maxLen at hm
  clear hs he
  by_cases hbig : l.length ≤ 1000
  · have hlt : ¬ (1000 : Int) < (l.length : Int) := by omega
    have HPa := Lib.hid (fun W h h2 => treeParse_any (.slice ao l.length cap) l W h (by omega) h2)
    unfold treePost at HPa
    have hok := tree_okT l
    have hcb := tree_count l
    obtain ⟨t, ht⟩ : ∃ t, t = treeS l := ⟨_, rfl⟩
    rw [← ht] at HPa hok hcb
    clear ht
    have hbd := bds_of (n := l.length) (by omega) t hok
    have hlen := st_len l all (by omega) t hbd.1 hbd.2
    have hlen2 : countT t * 900000000 ≤ 1000 * 900000000 := Nat.mul_le_mul_right _ hcb
    have hcp := countT_pos t
    have HPu := Lib.hid (fun W u S h1 h2 h3 => sput_any ao cap all l W h2 (by omega) h3 t S u h1 hok (by omega))
    have HPk := Lib.hid (fun W u S q (hq : q ∈ t.kids) h1 h2 h3 => sput_any ao cap all l W h2 (by omega) h3 q S u h1 (okK_mem (okT_open hok).2 q hq) (by have := count_mem hq; have := countT_eq t; omega))
    have HLen : Hid ((stT l all t).length ≤ 900000000000) := by unfold Hid; omega
    have HCp : Hid (t.kids.length ≤ 1000) := by unfold Hid; omega
    clear hok hcb hbd hlen hlen2 hcp
    go_enter Tryz.func4, Tryz.ntmps4
    go_wp2_with fail
    with_reducible refine HAw.out.mono ?_
    rintro e w1 ⟨rfl, hb1⟩
    have HB1 := Lib.hid hb1
    clear hb1 HAw
    go_wp2_with fail
    with_reducible refine (HPa.out w1 (HV.out.below HB1.out) (HE.out.below HB1.out)).mono ?_
    rintro e w2 ⟨ka, kn, kc, ca, cn, cc, rfl, htr, hb2⟩
    have HB2 := Lib.hid (HB1.out.trans (hb2.mono HB1.out.size))
    clear hb2 HPa
    obtain ⟨Y, hY⟩ : ∃ Y, Y = w2.alloc (partO t.kind t.hd.1 t.hd.2 t.bd.1 t.bd.2 (.slice ka kn kc) (.slice ca cn cc) t.e.1 t.e.2) := ⟨_, rfl⟩
    have HBY : Hid (Below w2.heap.size w2 Y) := by rw [hY]; exact (Below.refl _ _).alloc (Nat.le_refl _) _
    have HPY : Hid (Y.heap[w2.heap.size]? = some (partO t.kind t.hd.1 t.hd.2 t.bd.1 t.bd.2 (.slice ka kn kc) (.slice ca cn cc) t.e.1 t.e.2)) := by unfold Hid; rw [hY]; exact heap_alloc_new _ _
    have HB3 := Lib.hid (HB2.out.trans (HBY.out.mono HB2.out.size))
    have HTr := Lib.hid (treeAt.keep (S' := fun k => w1.heap.size ≤ k) (W' := Y) (fun q hS hq => ⟨HBY.out.block q hq, hS⟩) _ _ htr)
    have hJ : w2.heap.size < Y.heap.size := (Array.getElem?_eq_some_iff.1 HPY.out).1
    unfold partO at hY
    have HY := Lib.hid hY
    clear hY htr HBY
    go_upto_region 7 with fail
    rw [← HY.out]
    clear HY
    obtain ⟨J, hJe⟩ : ∃ J, J = w2.heap.size := ⟨_, rfl⟩
    rw [← hJe] at HPY hJ ⊢
    clear hJe
    obtain ⟨p0, p1, p2, p3, p4, p5, p6, p7, p8⟩ := part_cells HPY.out
    have HP3 := HPY
    obtain ⟨ka', kn', kc', ca', cn', cc', us, hue, _, ho, hkd⟩ := treeAt_open HTr.out
    simp only [Value.agg.injEq, Array.mk.injEq, List.cons.injEq, Value.slice.injEq] at hue
    obtain ⟨_, _, _, _, _, ⟨rfl, rfl, rfl⟩, ⟨rfl, rfl, rfl⟩, _⟩ := hue
    obtain ⟨hkn, hkc, hkm, hat⟩ := kids_at ho hkd
    obtain rfl : kn = t.kids.length := hkn
    by_cases hk1 : t.kind = 1
    · have e1 : ((t.kind : Int) == 1) = true := by rw [hk1]; rfl
      have e2 : ((t.kind : Int) != 1) = false := by rw [bne, e1]; rfl
      obtain ⟨r, hst⟩ := st_nests l all t hk1
      have hlen := HLen.out
      have hnl := HCp.out
      have HPx := Lib.hid (HPu.out Y _ _ HTr.out (HV.out.below HB3.out) (HE.out.below HB3.out))
      obtain ⟨R, hR⟩ : ∃ R : ByteArray, R = ⟨(stT l all t).toArray⟩ := ⟨_, rfl⟩
      rw [← hR] at HPx
      have HRl : Hid (R.data.toList = 40 :: (stK l all t.kids ++ 32 :: (r ++ [41]))) := by unfold Hid; rw [hR]; exact hst
      have hRz : R.size ≤ 900000000000 := by rw [str_size hR]; omega
      have hRk : (stK l all t.kids).length + 3 ≤ R.size := by
        rw [← len_toList, HRl.out]
        simp only [List.length_cons, List.length_append, List.length_nil]
        omega
      have HAt := Lib.hid hat
      clear hk1 hst hR ho hkd hat hlen HPu HTr HLen HCp
      go_wp2_with fail
      with_reducible refine HPx.out.mono ?_
      rintro e w4 ⟨rfl, hb4⟩
      have HB4 := Lib.hid hb4
      clear hb4 HPx p0 p1 p2 p3 p4 p5 p6 p7 p8
      go_wp2_with fail
      go_loopg [9, 10] t.kids.length (fun g x9 x10 wr => ∃ (i : Nat) (S : ByteArray), g = t.kids.length - i ∧ i ≤ t.kids.length ∧ x10 = .int .i64 (i : Int) ∧ x9 = .string S ∧ S.size ≤ 900000000001 ∧ Hid (S.data.toList = 40 :: stK l all (t.kids.take i)) ∧ Hid (Below Y.heap.size Y wr))
      case atStart => exact ⟨0, ⟨#[40]⟩, by omega, Nat.zero_le _, rfl, rfl, by decide, rfl, HB4.out⟩
      case round =>
        obtain ⟨i, S, rfl, hi, rfl, rfl, hSz, HS, HB⟩ := hrel
        have HPr := Lib.hid (part_kb HB.out HP3.out)
        obtain ⟨p0, p1, p2, p3, p4, p5, p6, p7, p8⟩ := part_cells HPr.out
        by_cases hlt : i < t.kids.length
        · obtain ⟨g, a, n, c, a2, n2, c2, rfl, hg, _, h9, htk⟩ := HAt.out i hlt
          obtain ⟨q0, q1, q2, q3, q4, q5, q6, q7, q8⟩ := h9.block (HB.out.block g hg)
          have HBr := Lib.hid (HB3.out.trans (HB.out.mono HB3.out.size))
          have HCl := Lib.hid (HPk.out wr _ _ t.kids[i] (List.getElem_mem hlt) (treeAt.keep (S' := fun k => w1.heap.size ≤ k) (W' := wr) (fun q hS hq => ⟨HB.out.block q hq, hS⟩) _ _ htk) (HV.out.below HBr.out) (HE.out.below HBr.out))
          have HN := Lib.hid (stK_take l all t.kids i hlt)
          have hle := stK_take_le l all t.kids (i + 1)
          rw [HN.out, List.length_append] at hle
          obtain ⟨tk, htk2⟩ : ∃ tk, tk = t.kids[i] := ⟨_, rfl⟩
          rw [← htk2] at q0 q1 q2 q3 q4 q7 q8 HCl HN hle
          obtain ⟨Q, hQ⟩ : ∃ Q : ByteArray, Q = ⟨(stT l all tk).toArray⟩ := ⟨_, rfl⟩
          have hSl : S.size = 1 + (stK l all (t.kids.take i)).length := by rw [← len_toList, HS.out, List.length_cons]; omega
          have hQz : S.size + Q.size ≤ 900000000000 := by rw [str_size hQ]; omega
          have HS2 : Hid ((S ++ Q).data.toList = 40 :: stK l all (t.kids.take (i + 1))) := by
            unfold Hid
            rw [cat_toList, HS.out, HN.out, hQ]
            rfl
          rw [← hQ] at HCl
          clear htk htk2 h9 hle hQ hSl
          go_wp2_with fail
          with_reducible refine HCl.out.mono ?_
          rintro e w5 ⟨rfl, hb5⟩
          have HB5 := Lib.hid (HB.out.trans (hb5.mono HB.out.size))
          clear hb5 HCl q0 q1 q2 q3 q4 q5 q6 q7 q8 p0 p1 p2 p3 p4 p5 p6 p7 p8
          go_wp2_with fail
          go_roundg (t.kids.length - (i + 1))
          case measure => omega
          case rel => exact ⟨i + 1, S ++ Q, rfl, by omega, by go_num, rfl, by rw [ByteArray.size_append]; omega, HS2.out, HB5.out⟩
        · obtain rfl : i = t.kids.length := by omega
          rw [List.take_length] at HS
          have HBz := Lib.hid (HB3.out.trans (HB.out.mono HB3.out.size))
          obtain ⟨T, hT⟩ : ∃ T, T = S ++ ⟨#[32]⟩ := ⟨_, rfl⟩
          have hTl : T.data.toList = 40 :: (stK l all t.kids ++ [32]) := by rw [hT, cat_toList, HS.out]; rfl
          have hTz : T.size = 2 + (stK l all t.kids).length := by rw [← len_toList, hTl]; simp only [List.length_cons, List.length_append, List.length_nil]; omega
          have hTR : (T.size : Int) < (R.size : Int) := by omega
          have hTD : decide ((T.size : Int) < (R.size : Int)) = true := decide_eq_true hTR
          have hx : R.extract 0 T.size = T := by
            refine bytes_eq ?_
            have e : (40 :: (stK l all t.kids ++ 32 :: (r ++ [41])) : List UInt8) = (40 :: (stK l all t.kids ++ [32])) ++ (r ++ [41]) := by simp
            rw [extract_toList, HRl.out, hTl, hTz, List.drop_zero, Nat.sub_zero, e]
            exact List.take_left' (by simp only [List.length_cons, List.length_append, List.length_nil]; omega)
          have hI : ∀ h : R.size - 1 < R.size, ((R[R.size - 1]'h).toNat : Int) = 41 := by
            intro h
            have e : (40 :: (stK l all t.kids ++ 32 :: (r ++ [41])) : List UInt8) = (40 :: (stK l all t.kids ++ 32 :: r)) ++ [41] := by simp
            have h1 := len_toList R
            have h2 : R.data.toList[R.size - 1]? = some 41 := by
              rw [HRl.out, e] at h1 ⊢
              rw [List.length_append] at h1
              rw [List.getElem?_append_right (by simp only [List.length_cons, List.length_nil] at h1 ⊢; omega)]
              rw [show R.size - 1 - (40 :: (stK l all t.kids ++ 32 :: r)).length = 0 by simp only [List.length_cons, List.length_nil] at h1 ⊢; omega]
              rfl
            have h3 : R[R.size - 1]'h = 41 := by
              have h4 := (List.getElem?_eq_some_iff.1 h2).2
              exact h4
            rw [h3]
            rfl
          have HT := Lib.hid hT
          clear hTl hT hTz
          go_upto_region 16 with fail
          rw [← HT.out]
          go_wp2_with fail
          go_ret
          exact ⟨rfl, HBz.out⟩
    · have e1 : ((t.kind : Int) == 1) = false := int_beq hk1
      have e2 : ((t.kind : Int) != 1) = true := by rw [bne, e1]; rfl
      go_wp2_with fail
      go_ret
      exact ⟨rfl, HB3.out⟩
  · have hlt : (1000 : Int) < (l.length : Int) := by omega
    go_enter Tryz.func4, Tryz.ntmps4
    go_wp2_with fail
    with_reducible refine HAw.out.mono ?_
    rintro e w1 ⟨rfl, hb1⟩
    go_wp2_with fail
    go_ret
    exact ⟨rfl, hb1⟩
end Go.Proofs.YtkmgflnmffdhjaaGreatDoor
