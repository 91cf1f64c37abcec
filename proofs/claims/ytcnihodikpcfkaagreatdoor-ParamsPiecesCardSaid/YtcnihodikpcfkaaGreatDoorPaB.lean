/- ParamsPieces. -/
import Derived.Test.YtcnihodikpcfkaaGreatDoorPaA
namespace Go.Proofs.YtcnihodikpcfkaaGreatDoor
open Go Go.RowKit

theorem bytes_one (s : ByteArray) (k : Nat) (h : k < s.size) : (s.extract k (k + 1)).data.toList = [s[k]] := by
  rw [extract_toList, drop_cons s k h, Nat.add_sub_cancel_left]
  rfl
theorem one_conv (W : World) (c : UInt8) (t : TypeId) (fr : Nat × Nat) : (convert 44 9 (.slice (some ⟨W.heap.size, 0, none⟩) 1 1)).run Tryz.prog (W.alloc (.cells #[.int .u8 (c.toNat : Int)] t fr)) = .ok (.string ⟨#[c]⟩) (W.alloc (.cells #[.int .u8 (c.toNat : Int)] t fr)) := by
  have h : bytesArg (W.alloc (.cells #[.int .u8 (c.toNat : Int)] t fr)) (.slice (some ⟨W.heap.size, 0, none⟩) 1 1) [c] := ⟨_, 1, rfl, Nat.le_refl _, by decide, sliceAt_new W t fr _ [c] rfl⟩
  exact bytesArg_string h

theorem ext_of (A : ByteArray) (L : List UInt8) (hA : A.data.toList = L) (k : Nat) (h : k < A.size) : (A.extract k (k + 1)).data.toList = [L.getD k 0] := by
  rw [bytes_one A k h]
  have := bytes_get A k h
  rw [hA] at this
  simp [List.getD_eq_getElem?_getD, this]
theorem dig_ext (k : Nat) (h : k < 10) : ((⟨#[48, 49, 50, 51, 52, 53, 54, 55, 56, 57]⟩ : ByteArray).extract k (k + 1)).data.toList = [UInt8.ofNat (48 + k)] := by
  rw [ext_of ⟨#[48, 49, 50, 51, 52, 53, 54, 55, 56, 57]⟩ [48, 49, 50, 51, 52, 53, 54, 55, 56, 57] rfl k h]
  have : ∀ k, k < 10 → ([48, 49, 50, 51, 52, 53, 54, 55, 56, 57] : List UInt8).getD k 0 = UInt8.ofNat (48 + k) := by decide
  rw [this k h]
theorem up_ext (k : Nat) (h : k < 16) : ((⟨#[48, 49, 50, 51, 52, 53, 54, 55, 56, 57, 65, 66, 67, 68, 69, 70]⟩ : ByteArray).extract k (k + 1)).data.toList = [hexUp k] :=
  ext_of _ [48, 49, 50, 51, 52, 53, 54, 55, 56, 57, 65, 66, 67, 68, 69, 70] rfl k h
theorem lo_ext (k : Nat) (h : k < 16) : ((⟨#[48, 49, 50, 51, 52, 53, 54, 55, 56, 57, 97, 98, 99, 100, 101, 102]⟩ : ByteArray).extract k (k + 1)).data.toList = [hexLo k] :=
  ext_of _ [48, 49, 50, 51, 52, 53, 54, 55, 56, 57, 97, 98, 99, 100, 101, 102] rfl k h
theorem and15 (b : UInt8) : bits .and .u8 (b.toNat : Int) 15 = ((b.toNat % 16 : Nat) : Int) := by
  have := and_u8 b.toNat 15 b.toNat_lt (by omega)
  rw [show (15 : Nat) = 2 ^ 4 - 1 from rfl, Nat.and_two_pow_sub_one_eq_mod] at this
  exact this

set_option maxRecDepth 100000 in
set_option maxHeartbeats 4000000 in
theorem paramsPieces_any (v : Value) (l : List UInt8) (t : UInt8) (w : World) (hv : bytesArg w v l) (he : env w) :
    Calls Tryz.prog 6 #[v, .int .u8 (t.toNat : Int)] w fun e w' => e = .returned (.bool true) ∧ Below w.heap.size w w' := by
  have HE := Lib.hid he
  have HAw := Lib.hid (awake_any w he)
  clear he
  obtain ⟨ao, cap, rfl, hcap, hcm, hsl⟩ := hv
  unfold maxLen at hcm
  have HSl : Hid (sliceAt w ao l) := hsl
  clear hsl
  have ht0 : 0 ≤ (t.toNat : Int) := by omega
  have ht1 : (t.toNat : Int) ≤ 255 := by have := t.toNat_lt; omega
  obtain ⟨n, hn⟩ : ∃ n, n = l.length := ⟨_, rfl⟩
  rw [← hn] at hcap ⊢
  have HN := Lib.hid hn
  clear hn
  by_cases h0 : n = 0
  · subst h0
    go_enter Tryz.func6, Tryz.ntmps6
    go_wp2_with fail
    with_reducible refine HAw.out.mono ?_
    rintro e w1 ⟨rfl, hb1⟩
    have HB1 := Lib.hid hb1
    clear hb1 HE HAw
    go_wp2_with fail
    go_ret
    exact ⟨rfl, HB1.out⟩
  have q0 : ((n : Int) == 0) = false := beq_no (by omega)
  by_cases h12 : 12 < n
  · have q1 : decide ((12 : Int) < (n : Int)) = true := decide_eq_true (by omega)
    go_enter Tryz.func6, Tryz.ntmps6
    go_wp2_with fail
    with_reducible refine HAw.out.mono ?_
    rintro e w1 ⟨rfl, hb1⟩
    have HB1 := Lib.hid hb1
    clear hb1 HE HAw
    go_wp2_with fail
    go_ret
    exact ⟨rfl, HB1.out⟩
  have q1 : decide ((12 : Int) < (n : Int)) = false := decide_eq_false (by omega)
  obtain ⟨vb, hvb⟩ : ∃ vb : Nat → UInt8, vb = fun k => l.getD k 0 := ⟨_, rfl⟩
  have hcell : ∃ b off, ao = some ⟨b, off, none⟩ ∧ b < w.heap.size ∧ ∀ k, k < n → w.cell? ⟨b, off + k, none⟩ = some (.int .u8 ((vb k).toNat : Int)) := by
    rcases HSl.out with h | ⟨b, off, e, hlt, hc⟩
    · exact absurd (by rw [HN.out, h]; rfl) h0
    · refine ⟨b, off, e, hlt, fun k hk => ?_⟩
      have hk' : k < l.length := by rw [← HN.out]; exact hk
      have e2 : vb k = l[k] := by rw [hvb]; simp [hk']
      rw [e2]
      exact hc k hk'
  have HVb : Hid ((List.range n).map vb = l) := by
    unfold Hid
    apply List.ext_getElem
    · simp [HN.out]
    · intro i h1 h2
      simp [hvb, h2]
  clear hvb
  obtain ⟨b, off, rfl, hblt, hcl⟩ := hcell
  have HC := Lib.hid hcl
  clear hcl HSl
  have hn0 : 0 < n := by omega
  have hn12 : n ≤ 12 := by omega
  clear h0 h12
  go_enter Tryz.func6, Tryz.ntmps6
  go_wp2_with fail
  with_reducible refine HAw.out.mono ?_
  rintro e w1 ⟨rfl, hb1⟩
  have HB1 := Lib.hid hb1
  have hbl1 : b < w1.heap.size := Nat.lt_of_lt_of_le hblt hb1.size
  have HC1 : Hid (∀ k, k < n → w1.cell? ⟨b, off + k, none⟩ = some (.int .u8 ((vb k).toNat : Int))) := fun k hk => (hb1.cell (p := ⟨b, off + k, none⟩) hblt).trans (HC.out k hk)
  have HE1 := Lib.hid (HE.out.below hb1)
  clear hb1 HE HAw HC hblt
  go_wp2_with fail
  go_loopg [7, 8] n (fun q sv iv wr => ∃ (i : Nat) (V : ByteArray), q = n - i ∧ i ≤ n ∧ iv = .int .i64 (i : Int) ∧ sv = .string V ∧ V.size = i ∧ Hid (V.data.toList = (List.range i).map vb) ∧ Hid (Below w1.heap.size w1 wr))
  case atStart => exact ⟨0, ⟨#[]⟩, by omega, by omega, rfl, rfl, rfl, rfl, Below.refl _ _⟩
  case round =>
    obtain ⟨i, V, rfl, hi, rfl, rfl, hVs, HV, HB⟩ := hrel
    by_cases hlt : i < n
    · have c0 := (HB.out.cell (p := ⟨b, off + i, none⟩) hbl1).trans (HC1.out i hlt)
      replace c0 : wr.cell? ⟨b, off + i, none⟩ = some (.int .u8 ((vb i).toNat : Int)) := c0
      have HVs := Lib.hid hVs
      have hVl : V.size ≤ 12 := by omega
      obtain ⟨c, hc⟩ : ∃ c, c = vb i := ⟨_, rfl⟩
      rw [← hc] at c0
      have hcv := Lib.hid hc
      have kc := one_conv wr c 5 (0, 0)
      clear hVs hc
      go_wp2_with fail
      go_roundg (n - (i + 1))
      case measure => omega
      case rel =>
        refine ⟨i + 1, V ++ ⟨#[c]⟩, rfl, by omega, by go_num, rfl, ?_, ?_, HB.out.alloc HB.out.size _⟩
        · rw [ByteArray.size_append, HVs.out]; rfl
        · unfold Hid
          rw [cat_toList, HV.out, hcv.out, List.range_succ, List.map_append]
          rfl
    · obtain rfl : n = i := by omega
      have HWant : Hid (V.data.toList = l) := by unfold Hid; rw [HV.out, HVb.out]
      have HB2 := HB
      have HVs := Lib.hid hVs
      have hVl : V.size ≤ 12 := by omega
      clear HV HB hVs hi
      go_wp2_with fail
      go_loopg [6, 9] n (fun q sv iv wx => ∃ (i : Nat) (S : ByteArray), q = n - i ∧ i ≤ n ∧ iv = .int .i64 (i : Int) ∧ sv = .string S ∧ S.size ≤ 10 + 25 * i ∧ Hid (S.data.toList = attB ++ txtK vb (ksOf n t.toNat i)) ∧ Hid (Below w1.heap.size w1 wx))
      case atStart => exact ⟨0, ⟨#[97, 116, 116, 97, 99, 104, 109, 101, 110, 116]⟩, by omega, by omega, rfl, rfl, by decide, rfl, HB2.out⟩
      case round =>
        obtain ⟨j, S, rfl, hj, rfl, rfl, hSs, HS, HB⟩ := hrel
        by_cases hjn : j < n
        · obtain ⟨K, hK⟩ : ∃ K, K = (j + t.toNat) % n := ⟨_, rfl⟩
          have hKn : K < n := by rw [hK]; exact Nat.mod_lt _ hn0
          have HK := Lib.hid hK
          have eK : ((j : Int) + (t.toNat : Int)) % (n : Int) = (K : Int) := by rw [hK]; exact_mod_cast rfl
          obtain ⟨c, hc⟩ : ∃ c, c = vb K := ⟨_, rfl⟩
          have c0 := (HB.out.cell (p := ⟨b, off + K, none⟩) hbl1).trans (HC1.out K hKn)
          replace c0 : wr.cell? ⟨b, off + K, none⟩ = some (.int .u8 ((vb K).toNat : Int)) := c0
          rw [← hc] at c0
          have hcv := Lib.hid hc
          obtain ⟨x, hx⟩ : ∃ x, x = c.toNat / 16 := ⟨_, rfl⟩
          obtain ⟨y, hy⟩ : ∃ y, y = c.toNat % 16 := ⟨_, rfl⟩
          have hcl := c.toNat_lt
          have hx16 : x < 16 := by omega
          have hy16 : y < 16 := by omega
          have e4 : (c.toNat : Int) / 16 = (x : Int) := by omega
          have e15 := and15 c
          rw [← hy] at e15
          have HXY := Lib.hid (And.intro hx hy)
          clear hK hc hx hy hcl
          have HE2 : Hid (entK K (vb K) = [59, 32, 102, 105, 108, 101, 110, 97, 109, 101, 42] ++ digK K ++ [42, 61] ++ utK K ++ [37, hexUp x, hexLo y]) := by
            unfold Hid
            rw [← hcv.out, HXY.out.1, HXY.out.2]
            simp [entK, preK, hx2, fnB]
          rcases (by omega : K = 0 ∨ (1 ≤ K ∧ K ≤ 9) ∨ 10 ≤ K) with hk | ⟨hk1, hk9⟩ | hk10
          · have eM : (K : Int).tmod 10 = ((0 : Nat) : Int) := by rw [hk]; rfl
            have eM2 : (K : Int) % 10 = ((0 : Nat) : Int) := by omega
            have eN : K % 10 = 0 := by omega
            have q9 : decide ((9 : Int) < (K : Int)) = false := decide_eq_false (by omega)
            have qz : ((K : Int) == 0) = true := by rw [hk]; rfl
            have Hk := Lib.hid hk
            clear hk
            go_wp2_with fail
            go_quiet (fail)
            go_wp2_with fail
            go_roundg (n - (j + 1))
            case measure => omega
            case rel =>
              have hL : (S ++ ((⟨#[59, 32, 102, 105, 108, 101, 110, 97, 109, 101, 42]⟩ : ByteArray) ++ (⟨#[48, 49, 50, 51, 52, 53, 54, 55, 56, 57]⟩ : ByteArray).extract 0 1 ++ (⟨#[42, 61]⟩ : ByteArray) ++ ((⟨#[117, 116, 102, 45, 56, 39, 39]⟩ : ByteArray) ++ ((⟨#[37]⟩ : ByteArray) ++ ((⟨#[48, 49, 50, 51, 52, 53, 54, 55, 56, 57, 65, 66, 67, 68, 69, 70]⟩ : ByteArray).extract x (x + 1) ++ (⟨#[48, 49, 50, 51, 52, 53, 54, 55, 56, 57, 97, 98, 99, 100, 101, 102]⟩ : ByteArray).extract y (y + 1)))))).data.toList = S.data.toList ++ entK K (vb K) := by
                rw [HE2.out]
                simp only [cat_toList, up_ext x hx16, lo_ext y hy16]
                rw [dig_ext 0 (by decide), Hk.out]
                rfl
              refine ⟨j + 1, S ++ ((⟨#[59, 32, 102, 105, 108, 101, 110, 97, 109, 101, 42]⟩ : ByteArray) ++ (⟨#[48, 49, 50, 51, 52, 53, 54, 55, 56, 57]⟩ : ByteArray).extract 0 1 ++ (⟨#[42, 61]⟩ : ByteArray) ++ ((⟨#[117, 116, 102, 45, 56, 39, 39]⟩ : ByteArray) ++ ((⟨#[37]⟩ : ByteArray) ++ ((⟨#[48, 49, 50, 51, 52, 53, 54, 55, 56, 57, 65, 66, 67, 68, 69, 70]⟩ : ByteArray).extract x (x + 1) ++ (⟨#[48, 49, 50, 51, 52, 53, 54, 55, 56, 57, 97, 98, 99, 100, 101, 102]⟩ : ByteArray).extract y (y + 1))))), rfl, by omega, by go_num, rfl, ?_, ?_, HB.out.trans ((below_drewN' nq).mono HB.out.size)⟩
              · rw [← len_toList, hL, List.length_append, len_toList]
                have := entK_len K (vb K)
                omega
              · unfold Hid
                rw [hL, HS.out, ks_succ, txtK_snoc, ← HK.out, List.append_assoc]
          · have eM2 : (K : Int) % 10 = (K : Int) := by omega
            have eM : (K : Int).tmod 10 = (K : Int) := by rw [Int.tmod_eq_emod_of_nonneg (by omega)]; exact eM2
            have eN : K % 10 = K := by omega
            have q9 : decide ((9 : Int) < (K : Int)) = false := decide_eq_false (by omega)
            have qz : ((K : Int) == 0) = false := beq_no (by omega)
            go_wp2_with fail
            go_quiet (fail)
            go_wp2_with fail
            go_roundg (n - (j + 1))
            case measure => omega
            case rel =>
              have hL : (S ++ ((⟨#[59, 32, 102, 105, 108, 101, 110, 97, 109, 101, 42]⟩ : ByteArray) ++ (⟨#[48, 49, 50, 51, 52, 53, 54, 55, 56, 57]⟩ : ByteArray).extract K (K + 1) ++ (⟨#[42, 61]⟩ : ByteArray) ++ ((⟨#[37]⟩ : ByteArray) ++ ((⟨#[48, 49, 50, 51, 52, 53, 54, 55, 56, 57, 65, 66, 67, 68, 69, 70]⟩ : ByteArray).extract x (x + 1) ++ (⟨#[48, 49, 50, 51, 52, 53, 54, 55, 56, 57, 97, 98, 99, 100, 101, 102]⟩ : ByteArray).extract y (y + 1))))).data.toList = S.data.toList ++ entK K (vb K) := by
                rw [HE2.out]
                simp only [cat_toList, up_ext x hx16, lo_ext y hy16]
                rw [dig_ext K (by omega)]
                have e1 : digK K = [UInt8.ofNat (48 + K)] := by unfold digK; rw [if_pos (by omega)]
                have e2 : utK K = [] := by unfold utK; rw [if_neg (by omega)]
                rw [e1, e2]
                simp
              refine ⟨j + 1, S ++ ((⟨#[59, 32, 102, 105, 108, 101, 110, 97, 109, 101, 42]⟩ : ByteArray) ++ (⟨#[48, 49, 50, 51, 52, 53, 54, 55, 56, 57]⟩ : ByteArray).extract K (K + 1) ++ (⟨#[42, 61]⟩ : ByteArray) ++ ((⟨#[37]⟩ : ByteArray) ++ ((⟨#[48, 49, 50, 51, 52, 53, 54, 55, 56, 57, 65, 66, 67, 68, 69, 70]⟩ : ByteArray).extract x (x + 1) ++ (⟨#[48, 49, 50, 51, 52, 53, 54, 55, 56, 57, 97, 98, 99, 100, 101, 102]⟩ : ByteArray).extract y (y + 1)))), rfl, by omega, by go_num, rfl, ?_, ?_, HB.out.trans ((below_drewN' nq).mono HB.out.size)⟩
              · rw [← len_toList, hL, List.length_append, len_toList]
                have := entK_len K (vb K)
                omega
              · unfold Hid
                rw [hL, HS.out, ks_succ, txtK_snoc, ← HK.out, List.append_assoc]
          · obtain ⟨M, hM⟩ : ∃ M, K = M + 10 := ⟨K - 10, by omega⟩
            have hM2 : M < 2 := by omega
            have eM2 : (K : Int) % 10 = (M : Int) := by omega
            have eM : (K : Int).tmod 10 = (M : Int) := by rw [Int.tmod_eq_emod_of_nonneg (by omega)]; exact eM2
            have eN : K % 10 = M := by omega
            have q9 : decide ((9 : Int) < (K : Int)) = true := decide_eq_true (by omega)
            have qz : ((K : Int) == 0) = false := beq_no (by omega)
            have HM := Lib.hid hM
            clear hM
            go_wp2_with fail
            go_quiet (fail)
            go_wp2_with fail
            go_roundg (n - (j + 1))
            case measure => omega
            case rel =>
              have hL : (S ++ ((⟨#[59, 32, 102, 105, 108, 101, 110, 97, 109, 101, 42]⟩ : ByteArray) ++ (⟨#[49]⟩ ++ (⟨#[48, 49, 50, 51, 52, 53, 54, 55, 56, 57]⟩ : ByteArray).extract M (M + 1)) ++ (⟨#[42, 61]⟩ : ByteArray) ++ ((⟨#[37]⟩ : ByteArray) ++ ((⟨#[48, 49, 50, 51, 52, 53, 54, 55, 56, 57, 65, 66, 67, 68, 69, 70]⟩ : ByteArray).extract x (x + 1) ++ (⟨#[48, 49, 50, 51, 52, 53, 54, 55, 56, 57, 97, 98, 99, 100, 101, 102]⟩ : ByteArray).extract y (y + 1))))).data.toList = S.data.toList ++ entK K (vb K) := by
                rw [HE2.out]
                simp only [cat_toList, up_ext x hx16, lo_ext y hy16]
                rw [dig_ext M (by omega)]
                have e1 : digK K = [49, UInt8.ofNat (48 + M)] := by unfold digK; rw [if_neg (by omega), show K - 10 = M by have := HM.out; omega]
                have e2 : utK K = [] := by unfold utK; rw [if_neg (by omega)]
                rw [e1, e2]
                simp
              refine ⟨j + 1, S ++ ((⟨#[59, 32, 102, 105, 108, 101, 110, 97, 109, 101, 42]⟩ : ByteArray) ++ (⟨#[49]⟩ ++ (⟨#[48, 49, 50, 51, 52, 53, 54, 55, 56, 57]⟩ : ByteArray).extract M (M + 1)) ++ (⟨#[42, 61]⟩ : ByteArray) ++ ((⟨#[37]⟩ : ByteArray) ++ ((⟨#[48, 49, 50, 51, 52, 53, 54, 55, 56, 57, 65, 66, 67, 68, 69, 70]⟩ : ByteArray).extract x (x + 1) ++ (⟨#[48, 49, 50, 51, 52, 53, 54, 55, 56, 57, 97, 98, 99, 100, 101, 102]⟩ : ByteArray).extract y (y + 1)))), rfl, by omega, by go_num, rfl, ?_, ?_, HB.out.trans ((below_drewN' nq).mono HB.out.size)⟩
              · rw [← len_toList, hL, List.length_append, len_toList]
                have := entK_len K (vb K)
                omega
              · unfold Hid
                rw [hL, HS.out, ks_succ, txtK_snoc, ← HK.out, List.append_assoc]
        · obtain rfl : n = j := by omega
          have hV : parseL S.data.toList false = some ⟨attB, [], [(fnB, l)]⟩ := by
            rw [HS.out, parse_pieces vb (ksOf n t.toNat n) n hn0 hn12 (by simp [ksOf]) (ks_lt hn0) (fun k hk => ks_in hk), HVb.out]
          have HB3 := Lib.hid (HB1.out.trans (HB.out.mono HB1.out.size))
          have HP := Lib.hid (parse_some S false _ hV wr (by omega) (HE1.out.below HB.out))
          clear hV HS HB HC1 HB2 HE1 HB1
          go_wp2_with fail
          with_reducible refine HP.out.mono ?_
          rintro e w5 ⟨a5, n5, c5, rfl, hpr, hb5⟩
          have HB5 := Lib.hid (HB3.out.trans (hb5.mono HB3.out.size))
          have HPr := Lib.hid hpr
          obtain ⟨_, cap5, e0, hc1, hc2, _⟩ := hpr
          cases e0
          unfold maxLen at hc2
          have hc1' : 1 ≤ c5 := hc1
          obtain ⟨Y, hY⟩ : ∃ Y : ByteArray, Y = ⟨l.toArray⟩ := ⟨_, rfl⟩
          have hYs : (Y.toList == V.toList) = true := str_eq (by rw [hY, HWant.out])
          have HG1 := Lib.hid (fun W h1 => get_any ⟨attB.toArray⟩ ⟨#[]⟩ (.slice a5 1 c5) [(fnB, l)] ⟨#[102, 105, 108, 101, 110, 97, 109, 101]⟩ W h1 (by intro p hp; rw [List.mem_singleton.1 hp]; simp [fnB]))
          have g1 : getP [(fnB, l)] (⟨#[102, 105, 108, 101, 110, 97, 109, 101]⟩ : ByteArray).data.toList = some l := by kernel_rfl
          rw [g1] at HG1
          unfold getOV at HG1
          simp only [← hY] at HG1
          have HAl : Hid (Below w5.heap.size w5 (w5.alloc (.cells #[.string ⟨attB.toArray⟩, .string ⟨#[]⟩, .slice a5 1 c5] 25))) := (Below.refl _ _).alloc (Nat.le_refl _) _
          have HG1' := Lib.hid (HG1.out _ (HPr.out.below HAl.out))
          clear hc1 hY g1 hb5 HP HB3 HG1
          simp only [List.length_cons, List.length_nil]
          unfold attB at HG1' HAl ⊢
          go_wp2_with fail
          with_reducible refine HG1'.out.mono ?_
          rintro e w6 ⟨rfl, hb6⟩
          obtain ⟨x0, x1, x2⟩ := box3_cells hb6
          have HB6 := Lib.hid (HB5.out.trans ((HAl.out.trans (hb6.mono (by simp))).mono HB5.out.size))
          clear hb6 HG1' HAl
          go_wp2_with fail
          go_ret
          exact ⟨rfl, HB6.out⟩
end Go.Proofs.YtcnihodikpcfkaaGreatDoor
