/- Layer 18: contracts of the document's texts as strings and atoms. -/
import Derived.Test.YtbphnlaoiikebaaGreatDoorGbEnA
import Derived.Test.YtbphnlaoiikebaaGreatDoorGbQu
import Derived.Test.YtbphnlaoiikebaaGreatDoorGbTrN
import Derived.Test.YtbphnlaoiikebaaGreatDoorGbTrB
import Derived.Test.YtbphnlaoiikebaaGreatDoorGbTrF
namespace Go.Proofs.YtbphnlaoiikebaaGreatDoor
open Go Go.RowKit

set_option maxRecDepth 100000 in
theorem rprinted_any (s : ByteArray) (w : World) (hl : s.size ≤ 9223372036854775807) :
    Calls Tryz.prog 52 #[.string s] w fun e w' => e = .returned (.bool (s.data.toList.all prB)) ∧ w = w' := by
  obtain ⟨x, hx⟩ : ∃ x, x = s.data.toList.all prB := ⟨_, rfl⟩
  rw [← hx]
  have HX := Lib.hid hx
  clear hx
  go_enter Tryz.func52, Tryz.ntmps52
  go_wp2_with fail
  go_loopg [3] s.size (fun g i wr => ∃ j : Nat, g = s.size - j ∧ j ≤ s.size ∧ i = .int .i64 (j : Int) ∧ w = wr ∧ Hid ((s.data.toList.take j).all prB = true))
  case atStart => exact ⟨0, by omega, by omega, rfl, rfl, rfl⟩
  case round =>
    obtain ⟨j, rfl, hj, rfl, rfl, HS⟩ := hrel
    by_cases hlt : j < s.size
    · have hd : ((j : Int) < (s.size : Int)) := by omega
      by_cases h1 : (s[j].toNat : Int) < 32
      · have hb : Hid (prB s[j] = false) := by unfold Hid prB; rw [decide_eq_false]; omega
        go_wp2_with fail
        go_ret
        exact ⟨ret_bool (HX.out.trans (all_not_at hlt hb.out)).symm, rfl⟩
      · have h1b : decide ((s[j].toNat : Int) < 32) = false := decide_eq_false h1
        by_cases h2 : (126 : Int) < (s[j].toNat : Int)
        · have hb : Hid (prB s[j] = false) := by unfold Hid prB; rw [decide_eq_false]; omega
          go_wp2_with fail
          go_ret
          exact ⟨ret_bool (HX.out.trans (all_not_at hlt hb.out)).symm, rfl⟩
        · have h2b : decide ((126 : Int) < (s[j].toNat : Int)) = false := decide_eq_false h2
          have hb : Hid (prB s[j] = true) := by unfold Hid prB; rw [decide_eq_true_iff]; omega
          go_wp2_with fail
          go_roundg (s.size - (j + 1))
          case measure => omega
          case rel => exact ⟨j + 1, rfl, hlt, by go_num, rfl, all_upto hlt HS.out hb.out⟩
    · go_wp2_with fail
      go_ret
      exact ⟨ret_bool (HX.out.trans (all_whole (by omega) HS.out)).symm, rfl⟩
theorem hasI_mem (s : ByteArray) : hasI s 0 = decide ((0 : UInt8) ∈ s.data.toList) := by
  unfold hasI
  rw [Bool.eq_iff_iff, List.any_eq_true, decide_eq_true_iff]
  constructor
  · rintro ⟨b, hb, e⟩
    have h := beq_iff_eq.1 e
    have : b = 0 := toNat_eq (by show b.toNat = 0; omega)
    rw [← this]
    exact hb
  · intro h
    exact ⟨0, h, rfl⟩
set_option maxRecDepth 100000 in
theorem rstring_any (s : ByteArray) (w : World) (hl : s.size ≤ 9223372036854775000) :
    Calls Tryz.prog 28 #[.string s] w fun e w' => e = .returned (.string ⟨(strW s.data.toList).toArray⟩) ∧ Below w.heap.size w w' := by
  have HE := Lib.hid (fun W => rprinted_any s W (by omega))
  have HI := Lib.hid (fun W => in_any s 0 W (by omega))
  rw [hasI_mem] at HI
  obtain ⟨T, hT⟩ : ∃ T : ByteArray, T = ⟨(Lib.itoa (s.size : Int)).toArray⟩ := ⟨_, rfl⟩
  have hTs : T.size ≤ 21 := by rw [hT]; exact itoa_nat_len s.size (by omega)
  have HT : Hid (T.data.toList = Lib.itoa ((s.data.toList.length : Nat) : Int)) := by unfold Hid; rw [hT, len_toList]
  have HD : Hid (∀ W, Calls Tryz.prog 55 #[.int .i64 (s.size : Int)] W fun e w' => e = .returned (.string T) ∧ Below W.heap.size W w') := fun W =>
    (refDigits_any (s.size : Int) (by omega) (by omega) W).mono fun e w' ⟨he, k, hw⟩ => ⟨by rw [he, hT], by rw [hw]; exact below_drewN' k⟩
  clear hT
  by_cases hc : s.data.toList.all prB = true ∧ s.data.toList.length ≤ 1000
  · have hi : (s.size : Int) ≤ 1000 := by have := hc.2; simp at this; omega
    have HQ : Hid (∀ W, Calls Tryz.prog 53 #[.string s] W fun e w' => e = .returned (.string ⟨(quoteL s.data.toList).toArray⟩) ∧ W = w') := fun W =>
      (refQuotedT_any s W (by omega)).mono fun e w' ⟨T, he, hT, hw⟩ => ⟨by rw [he]; exact ret_str (bytes_eq (by rw [hT])), hw⟩
    have HS := Lib.hid (strW_quo hc.1 hc.2)
    rw [hc.1] at HE
    clear hc
    go_enter Tryz.func28, Tryz.ntmps28
    go_wp2_with fail
    with_reducible refine (HE.out _).mono ?_
    rintro e w1 ⟨rfl, rfl⟩
    go_wp2_with fail
    with_reducible refine (HQ.out _).mono ?_
    rintro e w2 ⟨rfl, rfl⟩
    go_wp2_with fail
    go_ret
    rw [HS.out]
    exact ⟨rfl, Below.refl _ _⟩
  · have HS := Lib.hid (strW_lit hc)
    have hx : s.data.toList.all prB = false ∨ (s.data.toList.all prB = true ∧ ¬ (s.size : Int) ≤ 1000) := by
      rcases Bool.eq_false_or_eq_true (s.data.toList.all prB) with h | h
      · refine .inr ⟨h, fun h2 => hc ⟨h, ?_⟩⟩
        simp
        omega
      · exact .inl h
    have HLt : Hid (∀ z : Bool, z = decide ((0 : UInt8) ∈ s.data.toList) → litT s.data.toList = (if z = true then [126] else []) ++ (123 :: (T.data.toList ++ (125 :: 13 :: 10 :: s.data.toList)))) := by
      intro z hz
      subst hz
      unfold litT
      rw [HT.out]
      by_cases h0 : (0 : UInt8) ∈ s.data.toList
      · rw [if_pos h0, if_pos (decide_eq_true h0)]
      · rw [if_neg h0, if_neg (by rw [decide_eq_false h0]; decide)]
    obtain ⟨z, hz⟩ : ∃ z, z = decide ((0 : UInt8) ∈ s.data.toList) := ⟨_, rfl⟩
    rw [← hz] at HI
    have HL := Lib.hid (HLt.out z hz)
    clear hz hc HLt
    rcases hx with hx | ⟨hx, hi⟩
    · rw [hx] at HE
      clear hx
      cases z <;>
      · go_enter Tryz.func28, Tryz.ntmps28
        go_wp2_with fail
        with_reducible refine (HE.out _).mono ?_
        rintro e w1 ⟨rfl, rfl⟩
        go_wp2_with fail
        with_reducible refine (HI.out _).mono ?_
        rintro e w2 ⟨rfl, rfl⟩
        go_wp2_with fail
        with_reducible refine (HD.out _).mono ?_
        rintro e w3 ⟨rfl, hb3⟩
        go_wp2_with fail
        go_ret
        refine ⟨ret_str (bytes_eq ?_), hb3⟩
        rw [HS.out, HL.out]
        simp
    · have hi2 : decide ((s.size : Int) ≤ 1000) = false := decide_eq_false hi
      rw [hx] at HE
      clear hx
      cases z <;>
      · go_enter Tryz.func28, Tryz.ntmps28
        go_wp2_with fail
        with_reducible refine (HE.out _).mono ?_
        rintro e w1 ⟨rfl, rfl⟩
        go_wp2_with fail
        with_reducible refine (HI.out _).mono ?_
        rintro e w2 ⟨rfl, rfl⟩
        go_wp2_with fail
        with_reducible refine (HD.out _).mono ?_
        rintro e w3 ⟨rfl, hb3⟩
        go_wp2_with fail
        go_ret
        refine ⟨ret_str (bytes_eq ?_), hb3⟩
        rw [HS.out, HL.out]
        simp
end Go.Proofs.YtbphnlaoiikebaaGreatDoor

/- Layer 19: contracts of the document's List. -/
namespace Go.Proofs.YtbphnlaoiikebaaGreatDoor
open Go Go.RowKit

theorem rnst_any (s : ByteArray) (b : Bool) (w : World) (hl : s.size ≤ 9223372036854775000) :
    Calls Tryz.prog 16 #[.string s, .bool b] w fun e w' => e = .returned (.string ⟨(nstW s.data.toList b).toArray⟩) ∧ Below w.heap.size w w' := by
  have HS := Lib.hid (fun W => rstring_any s W hl)
  cases b with
  | true =>
    go_enter Tryz.func16, Tryz.ntmps16
    go_wp2_with fail
    with_reducible refine (HS.out _).mono ?_
    rintro e w1 ⟨rfl, hb1⟩
    go_wp2_with fail
    go_ret
    exact ⟨rfl, hb1⟩
  | false =>
    go_enter Tryz.func16, Tryz.ntmps16
    go_wp2_with fail
    go_ret
    exact ⟨rfl, Below.refl _ _⟩
theorem ne_list2 (s : ByteArray) : (s.toList != []) = neB s.data.toList := by
  rw [bne]
  have h : (s.toList == []) = !neB s.data.toList := by
    rw [ByteArray.toList_eq]
    unfold neB
    cases s.data.toList <;> rfl
  rw [h, Bool.not_not]
theorem ne_list1 (s : ByteArray) : (s.toList == []) = !neB s.data.toList := by
  rw [ByteArray.toList_eq]
  unfold neB
  cases s.data.toList <;> rfl
set_option maxRecDepth 100000 in
set_option maxHeartbeats 8000000 in
theorem rlist_any (v : Value) (l : List Adx) (w : World) (hv : rowAdx w v l) (hs : smallX l 1048576) (hll : l.length ≤ 1000) :
    Calls Tryz.prog 8 #[v] w fun e w' => ∃ R : ByteArray, e = .returned (.string R) ∧ R.data.toList = listW l ∧ Below w.heap.size w w' := by
  obtain ⟨ao, cap, rfl, hc, hm, hcells⟩ := hv.at
  unfold maxLen at hm
  have HC := Lib.hid hcells
  have HSm := Lib.hid hs
  by_cases h0 : l = []
  · subst h0
    clear hcells hs hv
    go_enter Tryz.func8, Tryz.ntmps8
    go_wp2_with fail
    go_ret
    exact ⟨_, rfl, rfl, Below.refl _ _⟩
  obtain ⟨n, hn⟩ : ∃ n, n = l.length := ⟨_, rfl⟩
  have hn0 : 0 < n := by rw [hn]; exact List.length_pos_iff.2 h0
  rw [← hn] at hc hll ⊢
  have HN := Lib.hid hn
  have H0 := Lib.hid h0
  have bn0 : ((n : Int) == 0) = false := beq_no (by omega)
  clear hcells hs hn hv h0
  go_enter Tryz.func8, Tryz.ntmps8
  go_wp2_with fail
  go_loopg [3, 4] n (fun g v3 v4 wr => ∃ (i : Nat) (T : ByteArray), g = n - i ∧ i ≤ n ∧ v4 = .int .i64 (i : Int) ∧ v3 = .string T ∧ T.size ≤ i * 10000000 ∧ Hid (T.data.toList = (l.take i).flatMap adrW) ∧ Hid (Below w.heap.size w wr))
  case atStart => exact ⟨0, ⟨#[]⟩, by omega, by omega, rfl, rfl, by decide, rfl, Below.refl _ _⟩
  case round =>
    obtain ⟨i, T, rfl, hi, rfl, rfl, hal, HA, HB⟩ := hrel
    by_cases hlt : i < n
    · have hil : i < l.length := by rw [← HN.out]; exact hlt
      obtain ⟨g, off, rfl, hg, z0, z1, z2, z3⟩ := HC.out i hil
      obtain ⟨hs1, hs2, hs3⟩ := HSm.out l[i] (List.getElem_mem hil)
      have hil2 := adrW_size l[i] 1048576 (by decide) hs1 hs2 hs3
      have hT := List.take_succ_eq_append_getElem (l := l) (i := i) hil
      obtain ⟨a, ha⟩ : ∃ a, a = l[i] := ⟨_, rfl⟩
      rw [← ha] at z0 z1 z2 z3 hT hs1 hs2 hs3 hil2
      obtain ⟨K, nm, lo, ho⟩ := a
      simp only at z0 z1 z2 z3 hs1 hs2 hs3 hil2
      have c0 := (HB.out.cell (p := ⟨g, off + i * 4, none⟩) hg).trans z0
      have c1 := (HB.out.cell (p := ⟨g, off + i * 4 + 1, none⟩) hg).trans z1
      have c2 := (HB.out.cell (p := ⟨g, off + i * 4 + 2, none⟩) hg).trans z2
      have c3 := (HB.out.cell (p := ⟨g, off + i * 4 + 3, none⟩) hg).trans z3
      obtain ⟨N, hN⟩ : ∃ N : ByteArray, N = ⟨nm.toArray⟩ := ⟨_, rfl⟩
      obtain ⟨L, hL⟩ : ∃ L : ByteArray, L = ⟨lo.toArray⟩ := ⟨_, rfl⟩
      obtain ⟨H, hH⟩ : ∃ H : ByteArray, H = ⟨ho.toArray⟩ := ⟨_, rfl⟩
      have lN : N.data.toList = nm := by rw [hN]
      have lL : L.data.toList = lo := by rw [hL]
      have lH : H.data.toList = ho := by rw [hH]
      rw [← hN] at c1
      rw [← hL] at c2
      rw [← hH] at c3
      have sN : N.size ≤ 1048576 := by rw [← len_toList, lN]; exact hs1
      have sL : L.size ≤ 1048576 := by rw [← len_toList, lL]; exact hs2
      have sH : H.size ≤ 1048576 := by rw [← len_toList, lH]; exact hs3
      have HST : Hid (∀ U : ByteArray, U.data.toList = T.data.toList ++ adrW ⟨K, nm, lo, ho⟩ → U.data.toList = (l.take (i + 1)).flatMap adrW ∧ U.size ≤ (i + 1) * 10000000) := by
        intro U hU
        constructor
        · rw [hU, hT, List.flatMap_append, HA.out]
          simp
        · rw [← len_toList, hU, List.length_append, len_toList]
          omega
      have hgw : g < wr.heap.size := Nat.lt_of_lt_of_le hg HB.out.size
      have hEq : adrW ⟨K, nm, lo, ho⟩ = adrW ⟨K, N.data.toList, L.data.toList, H.data.toList⟩ := by rw [lN, lL, lH]
      rw [hEq] at HST
      obtain ⟨X1, hX1⟩ : ∃ W1, W1 = wr.alloc (.cells #[.int .i64 K, .string N, .string L, .string H] 27) := ⟨_, rfl⟩
      have hcell : X1.heap[wr.heap.size]? = some (.cells #[.int .i64 K, .string N, .string L, .string H] 27 (0, 0)) := by rw [hX1]; exact heap_alloc_new wr _
      have HB1 : Hid (Below w.heap.size w X1) := by rw [hX1]; exact HB.out.alloc HB.out.size _
      have HX1 := Lib.hid hX1
      obtain ⟨A, hA⟩ : ∃ A, A = wr.heap.size := ⟨_, rfl⟩
      have HAw := Lib.hid hA
      rw [← hA] at hcell
      have d0 : X1.cell? ⟨A, 0, none⟩ = some (.int .i64 K) := by simp [World.cell?, hcell]
      have d1 : X1.cell? ⟨A, 1, none⟩ = some (.string N) := by simp [World.cell?, hcell]
      have d2 : X1.cell? ⟨A, 2, none⟩ = some (.string L) := by simp [World.cell?, hcell]
      have d3 : X1.cell? ⟨A, 3, none⟩ = some (.string H) := by simp [World.cell?, hcell]
      clear z0 z1 z2 z3 hT hN hL hH hs1 hs2 hs3 hil2 lN lL lH ha hEq hX1 hcell hA
      by_cases k0 : K = 0
      · subst k0
        obtain ⟨zn, hzn⟩ : ∃ z, z = neB N.data.toList := ⟨_, rfl⟩
        obtain ⟨zh, hzh⟩ : ∃ z, z = neB H.data.toList := ⟨_, rfl⟩
        have q1 := ne_list2 N
        have q2 := ne_list2 H
        have q3 := ne_list1 N
        have q4 := ne_list1 H
        rw [← hzn] at q1 q3
        rw [← hzh] at q2 q4
        have HS1 := Lib.hid (fun W => rnst_any N zn W (by omega))
        have HS2 := Lib.hid (fun W => rnst_any L true W (by omega))
        have HS3 := Lib.hid (fun W => rnst_any H zh W (by omega))
        obtain ⟨a, ha⟩ : ∃ a : ByteArray, a = ⟨(nstW N.data.toList zn).toArray⟩ := ⟨_, rfl⟩
        obtain ⟨b, hb⟩ : ∃ b : ByteArray, b = ⟨(nstW L.data.toList true).toArray⟩ := ⟨_, rfl⟩
        obtain ⟨c, hc'⟩ : ∃ c : ByteArray, c = ⟨(nstW H.data.toList zh).toArray⟩ := ⟨_, rfl⟩
        rw [← ha] at HS1
        rw [← hb] at HS2
        rw [← hc'] at HS3
        have la : a.data.toList = nstW N.data.toList (neB N.data.toList) := by rw [ha, hzn]
        have lb : b.data.toList = strW L.data.toList := by rw [hb]; rfl
        have lc : c.data.toList = nstW H.data.toList (neB H.data.toList) := by rw [hc', hzh]
        have HE : Hid (adrW ⟨0, N.data.toList, L.data.toList, H.data.toList⟩ = [40] ++ a.data.toList ++ [32, 78, 73, 76, 32] ++ b.data.toList ++ [32] ++ c.data.toList ++ [41]) := by
          unfold Hid adrW adrP
          rw [if_pos rfl, rowW_four, la, lb, lc]
          simp [nilW]
        have sa : a.size ≤ 4000000 := by
          have := nstW_size N.data.toList (neB N.data.toList) (by rw [len_toList]; omega)
          rw [← la, len_toList, len_toList] at this
          omega
        have sb : b.size ≤ 4000000 := by
          have := strW_size L.data.toList (by rw [len_toList]; omega)
          rw [← lb, len_toList, len_toList] at this
          omega
        have sc : c.size ≤ 4000000 := by
          have := nstW_size H.data.toList (neB H.data.toList) (by rw [len_toList]; omega)
          rw [← lc, len_toList, len_toList] at this
          omega
        clear ha hb hc' la lb lc hzn hzh
        have C1 := BW.cell d1
        have C2 := BW.cell d2
        have C3 := BW.cell d3
        go_wp2_with fail
        rw [← HX1.out, ← HAw.out]
        go_wp2_with fail
        refine wp_region_below (by kernel_rfl) (by kernel_rfl) ?_
        repeat (go_big_quiet_step (first | (go_at_call 16; first | exact BW.calls (HS1.out _) | exact BW.calls (HS2.out _) | exact BW.calls (HS3.out _))))
        refine wpQuiet_nil ?_
        rintro W1 ⟨⟨_, hb1⟩, rfl⟩
        have HB2 := Lib.hid (HB1.out.trans (hb1.mono HB1.out.size))
        clear hb1 d0 d1 d2 d3 C1 C2 C3
        go_wp2_with fail
        go_roundg (n - (i + 1))
        case measure => omega
        case rel =>
          obtain ⟨e1, e2⟩ := HST.out (T ++ (⟨#[40]⟩ ++ a ++ ⟨#[32, 78, 73, 76, 32]⟩ ++ b ++ ⟨#[32]⟩ ++ c ++ ⟨#[41]⟩)) (by
            rw [HE.out]
            simp only [cat_toList])
          exact ⟨i + 1, _, rfl, by omega, by go_num, rfl, e2, e1, HB2.out⟩
      · have b0 : (K == 0) = false := beq_no k0
        by_cases k1 : K = 1
        · subst k1
          have HS1 := Lib.hid (fun W => rnst_any N true W (by omega))
          obtain ⟨a, ha⟩ : ∃ a : ByteArray, a = ⟨(nstW N.data.toList true).toArray⟩ := ⟨_, rfl⟩
          rw [← ha] at HS1
          have la : a.data.toList = strW N.data.toList := by rw [ha]; rfl
          have HE : Hid (adrW ⟨1, N.data.toList, L.data.toList, H.data.toList⟩ = [40, 78, 73, 76, 32, 78, 73, 76, 32] ++ a.data.toList ++ [32, 78, 73, 76, 41]) := by
            unfold Hid adrW adrP
            rw [if_neg (show ¬ (1 : Int) = 0 by decide), if_pos rfl, rowW_four, la]
            simp [nilW]
          have sa : a.size ≤ 4000000 := by
            have := strW_size N.data.toList (by rw [len_toList]; omega)
            rw [← la, len_toList, len_toList] at this
            omega
          clear ha la k0
          go_wp2_with fail
          rw [← HX1.out, ← HAw.out]
          go_wp2_with fail
          with_reducible refine (HS1.out _).mono ?_
          rintro e w1 ⟨rfl, hb1⟩
          have HB2 := Lib.hid (HB1.out.trans (hb1.mono HB1.out.size))
          clear hb1 d0 d1 d2 d3
          go_wp2_with fail
          go_roundg (n - (i + 1))
          case measure => omega
          case rel =>
            obtain ⟨e1, e2⟩ := HST.out (T ++ (⟨#[40, 78, 73, 76, 32, 78, 73, 76, 32]⟩ ++ a ++ ⟨#[32, 78, 73, 76, 41]⟩)) (by
              rw [HE.out]
              simp only [cat_toList])
            exact ⟨i + 1, _, rfl, by omega, by go_num, rfl, e2, e1, HB2.out⟩
        · have b1 : (K == 1) = false := beq_no k1
          have HE : Hid (adrW ⟨K, N.data.toList, L.data.toList, H.data.toList⟩ = [40, 78, 73, 76, 32, 78, 73, 76, 32, 78, 73, 76, 32, 78, 73, 76, 41]) := by
            unfold Hid adrW adrP
            rw [if_neg k0, if_neg k1, rowW_four]
            rfl
          clear k0 k1
          go_wp2_with fail
          rw [← HX1.out]
          go_roundg (n - (i + 1))
          case measure => omega
          case rel =>
            obtain ⟨e1, e2⟩ := HST.out (T ++ ⟨#[40, 78, 73, 76, 32, 78, 73, 76, 32, 78, 73, 76, 32, 78, 73, 76, 41]⟩) (by
              rw [HE.out]
              simp only [cat_toList])
            exact ⟨i + 1, _, rfl, by omega, by go_num, rfl, e2, e1, HB1.out⟩
    · have hA' : T.data.toList = l.flatMap adrW := by have := HA.out; rwa [List.take_of_length_le (by rw [← HN.out]; omega)] at this
      have HA' := Lib.hid hA'
      clear hA'
      have hal2 : T.size ≤ 10000000000 := by
        have : i * 10000000 ≤ 1000 * 10000000 := Nat.mul_le_mul_right _ (by omega)
        omega
      go_wp2_with fail
      go_ret
      refine ⟨_, rfl, ?_, HB.out⟩
      rw [cat_toList, cat_toList, HA'.out]
      unfold listW
      rw [if_neg H0.out]
      rfl
end Go.Proofs.YtbphnlaoiikebaaGreatDoor

/- Spans of kids, and how many parts there are, in plain words. No program. -/
namespace Go.Proofs.YtbphnlaoiikebaaGreatDoor
open Go Go.RowKit

/-- Delimiters that stand one behind the other, from a on, up to b. -/
def chainC : Nat → Nat → List Sp → Sp → Prop
  | a, b, [], e => a ≤ e.1 ∧ e.1 ≤ e.2 ∧ e.2 ≤ b
  | a, b, c :: r, e => a ≤ c.1 ∧ c.1 ≤ c.2 ∧ chainC c.2 b r e
theorem chainC_mono : ∀ {cs : List Sp} {a a' b : Nat} {e : Sp}, a' ≤ a → chainC a b cs e → chainC a' b cs e
  | [], _, _, _, _, h, hc => ⟨Nat.le_trans h hc.1, hc.2⟩
  | _ :: _, _, _, _, _, h, hc => ⟨Nat.le_trans h hc.1, hc.2⟩
theorem cutsS_chain (l m0 : List UInt8) (bt : Nat) : ∀ (ls : List Ln) (fr a : Nat), fr ≤ a → chainL a bt ls → chainC fr bt (cutsS l m0 bt fr ls).1 (cutsS l m0 bt fr ls).2
  | [], fr, a, h, hc => by
    have : a ≤ bt := hc
    exact ⟨Nat.le_trans h this, Nat.le_refl _, Nat.le_refl _⟩
  | x :: r, fr, a, h, hc => by
    obtain ⟨h1, h2, h3, h4⟩ := hc
    have hle := chainL_le h4
    rcases lkS_le m0 (textOf l x) with hk | hk | hk
    · rw [cutsS_other (by rw [hk]; decide) (by rw [hk]; decide)]
      exact chainC_mono (by omega) (cutsS_chain l m0 bt r x.t x.n h3 h4)
    · rw [cutsS_open hk]
      exact ⟨Nat.le_refl _, show fr ≤ x.n by omega, cutsS_chain l m0 bt r x.n x.n (Nat.le_refl _) h4⟩
    · rw [cutsS_close hk]
      exact ⟨Nat.le_refl _, show fr ≤ x.n by omega, show x.n ≤ bt from hle⟩
theorem chainC_le : ∀ {cs : List Sp} {a b : Nat} {e : Sp}, chainC a b cs e → a ≤ e.1 ∧ e.1 ≤ b
  | [], a, b, e, h => ⟨h.1, Nat.le_trans h.2.1 h.2.2⟩
  | c :: r, a, b, e, h => by
    obtain ⟨h1, h2, h3⟩ := h
    have := chainC_le h3
    omega
theorem kidsS_in : ∀ {cs : List Sp} {a b : Nat} {e : Sp}, chainC a b cs e → ∀ s ∈ kidsS cs e, a ≤ s.1 ∧ s.1 ≤ s.2 ∧ s.2 ≤ b
  | [], _, _, _, _ => fun s hs => by cases hs
  | [c], a, b, e, h => fun s hs => by
    obtain ⟨h1, h2, h3, h4, h5⟩ := h
    rcases List.mem_cons.1 hs with rfl | hs
    · exact ⟨by show a ≤ c.2; omega, h3, by show e.1 ≤ b; omega⟩
    · cases hs
  | c :: d :: r, a, b, e, h => fun s hs => by
    obtain ⟨h1, h2, h3⟩ := h
    have hd := h3
    obtain ⟨h4, h5, h6⟩ := hd
    have := chainC_le h6
    rcases List.mem_cons.1 hs with rfl | hs
    · exact ⟨by show a ≤ c.2; omega, h4, by show d.1 ≤ b; omega⟩
    · have := kidsS_in h3 s hs
      omega
theorem pdS_in (l : List UInt8) (fs : List Fld) {h t : Nat} (hht : h ≤ t) (htl : t ≤ l.length) (k : Val) : ∀ s ∈ (pdS l fs h t k).kids, s.1 ≤ s.2 ∧ s.2 ≤ t := by
  unfold pdS
  split
  · split
    · next b hb =>
      intro s hs
      have := kidsS_in (cutsS_chain l (45 :: 45 :: b) t (linesS l h t) h h (Nat.le_refl _) (chainL_lines l _ h t (Nat.le_refl _) hht htl)) s hs
      omega
    · exact fun s hs => by cases hs
  · split
    · intro s hs
      rcases List.mem_cons.1 hs with rfl | hs
      · exact ⟨hht, Nat.le_refl _⟩
      · cases hs
    · exact fun s hs => by cases hs
theorem cutsS_len (l m0 : List UInt8) (bt : Nat) : ∀ (ls : List Ln) (fr : Nat), (cutsS l m0 bt fr ls).1.length ≤ ls.length
  | [], _ => Nat.le_refl _
  | x :: r, fr => by
    rcases lkS_le m0 (textOf l x) with hk | hk | hk
    · rw [cutsS_other (by rw [hk]; decide) (by rw [hk]; decide)]
      exact Nat.le_succ_of_le (cutsS_len l m0 bt r x.t)
    · rw [cutsS_open hk]
      simp only [List.length_cons]
      exact Nat.succ_le_succ (cutsS_len l m0 bt r x.n)
    · rw [cutsS_close hk]
      exact Nat.zero_le _
/-- What a part's kind tells of its kids. -/
theorem pdS_kids (l : List UInt8) (fs : List Fld) (h t : Nat) (k : Val) : (pdS l fs h t k).kids = (if (pdS l fs h t k).kind = 2 then [(h, t)] else kidsS (pdS l fs h t k).cuts (pdS l fs h t k).e) := by
  unfold pdS
  split
  · split
    · rfl
    · rfl
  · split
    · rfl
    · rfl
theorem pdS_cuts (l : List UInt8) (fs : List Fld) {h t : Nat} (htl : t ≤ l.length) (k : Val) : (pdS l fs h t k).cuts.length ≤ l.length := by
  have h1 := linesS_len l h t
  unfold pdS
  split
  · split
    · have := cutsS_len l (45 :: 45 :: (by assumption)) t (linesS l h t) h
      exact Nat.le_trans this (by omega)
    · exact Nat.zero_le _
  · split
    · exact Nat.zero_le _
    · exact Nat.zero_le _
theorem kidsRun_le {F : Sp → Nat → Tr × Nat} (hF : ∀ s c, c ≤ 1000 → (F s c).2 ≤ 1000) : ∀ (ss : List Sp) (c : Nat), c ≤ 1000 → (kidsRun F ss c).2 ≤ 1000
  | [], _, h => h
  | s :: r, c, h => kidsRun_le hF r _ (hF s c h)
theorem entS_le (l : List UInt8) : ∀ (d : Nat) (s : Sp) (g : Bool) (c : Nat), c ≤ 1000 → (entS l d s g c).2 ≤ 1000
  | 0, _, _, _, h => h
  | d + 1, s, g, c, h => by
    unfold entS
    simp only
    split
    · exact h
    · next hn =>
      simp only [not_or] at hn
      exact kidsRun_le (fun s' c' h' => entS_le l d s' _ c' h') _ _ (by omega)
theorem entS_leaf {l : List UInt8} {d : Nat} {s : Sp} {g : Bool} {c : Nat} (h : (pdS l (fsOf l s.1 s.2) (hdOf l s.1 s.2) s.2 (typeS l (fsOf l s.1 s.2) g)).kids = [] ∨ 1000 < c + (pdS l (fsOf l s.1 s.2) (hdOf l s.1 s.2) s.2 (typeS l (fsOf l s.1 s.2) g)).kids.length) :
    entS l (d + 1) s g c = (leafT s.1 (hdOf l s.1 s.2) s.2, c) := by
  unfold entS
  simp only
  rw [if_pos h]
theorem entS_kids {l : List UInt8} {d : Nat} {s : Sp} {g : Bool} {c : Nat} {k : Val} {p : Pd} (hk : k = typeS l (fsOf l s.1 s.2) g) (hp : p = pdS l (fsOf l s.1 s.2) (hdOf l s.1 s.2) s.2 k) (h : ¬ (p.kids = [] ∨ 1000 < c + p.kids.length)) :
    entS l (d + 1) s g c = (.mk p.kind (s.1, hdOf l s.1 s.2) (hdOf l s.1 s.2, s.2) (kidsRun (fun s' c' => entS l d s' (digS k) c') p.kids (c + p.kids.length)).1 p.cuts p.e,
      (kidsRun (fun s' c' => entS l d s' (digS k) c') p.kids (c + p.kids.length)).2) := by
  subst hk hp
  rw [entS, if_neg h]
end Go.Proofs.YtbphnlaoiikebaaGreatDoor

/- A tree of parts in memory. -/
namespace Go.Proofs.YtbphnlaoiikebaaGreatDoor
open Go Go.RowKit

def partCells : Value → List Value | .agg cs => cs.toList | _ => []
/-- A row of the call's own, in a block of which S holds. -/
def ownS (S : Nat → Prop) (W : World) (ty : TypeId) (size : Nat) (v : Value) (n : Nat) (xs : List Value) : Prop := W.ownsRow 0 ty size v n xs ∧ ∀ a, v.ownBlock = some a → S a
theorem ownS.keep {S S' : Nat → Prop} {W W' : World} {ty : TypeId} {size : Nat} {v : Value} {n : Nat} {xs : List Value} (h : ownS S W ty size v n xs) (hk : ∀ k, S k → k < W.heap.size → W'.heap[k]? = W.heap[k]? ∧ S' k) : ownS S' W' ty size v n xs := by
  obtain ⟨ho, hS⟩ := h
  have hlt := ho.lt
  refine ⟨⟨ho.1, ?_⟩, fun a ha => (hk a (hS a ha) (hlt a ha).2).2⟩
  rcases ho.2 with h2 | ⟨g, cap, cur, rfl, hg, hh, r⟩
  · exact .inl h2
  · have hgo : (Value.slice (some ⟨g, 0, none⟩) n cap).ownBlock = some g := rfl
    exact .inr ⟨g, cap, cur, rfl, hg, (hk g (hS g hgo) (hlt g hgo).2).1.trans hh, r⟩
mutual
def treeAt (S : Nat → Prop) (W : World) : Tr → Value → Prop
  | .mk k hd bd ks cs e, u => ∃ ka kn kc ca cn cc us, u = partV k hd bd (.slice ka kn kc) (.slice ca cn cc) e ∧ ownS S W 45 2 (.slice ca cn cc) cs.length (spCells cs) ∧
      ownS S W 49 9 (.slice ka kn kc) us.length (us.flatMap partCells) ∧ kidsAt S W ks us
def kidsAt (S : Nat → Prop) (W : World) : List Tr → List Value → Prop
  | [], us => us = []
  | t :: r, us => ∃ u us', us = u :: us' ∧ treeAt S W t u ∧ kidsAt S W r us'
end
mutual
theorem treeAt.keep {S S' : Nat → Prop} {W W' : World} (hk : ∀ k, S k → k < W.heap.size → W'.heap[k]? = W.heap[k]? ∧ S' k) : ∀ (t : Tr) (u : Value), treeAt S W t u → treeAt S' W' t u
  | .mk k hd bd ks cs e, u, h => by
    unfold treeAt at h ⊢
    obtain ⟨ka, kn, kc, ca, cn, cc, us, h1, h2, h3, h4⟩ := h
    exact ⟨ka, kn, kc, ca, cn, cc, us, h1, h2.keep hk, h3.keep hk, kidsAt.keep hk ks us h4⟩
theorem kidsAt.keep {S S' : Nat → Prop} {W W' : World} (hk : ∀ k, S k → k < W.heap.size → W'.heap[k]? = W.heap[k]? ∧ S' k) : ∀ (ts : List Tr) (us : List Value), kidsAt S W ts us → kidsAt S' W' ts us
  | [], us, h => by
    unfold kidsAt at h ⊢
    exact h
  | t :: r, us, h => by
    unfold kidsAt at h ⊢
    obtain ⟨u, us', h1, h2, h3⟩ := h
    exact ⟨u, us', h1, treeAt.keep hk t u h2, kidsAt.keep hk r us' h3⟩
end
theorem kidsAt_nil (S : Nat → Prop) (W : World) : kidsAt S W [] [] := by unfold kidsAt; rfl
theorem kidsAt_snoc {S : Nat → Prop} {W : World} : ∀ {ts : List Tr} {us : List Value} {t : Tr} {u : Value}, kidsAt S W ts us → treeAt S W t u → kidsAt S W (ts ++ [t]) (us ++ [u])
  | [], us, t, u, h, ht => by
    unfold kidsAt at h
    subst h
    show kidsAt S W [t] [u]
    unfold kidsAt
    exact ⟨u, [], rfl, ht, kidsAt_nil _ _⟩
  | x :: r, us, t, u, h, ht => by
    unfold kidsAt at h
    obtain ⟨v, us', rfl, h2, h3⟩ := h
    show kidsAt S W (x :: (r ++ [t])) (v :: (us' ++ [u]))
    unfold kidsAt
    exact ⟨v, us' ++ [u], rfl, h2, kidsAt_snoc h3 ht⟩
theorem kidsAt_len {S : Nat → Prop} {W : World} : ∀ {ts : List Tr} {us : List Value}, kidsAt S W ts us → us.length = ts.length
  | [], us, h => by
    unfold kidsAt at h
    subst h
    rfl
  | t :: r, us, h => by
    unfold kidsAt at h
    obtain ⟨u, us', rfl, _, h3⟩ := h
    simp [kidsAt_len h3]
theorem treeAt_part {S : Nat → Prop} {W : World} {t : Tr} {u : Value} (h : treeAt S W t u) : ∃ ka kn kc ca cn cc, u = partV t.kind t.hd t.bd (.slice ka kn kc) (.slice ca cn cc) t.e := by
  cases t
  unfold treeAt at h
  obtain ⟨ka, kn, kc, ca, cn, cc, us, h1, _⟩ := h
  exact ⟨ka, kn, kc, ca, cn, cc, h1⟩
theorem ownS_nil (S : Nat → Prop) (W : World) (ty : TypeId) (size : Nat) : ownS S W ty size (.slice none 0 0) 0 [] := ⟨World.ownsRow_nil _ _ _ _, fun a h => by cases h⟩
theorem leaf_at (S : Nat → Prop) (W : World) (f h t : Nat) : treeAt S W (leafT f h t) (partV 0 (f, h) (h, t) (.slice none 0 0) (.slice none 0 0) (0, 0)) := by
  unfold leafT treeAt
  exact ⟨none, 0, 0, none, 0, 0, [], rfl, ownS_nil _ _ _ _, ownS_nil _ _ _ _, kidsAt_nil _ _⟩
theorem own_base0 {S : Nat → Prop} {W : World} {base : Nat} {ty : TypeId} {size : Nat} {v : Value} {n : Nat} {xs : List Value} (h : W.ownsRow base ty size v n xs) (hS : ∀ a, base ≤ a → a < W.heap.size → S a) : ownS S W ty size v n xs :=
  ⟨own_base2 h (Nat.zero_le _), fun a ha => hS a (h.lt a ha).1 (h.lt a ha).2⟩
/-- The maker's block. -/
structure Mk (W : World) (M : Nat) (v : Value) (c : Nat) : Prop where
  c0 : W.cell? ⟨M, 0, none⟩ = some v
  c1 : W.cell? ⟨M, 1, none⟩ = some (.int .i64 (c : Int))
  f1 : W.frozen? ⟨M, 1, none⟩ = false
theorem Mk.lt {W : World} {M : Nat} {v : Value} {c : Nat} (h : Mk W M v c) : M < W.heap.size := World.block_lt_of_cell? _ _ h.c0
theorem Mk.block {W W' : World} {M : Nat} {v : Value} {c : Nat} (h : Mk W M v c) (hb : W'.heap[M]? = W.heap[M]?) : Mk W' M v c :=
  ⟨(World.cell?_of_block (a := ⟨M, 0, none⟩) hb).trans h.c0, (World.cell?_of_block (a := ⟨M, 1, none⟩) hb).trans h.c1, (World.frozen?_of_block (a := ⟨M, 1, none⟩) hb).trans h.f1⟩
theorem Mk.below {W W' : World} {M : Nat} {v : Value} {c : Nat} (h : Mk W M v c) (hb : Below W.heap.size W W') : Mk W' M v c := h.block (hb.block M h.lt)
theorem Mk.set {W : World} {M : Nat} {v : Value} {c : Nat} (h : Mk W M v c) (j : Nat) : Mk (W.setCell ⟨M, 1, none⟩ (.int .i64 (j : Int))) M v j :=
  ⟨(World.cell?_setCell_other _ ⟨M, 1, none⟩ ⟨M, 0, none⟩ _ (by simp)).trans h.c0, World.cell?_setCell_same _ _ _ h.c1, (World.frozen?_setCell _ _ _ _).trans h.f1⟩
theorem Mk.far {W : World} {M : Nat} {v : Value} {c : Nat} (h : Mk W M v c) {p : Addr} (hp : M ≠ p.block) (u : Value) : Mk (W.setCell p u) M v c := h.block (Below.heap_setCell _ _ _ _ hp)
/-- What an entity's call leaves. -/
def entPost (M : Nat) (v : Value) (r : Tr × Nat) (w : World) (e : Ending) (w' : World) : Prop :=
  ∃ u, e = .returned u ∧ treeAt (fun k => w.heap.size ≤ k) w' r.1 u ∧ Gr M w w' ∧ Mk w' M v r.2
theorem gr_below {M : Nat} {w0 w w' : World} (h : Below w0.heap.size w0 w) (hM : w0.heap.size ≤ M) (hg : Gr M w w') : Below w0.heap.size w0 w' := h.grown hg h.size (fun k hk => by cases hk; exact hM)
theorem below_gr {M : Nat} {w w' : World} (h : Below w.heap.size w w') : Gr M w w' := (Gr.refl M w).below h
theorem mk_set9 {M : Nat} {v : Value} {c : Nat} {W : World} {g : Nat} {a0 a1 a2 a3 a4 a5 a6 a7 a8 : Value} (h : Mk W M v c) (hg : M ≠ g) :
    Mk (((((((((W.setCell ⟨g, 0, none⟩ a0).setCell ⟨g, 1, none⟩ a1).setCell ⟨g, 2, none⟩ a2).setCell ⟨g, 3, none⟩ a3).setCell ⟨g, 4, none⟩ a4).setCell ⟨g, 5, none⟩ a5).setCell ⟨g, 6, none⟩ a6).setCell ⟨g, 7, none⟩ a7).setCell ⟨g, 8, none⟩ a8) M v c :=
  ((((((((h.far (p := ⟨g, 0, none⟩) hg _).far (p := ⟨g, 1, none⟩) hg _).far (p := ⟨g, 2, none⟩) hg _).far (p := ⟨g, 3, none⟩) hg _).far (p := ⟨g, 4, none⟩) hg _).far (p := ⟨g, 5, none⟩) hg _).far (p := ⟨g, 6, none⟩) hg _).far (p := ⟨g, 7, none⟩) hg _).far (p := ⟨g, 8, none⟩) hg _
theorem leaf_end {M : Nat} {v : Value} {c : Nat} {w X : World} {B : Nat} (f h t : Nat) (hB : w.heap.size ≤ B) (hMB : M ≠ B) (hb : Below w.heap.size w X) (hm : Mk X M v c) :
    entPost M v (leafT f h t, c) w (.returned (partV 0 (f, h) (h, t) (.slice none 0 0) (.slice none 0 0) (0, 0))) (((((((((X.setCell ⟨B, 0, none⟩ (.int .i64 0)).setCell ⟨B, 1, none⟩ (.int .i64 (f : Int))).setCell ⟨B, 2, none⟩ (.int .i64 (h : Int))).setCell ⟨B, 3, none⟩ (.int .i64 (h : Int))).setCell ⟨B, 4, none⟩ (.int .i64 (t : Int))).setCell ⟨B, 5, none⟩ (.slice none 0 0)).setCell ⟨B, 6, none⟩ (.slice none 0 0)).setCell ⟨B, 7, none⟩ (.int .i64 0)).setCell ⟨B, 8, none⟩ (.int .i64 0)) :=
  ⟨_, rfl, leaf_at _ _ f h t, below_gr (below_set9 hb hB), mk_set9 hm hMB⟩
theorem treeAt_agg {S : Nat → Prop} {W : World} {t : Tr} {u : Value} (h : treeAt S W t u) : ∃ ka kn kc ca cn cc, u = .agg #[.int .i64 (t.kind : Int), .int .i64 (t.hd.1 : Int), .int .i64 (t.hd.2 : Int), .int .i64 (t.bd.1 : Int), .int .i64 (t.bd.2 : Int), .slice ka kn kc, .slice ca cn cc, .int .i64 (t.e.1 : Int), .int .i64 (t.e.2 : Int)] := by
  obtain ⟨ka, kn, kc, ca, cn, cc, h⟩ := treeAt_part h
  exact ⟨ka, kn, kc, ca, cn, cc, h⟩
theorem Tryz.infoPt : (Tryz.prog.info? 49).map (fun i => (i.zero, i.size, i.bytes)) = some (some (.agg #[.int .i64 0, .int .i64 0, .int .i64 0, .int .i64 0, .int .i64 0, .slice none 0 0, .slice none 0 0, .int .i64 0, .int .i64 0]), 9, 104) := by kernel_rfl
/-- All that lay lies, but for two blocks. -/
structure K2 (M P : Nat) (W W' : World) : Prop where
  os : W'.os = W.os
  tape : W'.tape = W.tape
  output : W'.output = W.output
  size : W.heap.size ≤ W'.heap.size
  block : ∀ k, k < W.heap.size → k ≠ M → k ≠ P → W'.heap[k]? = W.heap[k]?
theorem K2.refl (M P : Nat) (W : World) : K2 M P W W := ⟨rfl, rfl, rfl, Nat.le_refl _, fun _ _ _ _ => rfl⟩
theorem K2.below {M P : Nat} {W W' W'' : World} (h : K2 M P W W') (hb : Below W'.heap.size W' W'') : K2 M P W W'' :=
  ⟨hb.os.trans h.os, hb.tape.trans h.tape, hb.output.trans h.output, Nat.le_trans h.size hb.size, fun k hk h1 h2 => (hb.block k (Nat.lt_of_lt_of_le hk h.size)).trans (h.block k hk h1 h2)⟩
theorem K2.gr {M P : Nat} {W W' W'' : World} (h : K2 M P W W') (hg : Gr M W' W'') : K2 M P W W'' :=
  ⟨hg.os.trans h.os, hg.tape.trans h.tape, hg.output.trans h.output, Nat.le_trans h.size hg.size, fun k hk h1 h2 => (hg.block k (Nat.lt_of_lt_of_le hk h.size) (fun e => h1 (Option.some.inj e))).trans (h.block k hk h1 h2)⟩
theorem K2.grM {M P : Nat} {W W' W'' : World} (h : K2 M P W W') (hg : W'.grownBy W'' (some M)) : K2 M P W W'' := h.gr hg
theorem K2.grown {M P : Nat} {W W' W'' : World} {row : Option Nat} (h : K2 M P W W') (hg : W'.grownBy W'' row) (hr : ∀ k, row = some k → W.heap.size ≤ k) : K2 M P W W'' :=
  ⟨hg.os.trans h.os, hg.tape.trans h.tape, hg.output.trans h.output, Nat.le_trans h.size hg.size, fun k hk h1 h2 => (hg.block k (Nat.lt_of_lt_of_le hk h.size) (fun e => by have := hr k e.symm; omega)).trans (h.block k hk h1 h2)⟩
theorem K2.set {M P : Nat} {W W' : World} (h : K2 M P W W') (j : Nat) (u : Value) : K2 M P W (W'.setCell ⟨P, j, none⟩ u) :=
  ⟨h.os, h.tape, h.output, by rw [size_set]; exact h.size, fun k hk h1 h2 => (Below.heap_setCell _ _ _ _ h2).trans (h.block k hk h1 h2)⟩
theorem K2.to {M P : Nat} {w W W' : World} (h : K2 M P W W') (hb : Gr M w W) (hP : w.heap.size ≤ P) : Gr M w W' :=
  ⟨h.os.trans hb.os, h.tape.trans hb.tape, h.output.trans hb.output, Nat.le_trans hb.size h.size, fun k hk h1 => (h.block k (Nat.lt_of_lt_of_le hk hb.size) (fun e => h1 (by rw [e])) (by omega)).trans (hb.block k hk h1)⟩
theorem K2.trans {M P : Nat} {a b c : World} (h : K2 M P a b) (k : K2 M P b c) : K2 M P a c :=
  ⟨k.os.trans h.os, k.tape.trans h.tape, k.output.trans h.output, Nat.le_trans h.size k.size, fun q hq h1 h2 => (k.block q (Nat.lt_of_lt_of_le hq h.size) h1 h2).trans (h.block q hq h1 h2)⟩
theorem K2.base {M P : Nat} {w0 W W' : World} (h : K2 M P W W') (hb : Below w0.heap.size w0 W) (hM : w0.heap.size ≤ M) (hP : w0.heap.size ≤ P) : Below w0.heap.size w0 W' :=
  ⟨h.os.trans hb.os, h.tape.trans hb.tape, h.output.trans hb.output, Nat.le_trans hb.size h.size, fun k hk => (h.block k (Nat.lt_of_lt_of_le hk hb.size) (by omega) (by omega)).trans (hb.block k hk)⟩
theorem own_k2 {M P base size n : Nat} {W W' : World} {ty : TypeId} {v : Value} {xs : List Value} (h : W.ownsRow base ty size v n xs) (k : K2 M P W W') (hM : M < base) (hP : P < base) : W'.ownsRow base ty size v n xs := by
  have hlt := h.lt
  refine ⟨h.1, ?_⟩
  rcases h.2 with h2 | ⟨g, cap, cur, rfl, hg, hh, r⟩
  · exact .inl h2
  · have hgo : (Value.slice (some ⟨g, 0, none⟩) n cap).ownBlock = some g := rfl
    exact .inr ⟨g, cap, cur, rfl, hg, (k.block g (hlt g hgo).2 (by omega) (by omega)).trans hh, r⟩
theorem gr_set {M : Nat} {w W : World} {p : Addr} (h : Gr M w W) (hp : w.heap.size ≤ p.block) (u : Value) : Gr M w (W.setCell p u) :=
  ⟨h.os, h.tape, h.output, by rw [size_set]; exact h.size, fun k hk h1 => (Below.heap_setCell _ _ _ _ (by omega)).trans (h.block k hk h1)⟩
theorem gr_set9 {M : Nat} {w W : World} {g : Nat} {a0 a1 a2 a3 a4 a5 a6 a7 a8 : Value} (h : Gr M w W) (hg : w.heap.size ≤ g) :
    Gr M w (((((((((W.setCell ⟨g, 0, none⟩ a0).setCell ⟨g, 1, none⟩ a1).setCell ⟨g, 2, none⟩ a2).setCell ⟨g, 3, none⟩ a3).setCell ⟨g, 4, none⟩ a4).setCell ⟨g, 5, none⟩ a5).setCell ⟨g, 6, none⟩ a6).setCell ⟨g, 7, none⟩ a7).setCell ⟨g, 8, none⟩ a8) :=
  gr_set (gr_set (gr_set (gr_set (gr_set (gr_set (gr_set (gr_set (gr_set h hg _) hg _) hg _) hg _) hg _) hg _) hg _) hg _) hg _
theorem heap_set9 {W : World} {g q : Nat} {a0 a1 a2 a3 a4 a5 a6 a7 a8 : Value} (hq : q ≠ g) :
    (((((((((W.setCell ⟨g, 0, none⟩ a0).setCell ⟨g, 1, none⟩ a1).setCell ⟨g, 2, none⟩ a2).setCell ⟨g, 3, none⟩ a3).setCell ⟨g, 4, none⟩ a4).setCell ⟨g, 5, none⟩ a5).setCell ⟨g, 6, none⟩ a6).setCell ⟨g, 7, none⟩ a7).setCell ⟨g, 8, none⟩ a8).heap[q]? = W.heap[q]? := by
  rw [Below.heap_setCell _ _ _ _ hq, Below.heap_setCell _ _ _ _ hq, Below.heap_setCell _ _ _ _ hq, Below.heap_setCell _ _ _ _ hq, Below.heap_setCell _ _ _ _ hq, Below.heap_setCell _ _ _ _ hq, Below.heap_setCell _ _ _ _ hq, Below.heap_setCell _ _ _ _ hq, Below.heap_setCell _ _ _ _ hq]
end Go.Proofs.YtbphnlaoiikebaaGreatDoor
