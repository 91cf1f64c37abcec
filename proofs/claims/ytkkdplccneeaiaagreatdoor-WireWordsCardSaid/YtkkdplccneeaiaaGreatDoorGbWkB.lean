/- Layer 18: the laws: WireStrings. -/
import Derived.Test.YtkkdplccneeaiaaGreatDoorGbWkA
import Derived.Test.YtkkdplccneeaiaaGreatDoorStrs
namespace Go.Proofs.YtkkdplccneeaiaaGreatDoor
open Go Go.RowKit

theorem esc_len (l : List UInt8) : (escL l).length ≤ 2 * l.length := by
  induction l with
  | nil => exact Nat.le_refl _
  | cons c r ih =>
    have e : escL (c :: r) = escB c ++ escL r := by unfold escL; rfl
    have h1 : (escB c).length ≤ 2 := by unfold escB; split <;> simp
    rw [e, List.length_append, List.length_cons]
    omega
theorem strW_len (l : List UInt8) (h : l.length ≤ 1000000000) : (strW l).length ≤ 2 * l.length + 30 := by
  unfold strW litT
  have h1 := itoa_nat_len l.length h
  have h2 := esc_len l
  split
  · simp
    omega
  · split <;> simp <;> omega
theorem astW_len (l : List UInt8) (h : l.length ≤ 1000000000) : (astW l).length ≤ 2 * l.length + 30 := by
  unfold astW
  split
  · omega
  · exact strW_len l h
theorem bytes_back (S : ByteArray) : (⟨S.data.toList.toArray⟩ : ByteArray) = S := bytes_eq rfl
theorem toks_str_any (s : List UInt8) (h : s.length ≤ 4294967295) (n : Nat) (hn : 2 ≤ n) : toksW n (strW s) = some [(2, s)] := by
  obtain ⟨g, rfl⟩ : ∃ g, n = g + 2 := ⟨n - 2, by omega⟩
  exact toks_str s h g
theorem toks_ast_any (s : List UInt8) (h : s.length ≤ 4294967295) (n : Nat) (hn : 4 ≤ n) : toksW n (astW s ++ [32, 120]) = some [(if isAst s = true then 1 else 2, s), (5, []), (1, [120])] := by
  obtain ⟨g, rfl⟩ : ∃ g, n = g + 4 := ⟨n - 4, by omega⟩
  exact toks_ast s h g
set_option maxRecDepth 100000 in
set_option maxHeartbeats 8000000 in
theorem wireStrings_any (s : ByteArray) (is long : Bool) (w : World) (hs : s.size ≤ 9223372036854775807) (ht : tab w) :
    Calls Tryz.prog 3 #[.string s, .bool is, .bool long] w fun e w' => e = .returned (.bool true) ∧ Below w.heap.size w w' := by
  have HAw := Lib.hid (awake18_any w ht)
  have HT := Lib.hid ht
  clear ht
  by_cases h300 : (300 : Int) < (s.size : Int)
  · go_enter Tryz.func3, Tryz.ntmps3
    go_wp2_with fail
    with_reducible refine HAw.out.mono ?_
    rintro e w1 ⟨rfl, hb1⟩
    go_wp2_with fail
    go_ret
    exact ⟨rfl, hb1⟩
  · have h300n : s.size ≤ 300 := by omega
    cases long with
    | false =>
      cases is with
      | false =>
        obtain ⟨S, hS⟩ : ∃ S : ByteArray, S = s := ⟨_, rfl⟩
        have hSz : S.size ≤ 1800 := by rw [hS]; first | omega | (simp; omega)
        obtain ⟨T, hT⟩ : ∃ T : ByteArray, T = ⟨(strW S.data.toList).toArray⟩ := ⟨_, rfl⟩
        obtain ⟨A, hA⟩ : ∃ A : ByteArray, A = ⟨(astW S.data.toList).toArray⟩ := ⟨_, rfl⟩
        have hTl : T.data.toList = strW S.data.toList := by rw [hT]
        have hAl : A.data.toList = astW S.data.toList := by rw [hA]
        have hTz : T.size ≤ 5000 := by
          have h1 := strW_len S.data.toList (by simp; omega)
          rw [← hTl, len_toList, len_toList] at h1
          omega
        have hAz : A.size ≤ 5000 := by
          have h1 := astW_len S.data.toList (by simp; omega)
          rw [← hAl, len_toList, len_toList] at h1
          omega
        have HStr := Lib.hid (fun W h => wstring_any S W (by omega) h)
        have HRef := Lib.hid (fun W => rstring_any S W (by omega))
        have HAst := Lib.hid (fun W h => wastring_any S W (by omega) h)
        have HRas := Lib.hid (fun W => rastring_any S W (by omega))
        have HNs := Lib.hid (fun b W h => wnstring_any S b W (by omega) h)
        rw [← hT] at HStr HRef HNs
        rw [← hA] at HAst HRas
        have HTk : Hid (∀ n, 2 ≤ n → toksW n T.data.toList = some [(2, S.data.toList)]) := fun n hn => by rw [hTl]; exact toks_str_any _ (by simp; omega) n hn
        have HAk : Hid (∀ n, 4 ≤ n → toksW n (A ++ ⟨#[32, 120]⟩).data.toList = some [(if isAst S.data.toList = true then 1 else 2, S.data.toList), (5, []), (1, [120])]) := fun n hn => by
          rw [cat_toList, hAl]
          exact toks_ast_any _ (by simp; omega) n hn
        have HTp : Hid (1 ≤ T.data.toList.length) := by
          unfold Hid
          rw [hTl]
          exact List.length_pos_iff.2 (strW_ne _)
        have HAp : Hid (1 ≤ A.data.toList.length) := by
          unfold Hid
          rw [hAl]
          exact List.length_pos_iff.2 (astW_ne _)
        have tt1 : (T.toList != T.toList) = false := by simp
        have tt2 : (T.toList == T.toList) = true := by simp
        have aa1 : (A.toList != A.toList) = false := by simp
        have aa2 : (A.toList == A.toList) = true := by simp
        have ss2 : (S.toList == S.toList) = true := by simp
        have ss1 : (S.toList != S.toList) = false := by simp
        have HS0 := Lib.hid hS
        clear hS hT hA hTl hAl
        go_enter Tryz.func3, Tryz.ntmps3
        go_wp2_with fail
        with_reducible refine HAw.out.mono ?_
        rintro e w1 ⟨rfl, hb1⟩
        have HB1 := Lib.hid hb1
        have HT1 := Lib.hid (HT.out.below hb1)
        clear hb1
        go_upto_region 8 with fail
        rw [← HS0.out]
        go_wp2_with fail
        with_reducible refine (HStr.out _ HT1.out).mono ?_
        rintro e w2 ⟨rfl, hb2⟩
        have HB2 := Lib.hid (HB1.out.trans (hb2.mono HB1.out.size))
        have HT2 := Lib.hid (HT1.out.below hb2)
        clear hb2
        go_wp2_with fail
        with_reducible refine (HRef.out _).mono ?_
        rintro e w3 ⟨rfl, hb3⟩
        have HB3 := Lib.hid (HB2.out.trans (hb3.mono HB2.out.size))
        have HT3 := Lib.hid (HT2.out.below hb3)
        clear hb3
        go_wp2_with fail
        with_reducible refine (HAst.out _ HT3.out).mono ?_
        rintro e w4 ⟨rfl, hb4⟩
        have HB4 := Lib.hid (HB3.out.trans (hb4.mono HB3.out.size))
        have HT4 := Lib.hid (HT3.out.below hb4)
        clear hb4
        go_wp2_with fail
        with_reducible refine (HRas.out _).mono ?_
        rintro e w5 ⟨rfl, hb5⟩
        have HB5 := Lib.hid (HB4.out.trans (hb5.mono HB4.out.size))
        have HT5 := Lib.hid (HT4.out.below hb5)
        clear hb5
        go_wp2_with fail
        with_reducible refine (HNs.out _ _ HT5.out).mono ?_
        rintro e w6 ⟨rfl, hb6⟩
        have HB6 := Lib.hid (HB5.out.trans (hb6.mono HB5.out.size))
        have HT6 := Lib.hid (HT5.out.below hb6)
        clear hb6
        have HB7 := HB6
        have HT7 := HT6
        go_wp2_with fail
        with_reducible refine (HStr.out _ HT7.out).mono ?_
        rintro e w8 ⟨rfl, hb8⟩
        have HB8 := Lib.hid (HB7.out.trans (hb8.mono HB7.out.size))
        have HT8 := Lib.hid (HT7.out.below hb8)
        obtain ⟨w9, cp9, hr9, ha9, hb9⟩ := conv_bytesArg (P := Tryz.prog) w8 9 29 5 T (by unfold maxLen; omega) Tryz.underlying9 Tryz.underlying29 Tryz.underlying5
        have HB9 := Lib.hid (HB8.out.trans (hb9.mono HB8.out.size))
        have HT9 := Lib.hid (HT8.out.below hb9)
        have HC9 := Lib.hid (wtokens_any _ T.data.toList w9 ha9 (by simp; omega))
        rw [HTk.out _ (by have := HTp.out; omega)] at HC9
        unfold TksW at HC9
        try simp only at HC9
        clear hb8 ha9 hb9
        go_wp2_with fail
        with_reducible refine HC9.out.mono ?_
        rintro e wa ⟨hba, ua, rfl, hoa⟩
        obtain ⟨ga, capa, rfl, hcpa, _, hgla, hca⟩ := row2_read hoa (Nat.zero_lt_one)
        have l0 : wa.cell? ⟨ga, 0, none⟩ = some (.int .i64 2) := hca 0 (by show 0 < 2; decide)
        have l1 : wa.cell? ⟨ga, 1, none⟩ = some (.string ⟨S.data.toList.toArray⟩) := hca 1 (by show 1 < 2; decide)
        rw [bytes_back] at l1
        have HBa := Lib.hid (HB9.out.trans (hba.mono HB9.out.size))
        have HTa := Lib.hid (HT9.out.below hba)
        have HL0 := Lib.hid l0
        have HL1 := Lib.hid l1
        have hn1 : ([(2, S.data.toList)] : List (Nat × List UInt8)).length = 1 := rfl
        rw [hn1] at hcpa ⊢
        clear hba hoa hca l0 l1 hn1 HC9 hr9
        go_wp2_with fail
        with_reducible refine (HAst.out _ HTa.out).mono ?_
        rintro e wb ⟨rfl, hbb⟩
        have HBb := Lib.hid (HBa.out.trans (hbb.mono HBa.out.size))
        have HTb := Lib.hid (HTa.out.below hbb)
        obtain ⟨wc, cpc, hrc, hac, hbc⟩ := conv_bytesArg (P := Tryz.prog) wb 9 29 5 (A ++ ⟨#[32, 120]⟩) (by unfold maxLen; rw [ByteArray.size_append]; show A.size + 2 ≤ _; omega) Tryz.underlying9 Tryz.underlying29 Tryz.underlying5
        have esz : (A ++ ⟨#[32, 120]⟩ : ByteArray).size = A.size + 2 := by rw [ByteArray.size_append]; rfl
        rw [esz] at hrc hac
        have HBc := Lib.hid (HBb.out.trans (hbc.mono HBb.out.size))
        have HCc := Lib.hid (wtokens_any _ (A ++ ⟨#[32, 120]⟩).data.toList wc hac (by rw [len_toList, ByteArray.size_append]; show A.size + 2 ≤ _; omega))
        rw [HAk.out _ (by have := HAp.out; rw [cat_toList, List.length_append]; show 4 ≤ _ + 2 + 1; omega)] at HCc
        unfold TksW at HCc
        try simp only at HCc
        have HLc : Hid (Below wa.heap.size wa wc) := hbb.trans (hbc.mono hbb.size)
        clear hbb hac hbc esz
        go_wp2_with fail
        with_reducible refine HCc.out.mono ?_
        rintro e wd ⟨hbd, ud, rfl, hod⟩
        obtain ⟨gd, capd, rfl, hcpd, _, hgld, hcd⟩ := row2_read hod (Nat.zero_lt_succ 2)
        have m1 : wd.cell? ⟨gd, 1, none⟩ = some (.string ⟨S.data.toList.toArray⟩) := hcd 1 (by show 1 < 6; decide)
        have m2 : wd.cell? ⟨gd, 2, none⟩ = some (.int .i64 5) := hcd 2 (by show 2 < 6; decide)
        rw [bytes_back] at m1
        have hbl : Below wa.heap.size wa wd := HLc.out.trans (hbd.mono HLc.out.size)
        have l0 : wd.cell? ⟨ga, 0, none⟩ = some (.int .i64 2) := (hbl.cell (p := ⟨ga, 0, none⟩) hgla).trans HL0.out
        have l1 : wd.cell? ⟨ga, 1, none⟩ = some (.string S) := (hbl.cell (p := ⟨ga, 1, none⟩) hgla).trans HL1.out
        have HBd := Lib.hid (HBc.out.trans (hbd.mono HBc.out.size))
        have hn3 : ([(if isAst S.data.toList = true then 1 else 2, S.data.toList), (5, []), (1, [120])] : List (Nat × List UInt8)).length = 3 := rfl
        rw [hn3] at hcpd ⊢
        clear hbd hod hcd hbl hn3 HCc hrc
        go_wp2_with fail
        go_ret
        exact ⟨rfl, HBd.out⟩
      | true =>
        obtain ⟨S, hS⟩ : ∃ S : ByteArray, S = s := ⟨_, rfl⟩
        have hSz : S.size ≤ 1800 := by rw [hS]; first | omega | (simp; omega)
        obtain ⟨T, hT⟩ : ∃ T : ByteArray, T = ⟨(strW S.data.toList).toArray⟩ := ⟨_, rfl⟩
        obtain ⟨A, hA⟩ : ∃ A : ByteArray, A = ⟨(astW S.data.toList).toArray⟩ := ⟨_, rfl⟩
        have hTl : T.data.toList = strW S.data.toList := by rw [hT]
        have hAl : A.data.toList = astW S.data.toList := by rw [hA]
        have hTz : T.size ≤ 5000 := by
          have h1 := strW_len S.data.toList (by simp; omega)
          rw [← hTl, len_toList, len_toList] at h1
          omega
        have hAz : A.size ≤ 5000 := by
          have h1 := astW_len S.data.toList (by simp; omega)
          rw [← hAl, len_toList, len_toList] at h1
          omega
        have HStr := Lib.hid (fun W h => wstring_any S W (by omega) h)
        have HRef := Lib.hid (fun W => rstring_any S W (by omega))
        have HAst := Lib.hid (fun W h => wastring_any S W (by omega) h)
        have HRas := Lib.hid (fun W => rastring_any S W (by omega))
        have HNs := Lib.hid (fun b W h => wnstring_any S b W (by omega) h)
        rw [← hT] at HStr HRef HNs
        rw [← hA] at HAst HRas
        have HTk : Hid (∀ n, 2 ≤ n → toksW n T.data.toList = some [(2, S.data.toList)]) := fun n hn => by rw [hTl]; exact toks_str_any _ (by simp; omega) n hn
        have HAk : Hid (∀ n, 4 ≤ n → toksW n (A ++ ⟨#[32, 120]⟩).data.toList = some [(if isAst S.data.toList = true then 1 else 2, S.data.toList), (5, []), (1, [120])]) := fun n hn => by
          rw [cat_toList, hAl]
          exact toks_ast_any _ (by simp; omega) n hn
        have HTp : Hid (1 ≤ T.data.toList.length) := by
          unfold Hid
          rw [hTl]
          exact List.length_pos_iff.2 (strW_ne _)
        have HAp : Hid (1 ≤ A.data.toList.length) := by
          unfold Hid
          rw [hAl]
          exact List.length_pos_iff.2 (astW_ne _)
        have tt1 : (T.toList != T.toList) = false := by simp
        have tt2 : (T.toList == T.toList) = true := by simp
        have aa1 : (A.toList != A.toList) = false := by simp
        have aa2 : (A.toList == A.toList) = true := by simp
        have ss2 : (S.toList == S.toList) = true := by simp
        have ss1 : (S.toList != S.toList) = false := by simp
        have HS0 := Lib.hid hS
        clear hS hT hA hTl hAl
        go_enter Tryz.func3, Tryz.ntmps3
        go_wp2_with fail
        with_reducible refine HAw.out.mono ?_
        rintro e w1 ⟨rfl, hb1⟩
        have HB1 := Lib.hid hb1
        have HT1 := Lib.hid (HT.out.below hb1)
        clear hb1
        go_upto_region 8 with fail
        rw [← HS0.out]
        go_wp2_with fail
        with_reducible refine (HStr.out _ HT1.out).mono ?_
        rintro e w2 ⟨rfl, hb2⟩
        have HB2 := Lib.hid (HB1.out.trans (hb2.mono HB1.out.size))
        have HT2 := Lib.hid (HT1.out.below hb2)
        clear hb2
        go_wp2_with fail
        with_reducible refine (HRef.out _).mono ?_
        rintro e w3 ⟨rfl, hb3⟩
        have HB3 := Lib.hid (HB2.out.trans (hb3.mono HB2.out.size))
        have HT3 := Lib.hid (HT2.out.below hb3)
        clear hb3
        go_wp2_with fail
        with_reducible refine (HAst.out _ HT3.out).mono ?_
        rintro e w4 ⟨rfl, hb4⟩
        have HB4 := Lib.hid (HB3.out.trans (hb4.mono HB3.out.size))
        have HT4 := Lib.hid (HT3.out.below hb4)
        clear hb4
        go_wp2_with fail
        with_reducible refine (HRas.out _).mono ?_
        rintro e w5 ⟨rfl, hb5⟩
        have HB5 := Lib.hid (HB4.out.trans (hb5.mono HB4.out.size))
        have HT5 := Lib.hid (HT4.out.below hb5)
        clear hb5
        go_wp2_with fail
        with_reducible refine (HNs.out _ _ HT5.out).mono ?_
        rintro e w6 ⟨rfl, hb6⟩
        have HB6 := Lib.hid (HB5.out.trans (hb6.mono HB5.out.size))
        have HT6 := Lib.hid (HT5.out.below hb6)
        clear hb6
        go_wp2_with fail
        with_reducible refine (HStr.out _ HT6.out).mono ?_
        rintro e w7 ⟨rfl, hb7⟩
        have HB7 := Lib.hid (HB6.out.trans (hb7.mono HB6.out.size))
        have HT7 := Lib.hid (HT6.out.below hb7)
        clear hb7
        go_wp2_with fail
        with_reducible refine (HStr.out _ HT7.out).mono ?_
        rintro e w8 ⟨rfl, hb8⟩
        have HB8 := Lib.hid (HB7.out.trans (hb8.mono HB7.out.size))
        have HT8 := Lib.hid (HT7.out.below hb8)
        obtain ⟨w9, cp9, hr9, ha9, hb9⟩ := conv_bytesArg (P := Tryz.prog) w8 9 29 5 T (by unfold maxLen; omega) Tryz.underlying9 Tryz.underlying29 Tryz.underlying5
        have HB9 := Lib.hid (HB8.out.trans (hb9.mono HB8.out.size))
        have HT9 := Lib.hid (HT8.out.below hb9)
        have HC9 := Lib.hid (wtokens_any _ T.data.toList w9 ha9 (by simp; omega))
        rw [HTk.out _ (by have := HTp.out; omega)] at HC9
        unfold TksW at HC9
        try simp only at HC9
        clear hb8 ha9 hb9
        go_wp2_with fail
        with_reducible refine HC9.out.mono ?_
        rintro e wa ⟨hba, ua, rfl, hoa⟩
        obtain ⟨ga, capa, rfl, hcpa, _, hgla, hca⟩ := row2_read hoa (Nat.zero_lt_one)
        have l0 : wa.cell? ⟨ga, 0, none⟩ = some (.int .i64 2) := hca 0 (by show 0 < 2; decide)
        have l1 : wa.cell? ⟨ga, 1, none⟩ = some (.string ⟨S.data.toList.toArray⟩) := hca 1 (by show 1 < 2; decide)
        rw [bytes_back] at l1
        have HBa := Lib.hid (HB9.out.trans (hba.mono HB9.out.size))
        have HTa := Lib.hid (HT9.out.below hba)
        have HL0 := Lib.hid l0
        have HL1 := Lib.hid l1
        have hn1 : ([(2, S.data.toList)] : List (Nat × List UInt8)).length = 1 := rfl
        rw [hn1] at hcpa ⊢
        clear hba hoa hca l0 l1 hn1 HC9 hr9
        go_wp2_with fail
        with_reducible refine (HAst.out _ HTa.out).mono ?_
        rintro e wb ⟨rfl, hbb⟩
        have HBb := Lib.hid (HBa.out.trans (hbb.mono HBa.out.size))
        have HTb := Lib.hid (HTa.out.below hbb)
        obtain ⟨wc, cpc, hrc, hac, hbc⟩ := conv_bytesArg (P := Tryz.prog) wb 9 29 5 (A ++ ⟨#[32, 120]⟩) (by unfold maxLen; rw [ByteArray.size_append]; show A.size + 2 ≤ _; omega) Tryz.underlying9 Tryz.underlying29 Tryz.underlying5
        have esz : (A ++ ⟨#[32, 120]⟩ : ByteArray).size = A.size + 2 := by rw [ByteArray.size_append]; rfl
        rw [esz] at hrc hac
        have HBc := Lib.hid (HBb.out.trans (hbc.mono HBb.out.size))
        have HCc := Lib.hid (wtokens_any _ (A ++ ⟨#[32, 120]⟩).data.toList wc hac (by rw [len_toList, ByteArray.size_append]; show A.size + 2 ≤ _; omega))
        rw [HAk.out _ (by have := HAp.out; rw [cat_toList, List.length_append]; show 4 ≤ _ + 2 + 1; omega)] at HCc
        unfold TksW at HCc
        try simp only at HCc
        have HLc : Hid (Below wa.heap.size wa wc) := hbb.trans (hbc.mono hbb.size)
        clear hbb hac hbc esz
        go_wp2_with fail
        with_reducible refine HCc.out.mono ?_
        rintro e wd ⟨hbd, ud, rfl, hod⟩
        obtain ⟨gd, capd, rfl, hcpd, _, hgld, hcd⟩ := row2_read hod (Nat.zero_lt_succ 2)
        have m1 : wd.cell? ⟨gd, 1, none⟩ = some (.string ⟨S.data.toList.toArray⟩) := hcd 1 (by show 1 < 6; decide)
        have m2 : wd.cell? ⟨gd, 2, none⟩ = some (.int .i64 5) := hcd 2 (by show 2 < 6; decide)
        rw [bytes_back] at m1
        have hbl : Below wa.heap.size wa wd := HLc.out.trans (hbd.mono HLc.out.size)
        have l0 : wd.cell? ⟨ga, 0, none⟩ = some (.int .i64 2) := (hbl.cell (p := ⟨ga, 0, none⟩) hgla).trans HL0.out
        have l1 : wd.cell? ⟨ga, 1, none⟩ = some (.string S) := (hbl.cell (p := ⟨ga, 1, none⟩) hgla).trans HL1.out
        have HBd := Lib.hid (HBc.out.trans (hbd.mono HBc.out.size))
        have hn3 : ([(if isAst S.data.toList = true then 1 else 2, S.data.toList), (5, []), (1, [120])] : List (Nat × List UInt8)).length = 3 := rfl
        rw [hn3] at hcpd ⊢
        clear hbd hod hcd hbl hn3 HCc hrc
        go_wp2_with fail
        go_ret
        exact ⟨rfl, HBd.out⟩
    | true =>
      cases is with
      | false =>
        obtain ⟨S, hS⟩ : ∃ S : ByteArray, S = s ++ s ++ s ++ s ++ s ++ s := ⟨_, rfl⟩
        have hSz : S.size ≤ 1800 := by rw [hS]; first | omega | (simp; omega)
        obtain ⟨T, hT⟩ : ∃ T : ByteArray, T = ⟨(strW S.data.toList).toArray⟩ := ⟨_, rfl⟩
        obtain ⟨A, hA⟩ : ∃ A : ByteArray, A = ⟨(astW S.data.toList).toArray⟩ := ⟨_, rfl⟩
        have hTl : T.data.toList = strW S.data.toList := by rw [hT]
        have hAl : A.data.toList = astW S.data.toList := by rw [hA]
        have hTz : T.size ≤ 5000 := by
          have h1 := strW_len S.data.toList (by simp; omega)
          rw [← hTl, len_toList, len_toList] at h1
          omega
        have hAz : A.size ≤ 5000 := by
          have h1 := astW_len S.data.toList (by simp; omega)
          rw [← hAl, len_toList, len_toList] at h1
          omega
        have HStr := Lib.hid (fun W h => wstring_any S W (by omega) h)
        have HRef := Lib.hid (fun W => rstring_any S W (by omega))
        have HAst := Lib.hid (fun W h => wastring_any S W (by omega) h)
        have HRas := Lib.hid (fun W => rastring_any S W (by omega))
        have HNs := Lib.hid (fun b W h => wnstring_any S b W (by omega) h)
        rw [← hT] at HStr HRef HNs
        rw [← hA] at HAst HRas
        have HTk : Hid (∀ n, 2 ≤ n → toksW n T.data.toList = some [(2, S.data.toList)]) := fun n hn => by rw [hTl]; exact toks_str_any _ (by simp; omega) n hn
        have HAk : Hid (∀ n, 4 ≤ n → toksW n (A ++ ⟨#[32, 120]⟩).data.toList = some [(if isAst S.data.toList = true then 1 else 2, S.data.toList), (5, []), (1, [120])]) := fun n hn => by
          rw [cat_toList, hAl]
          exact toks_ast_any _ (by simp; omega) n hn
        have HTp : Hid (1 ≤ T.data.toList.length) := by
          unfold Hid
          rw [hTl]
          exact List.length_pos_iff.2 (strW_ne _)
        have HAp : Hid (1 ≤ A.data.toList.length) := by
          unfold Hid
          rw [hAl]
          exact List.length_pos_iff.2 (astW_ne _)
        have tt1 : (T.toList != T.toList) = false := by simp
        have tt2 : (T.toList == T.toList) = true := by simp
        have aa1 : (A.toList != A.toList) = false := by simp
        have aa2 : (A.toList == A.toList) = true := by simp
        have ss2 : (S.toList == S.toList) = true := by simp
        have ss1 : (S.toList != S.toList) = false := by simp
        have HS0 := Lib.hid hS
        clear hS hT hA hTl hAl
        go_enter Tryz.func3, Tryz.ntmps3
        go_wp2_with fail
        with_reducible refine HAw.out.mono ?_
        rintro e w1 ⟨rfl, hb1⟩
        have HB1 := Lib.hid hb1
        have HT1 := Lib.hid (HT.out.below hb1)
        clear hb1
        go_upto_region 8 with fail
        rw [← HS0.out]
        go_wp2_with fail
        with_reducible refine (HStr.out _ HT1.out).mono ?_
        rintro e w2 ⟨rfl, hb2⟩
        have HB2 := Lib.hid (HB1.out.trans (hb2.mono HB1.out.size))
        have HT2 := Lib.hid (HT1.out.below hb2)
        clear hb2
        go_wp2_with fail
        with_reducible refine (HRef.out _).mono ?_
        rintro e w3 ⟨rfl, hb3⟩
        have HB3 := Lib.hid (HB2.out.trans (hb3.mono HB2.out.size))
        have HT3 := Lib.hid (HT2.out.below hb3)
        clear hb3
        go_wp2_with fail
        with_reducible refine (HAst.out _ HT3.out).mono ?_
        rintro e w4 ⟨rfl, hb4⟩
        have HB4 := Lib.hid (HB3.out.trans (hb4.mono HB3.out.size))
        have HT4 := Lib.hid (HT3.out.below hb4)
        clear hb4
        go_wp2_with fail
        with_reducible refine (HRas.out _).mono ?_
        rintro e w5 ⟨rfl, hb5⟩
        have HB5 := Lib.hid (HB4.out.trans (hb5.mono HB4.out.size))
        have HT5 := Lib.hid (HT4.out.below hb5)
        clear hb5
        go_wp2_with fail
        with_reducible refine (HNs.out _ _ HT5.out).mono ?_
        rintro e w6 ⟨rfl, hb6⟩
        have HB6 := Lib.hid (HB5.out.trans (hb6.mono HB5.out.size))
        have HT6 := Lib.hid (HT5.out.below hb6)
        clear hb6
        have HB7 := HB6
        have HT7 := HT6
        go_wp2_with fail
        with_reducible refine (HStr.out _ HT7.out).mono ?_
        rintro e w8 ⟨rfl, hb8⟩
        have HB8 := Lib.hid (HB7.out.trans (hb8.mono HB7.out.size))
        have HT8 := Lib.hid (HT7.out.below hb8)
        obtain ⟨w9, cp9, hr9, ha9, hb9⟩ := conv_bytesArg (P := Tryz.prog) w8 9 29 5 T (by unfold maxLen; omega) Tryz.underlying9 Tryz.underlying29 Tryz.underlying5
        have HB9 := Lib.hid (HB8.out.trans (hb9.mono HB8.out.size))
        have HT9 := Lib.hid (HT8.out.below hb9)
        have HC9 := Lib.hid (wtokens_any _ T.data.toList w9 ha9 (by simp; omega))
        rw [HTk.out _ (by have := HTp.out; omega)] at HC9
        unfold TksW at HC9
        try simp only at HC9
        clear hb8 ha9 hb9
        go_wp2_with fail
        with_reducible refine HC9.out.mono ?_
        rintro e wa ⟨hba, ua, rfl, hoa⟩
        obtain ⟨ga, capa, rfl, hcpa, _, hgla, hca⟩ := row2_read hoa (Nat.zero_lt_one)
        have l0 : wa.cell? ⟨ga, 0, none⟩ = some (.int .i64 2) := hca 0 (by show 0 < 2; decide)
        have l1 : wa.cell? ⟨ga, 1, none⟩ = some (.string ⟨S.data.toList.toArray⟩) := hca 1 (by show 1 < 2; decide)
        rw [bytes_back] at l1
        have HBa := Lib.hid (HB9.out.trans (hba.mono HB9.out.size))
        have HTa := Lib.hid (HT9.out.below hba)
        have HL0 := Lib.hid l0
        have HL1 := Lib.hid l1
        have hn1 : ([(2, S.data.toList)] : List (Nat × List UInt8)).length = 1 := rfl
        rw [hn1] at hcpa ⊢
        clear hba hoa hca l0 l1 hn1 HC9 hr9
        go_wp2_with fail
        with_reducible refine (HAst.out _ HTa.out).mono ?_
        rintro e wb ⟨rfl, hbb⟩
        have HBb := Lib.hid (HBa.out.trans (hbb.mono HBa.out.size))
        have HTb := Lib.hid (HTa.out.below hbb)
        obtain ⟨wc, cpc, hrc, hac, hbc⟩ := conv_bytesArg (P := Tryz.prog) wb 9 29 5 (A ++ ⟨#[32, 120]⟩) (by unfold maxLen; rw [ByteArray.size_append]; show A.size + 2 ≤ _; omega) Tryz.underlying9 Tryz.underlying29 Tryz.underlying5
        have esz : (A ++ ⟨#[32, 120]⟩ : ByteArray).size = A.size + 2 := by rw [ByteArray.size_append]; rfl
        rw [esz] at hrc hac
        have HBc := Lib.hid (HBb.out.trans (hbc.mono HBb.out.size))
        have HCc := Lib.hid (wtokens_any _ (A ++ ⟨#[32, 120]⟩).data.toList wc hac (by rw [len_toList, ByteArray.size_append]; show A.size + 2 ≤ _; omega))
        rw [HAk.out _ (by have := HAp.out; rw [cat_toList, List.length_append]; show 4 ≤ _ + 2 + 1; omega)] at HCc
        unfold TksW at HCc
        try simp only at HCc
        have HLc : Hid (Below wa.heap.size wa wc) := hbb.trans (hbc.mono hbb.size)
        clear hbb hac hbc esz
        go_wp2_with fail
        with_reducible refine HCc.out.mono ?_
        rintro e wd ⟨hbd, ud, rfl, hod⟩
        obtain ⟨gd, capd, rfl, hcpd, _, hgld, hcd⟩ := row2_read hod (Nat.zero_lt_succ 2)
        have m1 : wd.cell? ⟨gd, 1, none⟩ = some (.string ⟨S.data.toList.toArray⟩) := hcd 1 (by show 1 < 6; decide)
        have m2 : wd.cell? ⟨gd, 2, none⟩ = some (.int .i64 5) := hcd 2 (by show 2 < 6; decide)
        rw [bytes_back] at m1
        have hbl : Below wa.heap.size wa wd := HLc.out.trans (hbd.mono HLc.out.size)
        have l0 : wd.cell? ⟨ga, 0, none⟩ = some (.int .i64 2) := (hbl.cell (p := ⟨ga, 0, none⟩) hgla).trans HL0.out
        have l1 : wd.cell? ⟨ga, 1, none⟩ = some (.string S) := (hbl.cell (p := ⟨ga, 1, none⟩) hgla).trans HL1.out
        have HBd := Lib.hid (HBc.out.trans (hbd.mono HBc.out.size))
        have hn3 : ([(if isAst S.data.toList = true then 1 else 2, S.data.toList), (5, []), (1, [120])] : List (Nat × List UInt8)).length = 3 := rfl
        rw [hn3] at hcpd ⊢
        clear hbd hod hcd hbl hn3 HCc hrc
        go_wp2_with fail
        go_ret
        exact ⟨rfl, HBd.out⟩
      | true =>
        obtain ⟨S, hS⟩ : ∃ S : ByteArray, S = s ++ s ++ s ++ s ++ s ++ s := ⟨_, rfl⟩
        have hSz : S.size ≤ 1800 := by rw [hS]; first | omega | (simp; omega)
        obtain ⟨T, hT⟩ : ∃ T : ByteArray, T = ⟨(strW S.data.toList).toArray⟩ := ⟨_, rfl⟩
        obtain ⟨A, hA⟩ : ∃ A : ByteArray, A = ⟨(astW S.data.toList).toArray⟩ := ⟨_, rfl⟩
        have hTl : T.data.toList = strW S.data.toList := by rw [hT]
        have hAl : A.data.toList = astW S.data.toList := by rw [hA]
        have hTz : T.size ≤ 5000 := by
          have h1 := strW_len S.data.toList (by simp; omega)
          rw [← hTl, len_toList, len_toList] at h1
          omega
        have hAz : A.size ≤ 5000 := by
          have h1 := astW_len S.data.toList (by simp; omega)
          rw [← hAl, len_toList, len_toList] at h1
          omega
        have HStr := Lib.hid (fun W h => wstring_any S W (by omega) h)
        have HRef := Lib.hid (fun W => rstring_any S W (by omega))
        have HAst := Lib.hid (fun W h => wastring_any S W (by omega) h)
        have HRas := Lib.hid (fun W => rastring_any S W (by omega))
        have HNs := Lib.hid (fun b W h => wnstring_any S b W (by omega) h)
        rw [← hT] at HStr HRef HNs
        rw [← hA] at HAst HRas
        have HTk : Hid (∀ n, 2 ≤ n → toksW n T.data.toList = some [(2, S.data.toList)]) := fun n hn => by rw [hTl]; exact toks_str_any _ (by simp; omega) n hn
        have HAk : Hid (∀ n, 4 ≤ n → toksW n (A ++ ⟨#[32, 120]⟩).data.toList = some [(if isAst S.data.toList = true then 1 else 2, S.data.toList), (5, []), (1, [120])]) := fun n hn => by
          rw [cat_toList, hAl]
          exact toks_ast_any _ (by simp; omega) n hn
        have HTp : Hid (1 ≤ T.data.toList.length) := by
          unfold Hid
          rw [hTl]
          exact List.length_pos_iff.2 (strW_ne _)
        have HAp : Hid (1 ≤ A.data.toList.length) := by
          unfold Hid
          rw [hAl]
          exact List.length_pos_iff.2 (astW_ne _)
        have tt1 : (T.toList != T.toList) = false := by simp
        have tt2 : (T.toList == T.toList) = true := by simp
        have aa1 : (A.toList != A.toList) = false := by simp
        have aa2 : (A.toList == A.toList) = true := by simp
        have ss2 : (S.toList == S.toList) = true := by simp
        have ss1 : (S.toList != S.toList) = false := by simp
        have HS0 := Lib.hid hS
        clear hS hT hA hTl hAl
        go_enter Tryz.func3, Tryz.ntmps3
        go_wp2_with fail
        with_reducible refine HAw.out.mono ?_
        rintro e w1 ⟨rfl, hb1⟩
        have HB1 := Lib.hid hb1
        have HT1 := Lib.hid (HT.out.below hb1)
        clear hb1
        go_upto_region 8 with fail
        rw [← HS0.out]
        go_wp2_with fail
        with_reducible refine (HStr.out _ HT1.out).mono ?_
        rintro e w2 ⟨rfl, hb2⟩
        have HB2 := Lib.hid (HB1.out.trans (hb2.mono HB1.out.size))
        have HT2 := Lib.hid (HT1.out.below hb2)
        clear hb2
        go_wp2_with fail
        with_reducible refine (HRef.out _).mono ?_
        rintro e w3 ⟨rfl, hb3⟩
        have HB3 := Lib.hid (HB2.out.trans (hb3.mono HB2.out.size))
        have HT3 := Lib.hid (HT2.out.below hb3)
        clear hb3
        go_wp2_with fail
        with_reducible refine (HAst.out _ HT3.out).mono ?_
        rintro e w4 ⟨rfl, hb4⟩
        have HB4 := Lib.hid (HB3.out.trans (hb4.mono HB3.out.size))
        have HT4 := Lib.hid (HT3.out.below hb4)
        clear hb4
        go_wp2_with fail
        with_reducible refine (HRas.out _).mono ?_
        rintro e w5 ⟨rfl, hb5⟩
        have HB5 := Lib.hid (HB4.out.trans (hb5.mono HB4.out.size))
        have HT5 := Lib.hid (HT4.out.below hb5)
        clear hb5
        go_wp2_with fail
        with_reducible refine (HNs.out _ _ HT5.out).mono ?_
        rintro e w6 ⟨rfl, hb6⟩
        have HB6 := Lib.hid (HB5.out.trans (hb6.mono HB5.out.size))
        have HT6 := Lib.hid (HT5.out.below hb6)
        clear hb6
        go_wp2_with fail
        with_reducible refine (HStr.out _ HT6.out).mono ?_
        rintro e w7 ⟨rfl, hb7⟩
        have HB7 := Lib.hid (HB6.out.trans (hb7.mono HB6.out.size))
        have HT7 := Lib.hid (HT6.out.below hb7)
        clear hb7
        go_wp2_with fail
        with_reducible refine (HStr.out _ HT7.out).mono ?_
        rintro e w8 ⟨rfl, hb8⟩
        have HB8 := Lib.hid (HB7.out.trans (hb8.mono HB7.out.size))
        have HT8 := Lib.hid (HT7.out.below hb8)
        obtain ⟨w9, cp9, hr9, ha9, hb9⟩ := conv_bytesArg (P := Tryz.prog) w8 9 29 5 T (by unfold maxLen; omega) Tryz.underlying9 Tryz.underlying29 Tryz.underlying5
        have HB9 := Lib.hid (HB8.out.trans (hb9.mono HB8.out.size))
        have HT9 := Lib.hid (HT8.out.below hb9)
        have HC9 := Lib.hid (wtokens_any _ T.data.toList w9 ha9 (by simp; omega))
        rw [HTk.out _ (by have := HTp.out; omega)] at HC9
        unfold TksW at HC9
        try simp only at HC9
        clear hb8 ha9 hb9
        go_wp2_with fail
        with_reducible refine HC9.out.mono ?_
        rintro e wa ⟨hba, ua, rfl, hoa⟩
        obtain ⟨ga, capa, rfl, hcpa, _, hgla, hca⟩ := row2_read hoa (Nat.zero_lt_one)
        have l0 : wa.cell? ⟨ga, 0, none⟩ = some (.int .i64 2) := hca 0 (by show 0 < 2; decide)
        have l1 : wa.cell? ⟨ga, 1, none⟩ = some (.string ⟨S.data.toList.toArray⟩) := hca 1 (by show 1 < 2; decide)
        rw [bytes_back] at l1
        have HBa := Lib.hid (HB9.out.trans (hba.mono HB9.out.size))
        have HTa := Lib.hid (HT9.out.below hba)
        have HL0 := Lib.hid l0
        have HL1 := Lib.hid l1
        have hn1 : ([(2, S.data.toList)] : List (Nat × List UInt8)).length = 1 := rfl
        rw [hn1] at hcpa ⊢
        clear hba hoa hca l0 l1 hn1 HC9 hr9
        go_wp2_with fail
        with_reducible refine (HAst.out _ HTa.out).mono ?_
        rintro e wb ⟨rfl, hbb⟩
        have HBb := Lib.hid (HBa.out.trans (hbb.mono HBa.out.size))
        have HTb := Lib.hid (HTa.out.below hbb)
        obtain ⟨wc, cpc, hrc, hac, hbc⟩ := conv_bytesArg (P := Tryz.prog) wb 9 29 5 (A ++ ⟨#[32, 120]⟩) (by unfold maxLen; rw [ByteArray.size_append]; show A.size + 2 ≤ _; omega) Tryz.underlying9 Tryz.underlying29 Tryz.underlying5
        have esz : (A ++ ⟨#[32, 120]⟩ : ByteArray).size = A.size + 2 := by rw [ByteArray.size_append]; rfl
        rw [esz] at hrc hac
        have HBc := Lib.hid (HBb.out.trans (hbc.mono HBb.out.size))
        have HCc := Lib.hid (wtokens_any _ (A ++ ⟨#[32, 120]⟩).data.toList wc hac (by rw [len_toList, ByteArray.size_append]; show A.size + 2 ≤ _; omega))
        rw [HAk.out _ (by have := HAp.out; rw [cat_toList, List.length_append]; show 4 ≤ _ + 2 + 1; omega)] at HCc
        unfold TksW at HCc
        try simp only at HCc
        have HLc : Hid (Below wa.heap.size wa wc) := hbb.trans (hbc.mono hbb.size)
        clear hbb hac hbc esz
        go_wp2_with fail
        with_reducible refine HCc.out.mono ?_
        rintro e wd ⟨hbd, ud, rfl, hod⟩
        obtain ⟨gd, capd, rfl, hcpd, _, hgld, hcd⟩ := row2_read hod (Nat.zero_lt_succ 2)
        have m1 : wd.cell? ⟨gd, 1, none⟩ = some (.string ⟨S.data.toList.toArray⟩) := hcd 1 (by show 1 < 6; decide)
        have m2 : wd.cell? ⟨gd, 2, none⟩ = some (.int .i64 5) := hcd 2 (by show 2 < 6; decide)
        rw [bytes_back] at m1
        have hbl : Below wa.heap.size wa wd := HLc.out.trans (hbd.mono HLc.out.size)
        have l0 : wd.cell? ⟨ga, 0, none⟩ = some (.int .i64 2) := (hbl.cell (p := ⟨ga, 0, none⟩) hgla).trans HL0.out
        have l1 : wd.cell? ⟨ga, 1, none⟩ = some (.string S) := (hbl.cell (p := ⟨ga, 1, none⟩) hgla).trans HL1.out
        have HBd := Lib.hid (HBc.out.trans (hbd.mono HBc.out.size))
        have hn3 : ([(if isAst S.data.toList = true then 1 else 2, S.data.toList), (5, []), (1, [120])] : List (Nat × List UInt8)).length = 3 := rfl
        rw [hn3] at hcpd ⊢
        clear hbd hod hcd hbl hn3 HCc hrc
        go_wp2_with fail
        go_ret
        exact ⟨rfl, HBd.out⟩
end Go.Proofs.YtkkdplccneeaiaaGreatDoor
