/- Layer 18: contracts of package wire: texts as strings and atoms. -/
import Derived.Test.YtkkdplccneeaiaaGreatDoorGbWrA
import Derived.Test.YtkkdplccneeaiaaGreatDoorGbChars9
import Derived.Test.YtkkdplccneeaiaaGreatDoorGbParE
import Derived.Test.YtkkdplccneeaiaaGreatDoorGbAdT
namespace Go.Proofs.YtkkdplccneeaiaaGreatDoor
open Go Go.RowKit

theorem all_upto {p : UInt8 → Bool} {s : ByteArray} {j : Nat} (hj : j < s.size) (h1 : (s.data.toList.take j).all p = true) (h2 : p s[j] = true) : (s.data.toList.take (j + 1)).all p = true := by
  have e : s.data.toList.take (j + 1) = s.data.toList.take j ++ [s[j]] := by
    rw [List.take_succ_eq_append_getElem (by simpa using hj)]
    rfl
  rw [e, List.all_append, h1]
  simp [h2]
theorem all_not_at {p : UInt8 → Bool} {s : ByteArray} {j : Nat} (hj : j < s.size) (h2 : p s[j] = false) : s.data.toList.all p = false := by
  rw [List.all_eq_false]
  exact ⟨s[j], by simp [ByteArray.getElem_eq_getElem_data], by rw [h2]; decide⟩
theorem all_whole {p : UInt8 → Bool} {s : ByteArray} {j : Nat} (hj : s.size ≤ j) (h1 : (s.data.toList.take j).all p = true) : s.data.toList.all p = true := by
  rw [List.take_of_length_le (by simpa using hj)] at h1
  exact h1
def astB (c : UInt8) : Bool := atomW c && c != 91
set_option maxRecDepth 100000 in
theorem weach_plain (s : ByteArray) (w : World) (hl : s.size ≤ 9223372036854775807) :
    Calls Tryz.prog 18 #[.string s, .func (.func 19) #[] #[]] w fun e w' => e = .returned (.bool (s.data.toList.all prB)) ∧ w = w' := by
  have HK := Lib.hid wplain_any
  go_enter Tryz.func18, Tryz.ntmps18
  go_wp2_with fail
  go_loopg [5] s.size (fun g i wr => ∃ j : Nat, g = s.size - j ∧ j ≤ s.size ∧ i = .int .i64 (j : Int) ∧ w = wr ∧ Hid ((s.data.toList.take j).all prB = true))
  case atStart => exact ⟨0, by omega, by omega, rfl, rfl, rfl⟩
  case round =>
    obtain ⟨j, rfl, hj, rfl, rfl, HS⟩ := hrel
    by_cases hlt : j < s.size
    · have hd : ((j : Int) < (s.size : Int)) := by omega
      have HKj := Lib.hid (fun W => HK.out s[j] W)
      rcases Bool.eq_false_or_eq_true (prB s[j]) with hb | hb
      · have HKb : Hid (∀ W, Calls Tryz.prog 19 #[.int .u8 (s[j].toNat : Int)] W fun e w' => e = .returned (.bool true) ∧ W = w') := fun W => (HKj.out W).mono fun e w' h => ⟨by rw [h.1, ← hb]; try rfl, h.2⟩
        go_wp2_with fail
        with_reducible refine (HKb.out _).mono ?_
        rintro e w1 ⟨rfl, rfl⟩
        skip
        go_wp2_with fail
        go_roundg (s.size - (j + 1))
        case measure => omega
        case rel => exact ⟨j + 1, rfl, hlt, by go_num, rfl, all_upto hlt HS.out hb⟩
      · have HKb : Hid (∀ W, Calls Tryz.prog 19 #[.int .u8 (s[j].toNat : Int)] W fun e w' => e = .returned (.bool false) ∧ W = w') := fun W => (HKj.out W).mono fun e w' h => ⟨by rw [h.1, ← hb]; try rfl, h.2⟩
        go_wp2_with fail
        with_reducible refine (HKb.out _).mono ?_
        rintro e w1 ⟨rfl, rfl⟩
        skip
        go_wp2_with fail
        go_ret
        exact ⟨ret_bool (all_not_at hlt hb).symm, rfl⟩
    · go_wp2_with fail
      go_ret
      exact ⟨ret_bool (all_whole (by omega) HS.out).symm, rfl⟩
set_option maxRecDepth 100000 in
theorem weach_atom (s : ByteArray) (w : World) (hl : s.size ≤ 9223372036854775807) :
    Calls Tryz.prog 18 #[.string s, .func (.func 26) #[] #[]] w fun e w' => e = .returned (.bool (s.data.toList.all astB)) ∧ Below w.heap.size w w' := by
  have HK := Lib.hid watom_any
  go_enter Tryz.func18, Tryz.ntmps18
  go_wp2_with fail
  go_loopg [5] s.size (fun g i wr => ∃ j : Nat, g = s.size - j ∧ j ≤ s.size ∧ i = .int .i64 (j : Int) ∧ Hid (Below w.heap.size w wr) ∧ Hid ((s.data.toList.take j).all astB = true))
  case atStart => exact ⟨0, by omega, by omega, rfl, Below.refl _ _, rfl⟩
  case round =>
    obtain ⟨j, rfl, hj, rfl, HB, HS⟩ := hrel
    by_cases hlt : j < s.size
    · have hd : ((j : Int) < (s.size : Int)) := by omega
      have HKj := Lib.hid (fun W => HK.out s[j] W)
      rcases Bool.eq_false_or_eq_true (astB s[j]) with hb | hb
      · have HKb : Hid (∀ W, Calls Tryz.prog 26 #[.int .u8 (s[j].toNat : Int)] W fun e w' => e = .returned (.bool true) ∧ Below W.heap.size W w') := fun W => (HKj.out W).mono fun e w' h => ⟨by rw [h.1, ← hb]; try rfl, h.2⟩
        go_wp2_with fail
        with_reducible refine (HKb.out _).mono ?_
        rintro e w1 ⟨rfl, hb1⟩
        have HB1 := Lib.hid (HB.out.trans (hb1.mono HB.out.size))
        go_wp2_with fail
        go_roundg (s.size - (j + 1))
        case measure => omega
        case rel => exact ⟨j + 1, rfl, hlt, by go_num, HB1.out, all_upto hlt HS.out hb⟩
      · have HKb : Hid (∀ W, Calls Tryz.prog 26 #[.int .u8 (s[j].toNat : Int)] W fun e w' => e = .returned (.bool false) ∧ Below W.heap.size W w') := fun W => (HKj.out W).mono fun e w' h => ⟨by rw [h.1, ← hb]; try rfl, h.2⟩
        go_wp2_with fail
        with_reducible refine (HKb.out _).mono ?_
        rintro e w1 ⟨rfl, hb1⟩
        have HB1 := Lib.hid (HB.out.trans (hb1.mono HB.out.size))
        go_wp2_with fail
        go_ret
        exact ⟨ret_bool (all_not_at hlt hb).symm, HB1.out⟩
    · go_wp2_with fail
      go_ret
      exact ⟨ret_bool (all_whole (by omega) HS.out).symm, HB.out⟩
theorem idx0_yes : ∀ (l : List UInt8) (c : UInt8), c ∈ l → ∃ n : Nat, Lib.indexByte l c = (n : Int)
  | [], c, h => by cases h
  | b :: l, c, h => by
    unfold Lib.indexByte
    by_cases hb : (b == c) = true
    · rw [if_pos hb]; exact ⟨0, rfl⟩
    · rw [if_neg hb]
      have hc : c ∈ l := by
        rcases List.mem_cons.1 h with e | e
        · exact absurd (by rw [e]; simp) hb
        · exact e
      obtain ⟨n, hn⟩ := idx0_yes l c hc
      rw [hn, if_neg (by simp)]
      exact ⟨n + 1, rfl⟩
theorem idx0_no : ∀ (l : List UInt8) (c : UInt8), c ∉ l → Lib.indexByte l c = -1
  | [], c, _ => rfl
  | b :: l, c, h => by
    unfold Lib.indexByte
    have hb : ¬ (b == c) = true := fun e => h (by rw [List.mem_cons]; exact .inl (by simpa using (beq_iff_eq.1 e).symm))
    rw [if_neg hb, idx0_no l c (fun e => h (List.mem_cons_of_mem _ e)), if_pos (by rfl)]
theorem itoa_nat_len (n : Nat) (h : n ≤ 1000000000) : (Lib.itoa (n : Int)).length ≤ 21 := Lib.itoa_length_le (n : Int) (by omega) (by omega)
set_option maxRecDepth 100000 in
theorem wlit_any (s : ByteArray) (w : World) (hl : s.size ≤ 1000000000) (ht : tab w) :
    Calls Tryz.prog 21 #[.string s] w fun e w' => e = .returned (.string ⟨(litT s.data.toList).toArray⟩) ∧ Below w.heap.size w w' := by
  obtain ⟨T, hT⟩ : ∃ T : ByteArray, T = ⟨(Lib.itoa (s.size : Int)).toArray⟩ := ⟨_, rfl⟩
  have hTs : T.size ≤ 21 := by rw [hT]; exact itoa_nat_len s.size hl
  have HT : Hid (T.data.toList = Lib.itoa ((s.data.toList.length : Nat) : Int)) := by unfold Hid; rw [hT, len_toList]
  have HD := Lib.hid (fun W h => digits_any (s.size : Int) (by omega) (by omega) W h)
  rw [← hT] at HD
  have HTb := Lib.hid ht
  clear hT ht
  have HI := Lib.hid (fun W => Tryz.strings_IndexByte s 0 W)
  by_cases h0 : (0 : UInt8) ∈ s.data.toList
  · obtain ⟨n, hn⟩ := idx0_yes _ _ h0
    have HI2 : Hid (∀ W, Calls Tryz.prog 32 #[.string s, .int .u8 0] W fun e w' => e = .returned (.int .i64 (n : Int)) ∧ W = w') := fun W => (HI.out W).mono fun e w' h => ⟨by rw [h.1]; exact congrArg (fun z => Ending.returned (.int .i64 z)) hn, h.2.symm⟩
    have hn0 : (0 : Int) ≤ (n : Int) := by omega
    have H0 := Lib.hid h0
    clear hn h0 HI
    go_enter Tryz.func21, Tryz.ntmps21
    go_wp2_with fail
    with_reducible refine (HI2.out _).mono ?_
    rintro e w1 ⟨rfl, rfl⟩
    go_wp2_with fail
    with_reducible refine (HD.out _ HTb.out).mono ?_
    rintro e w2 ⟨rfl, hb2⟩
    go_wp2_with fail
    go_ret
    refine ⟨ret_str (bytes_eq ?_), hb2⟩
    unfold litT
    rw [if_pos H0.out, ← HT.out]
    simp
  · have hn := idx0_no _ _ h0
    have HI2 : Hid (∀ W, Calls Tryz.prog 32 #[.string s, .int .u8 0] W fun e w' => e = .returned (.int .i64 (-1)) ∧ W = w') := fun W => (HI.out W).mono fun e w' h => ⟨by rw [h.1]; exact congrArg (fun z => Ending.returned (.int .i64 z)) hn, h.2.symm⟩
    have H0 := Lib.hid h0
    clear hn h0 HI
    go_enter Tryz.func21, Tryz.ntmps21
    go_wp2_with fail
    with_reducible refine (HI2.out _).mono ?_
    rintro e w1 ⟨rfl, rfl⟩
    go_wp2_with fail
    with_reducible refine (HD.out _ HTb.out).mono ?_
    rintro e w2 ⟨rfl, hb2⟩
    go_wp2_with fail
    go_ret
    refine ⟨ret_str (bytes_eq ?_), hb2⟩
    unfold litT
    rw [if_neg H0.out, ← HT.out]
    simp
theorem strW_quo {l : List UInt8} (h1 : l.all prB = true) (h2 : l.length ≤ 1000) : strW l = quoteL l := by
  unfold strW quoteL
  rw [if_pos ⟨h1, h2⟩]
  simp
theorem strW_lit {l : List UInt8} (h : ¬ (l.all prB = true ∧ l.length ≤ 1000)) : strW l = litT l := by
  unfold strW
  rw [if_neg h]
set_option maxRecDepth 100000 in
theorem wstring_any (s : ByteArray) (w : World) (hl : s.size ≤ 1000000000) (ht : tab w) :
    Calls Tryz.prog 8 #[.string s] w fun e w' => e = .returned (.string ⟨(strW s.data.toList).toArray⟩) ∧ Below w.heap.size w w' := by
  have HE := Lib.hid (fun W => weach_plain s W (by omega))
  have HQ := Lib.hid (fun W => quoted_any s W (by omega))
  have HL := Lib.hid (fun W h => wlit_any s W hl h)
  have HT := Lib.hid ht
  clear ht
  by_cases h1 : s.size ≤ 1000
  · have hi : (s.size : Int) ≤ 1000 := by omega
    rcases Bool.eq_false_or_eq_true (s.data.toList.all prB) with hp | hp
    · have HS := Lib.hid (strW_quo hp (by simpa using h1))
      rw [hp] at HE
      clear hp h1
      go_enter Tryz.func8, Tryz.ntmps8
      go_wp2_with fail
      with_reducible refine (HE.out _).mono ?_
      rintro e w1 ⟨rfl, rfl⟩
      go_wp2_with fail
      with_reducible refine (HQ.out _).mono ?_
      rintro e w2 ⟨rfl, hb2⟩
      go_wp2_with fail
      go_ret
      rw [HS.out]
      exact ⟨rfl, hb2⟩
    · have HS := Lib.hid (strW_lit (l := s.data.toList) (fun h => by rw [hp] at h; cases h.1))
      rw [hp] at HE
      clear hp h1
      go_enter Tryz.func8, Tryz.ntmps8
      go_wp2_with fail
      with_reducible refine (HE.out _).mono ?_
      rintro e w1 ⟨rfl, rfl⟩
      go_wp2_with fail
      with_reducible refine (HL.out _ HT.out).mono ?_
      rintro e w2 ⟨rfl, hb2⟩
      go_wp2_with fail
      go_ret
      rw [HS.out]
      exact ⟨rfl, hb2⟩
  · have hi : ¬ (s.size : Int) ≤ 1000 := by omega
    have hi2 : decide ((s.size : Int) ≤ 1000) = false := decide_eq_false hi
    have HS := Lib.hid (strW_lit (l := s.data.toList) (fun h => h1 (by simpa using h.2)))
    clear h1
    go_enter Tryz.func8, Tryz.ntmps8
    go_wp2_with fail
    with_reducible refine (HL.out _ HT.out).mono ?_
    rintro e w2 ⟨rfl, hb2⟩
    go_wp2_with fail
    go_ret
    rw [HS.out]
    exact ⟨rfl, hb2⟩
set_option maxRecDepth 100000 in
theorem wnstring_any (s : ByteArray) (is : Bool) (w : World) (hl : s.size ≤ 1000000000) (ht : tab w) :
    Calls Tryz.prog 12 #[.string s, .bool is] w fun e w' => e = .returned (.string (if is = true then ⟨(strW s.data.toList).toArray⟩ else ⟨#[78, 73, 76]⟩)) ∧ Below w.heap.size w w' := by
  have HS := Lib.hid (fun W h => wstring_any s W hl h)
  have HT := Lib.hid ht
  clear ht
  cases is with
  | true =>
    go_enter Tryz.func12, Tryz.ntmps12
    go_wp2_with fail
    with_reducible refine (HS.out _ HT.out).mono ?_
    rintro e w2 ⟨rfl, hb2⟩
    go_wp2_with fail
    go_ret
    exact ⟨rfl, hb2⟩
  | false =>
    go_enter Tryz.func12, Tryz.ntmps12
    go_wp2_with fail
    go_ret
    exact ⟨rfl, Below.refl _ _⟩
theorem isAst_B (l : List UInt8) : isAst l = (!l.isEmpty && l.all astB) := rfl
set_option maxRecDepth 100000 in
theorem wastring_any (s : ByteArray) (w : World) (hl : s.size ≤ 1000000000) (ht : tab w) :
    Calls Tryz.prog 10 #[.string s] w fun e w' => e = .returned (.string ⟨(astW s.data.toList).toArray⟩) ∧ Below w.heap.size w w' := by
  have HE := Lib.hid (fun W => weach_atom s W (by omega))
  have HS := Lib.hid (fun W h => wstring_any s W hl h)
  have HT := Lib.hid ht
  clear ht
  by_cases h0 : s.data.toList = []
  · have hz : s.toList = [] := by rw [ByteArray.toList_eq]; exact h0
    have e1 : (s.toList != []) = false := by rw [hz]; rfl
    have e2 : s.toList.isEmpty = true := by rw [hz]; rfl
    have e3 : (s.toList == []) = true := by rw [hz]; rfl
    have HA : Hid (astW s.data.toList = strW s.data.toList) := by unfold Hid astW; rw [if_neg (by rw [h0]; decide)]
    clear h0
    go_enter Tryz.func10, Tryz.ntmps10
    go_wp2_with fail
    with_reducible refine (HS.out _ HT.out).mono ?_
    rintro e w2 ⟨rfl, hb2⟩
    go_wp2_with fail
    go_ret
    rw [HA.out]
    exact ⟨rfl, hb2⟩
  · have hz : s.toList ≠ [] := by rw [ByteArray.toList_eq]; exact h0
    have e1 : (s.toList != []) = true := by simpa using hz
    have e2 : s.toList.isEmpty = false := by simpa using hz
    have e3 : (s.toList == []) = false := by simpa using hz
    have h1 : s.data.toList.isEmpty = false := by simpa using h0
    rcases Bool.eq_false_or_eq_true (s.data.toList.all astB) with hp | hp
    · have HA : Hid (astW s.data.toList = s.data.toList) := by unfold Hid astW; rw [if_pos (by rw [isAst_B, hp, h1]; rfl)]
      rw [hp] at HE
      clear h0 h1 hp hz
      go_enter Tryz.func10, Tryz.ntmps10
      go_wp2_with fail
      with_reducible refine (HE.out _).mono ?_
      rintro e w1 ⟨rfl, hb1⟩
      go_wp2_with fail
      go_ret
      exact ⟨ret_str (bytes_eq (by rw [HA.out])), hb1⟩
    · have HA : Hid (astW s.data.toList = strW s.data.toList) := by unfold Hid astW; rw [if_neg (by rw [isAst_B, hp, Bool.and_false]; decide)]
      rw [hp] at HE
      clear h0 h1 hp hz
      go_enter Tryz.func10, Tryz.ntmps10
      go_wp2_with fail
      with_reducible refine (HE.out _).mono ?_
      rintro e w1 ⟨rfl, hb1⟩
      have HB1 := Lib.hid hb1
      have HT1 := Lib.hid (HT.out.below hb1)
      clear hb1
      go_wp2_with fail
      with_reducible refine (HS.out _ HT1.out).mono ?_
      rintro e w2 ⟨rfl, hb2⟩
      go_wp2_with fail
      go_ret
      rw [HA.out]
      exact ⟨rfl, HB1.out.trans (hb2.mono HB1.out.size)⟩
end Go.Proofs.YtkkdplccneeaiaaGreatDoor

/- Layer 18: contracts of the document's texts as strings and atoms. -/
namespace Go.Proofs.YtkkdplccneeaiaaGreatDoor
open Go Go.RowKit

set_option maxRecDepth 100000 in
theorem rprinted_any (s : ByteArray) (w : World) (hl : s.size ≤ 9223372036854775807) :
    Calls Tryz.prog 22 #[.string s] w fun e w' => e = .returned (.bool (s.data.toList.all prB)) ∧ w = w' := by
  obtain ⟨x, hx⟩ : ∃ x, x = s.data.toList.all prB := ⟨_, rfl⟩
  rw [← hx]
  have HX := Lib.hid hx
  clear hx
  go_enter Tryz.func22, Tryz.ntmps22
  go_wp2_with fail
  go_loopg [3] s.size (fun g i wr => ∃ j : Nat, g = s.size - j ∧ j ≤ s.size ∧ i = .int .i64 (j : Int) ∧ w = wr ∧ Hid ((s.data.toList.take j).all prB = true))
  case atStart => exact ⟨0, by omega, by omega, rfl, rfl, rfl⟩
  case round =>
    obtain ⟨j, rfl, hj, rfl, rfl, HS⟩ := hrel
    by_cases hlt : j < s.size
    · have hd : ((j : Int) < (s.size : Int)) := by omega
      by_cases h1 : (s[j].toNat : Int) < 32
      · have hb : Hid (prB s[j] = false) := by unfold Hid prB; rw [decide_eq_false]; omega
        go_wp2_with fail
        go_ret
        exact ⟨ret_bool (HX.out.trans (all_not_at hlt hb.out)).symm, rfl⟩
      · have h1b : decide ((s[j].toNat : Int) < 32) = false := decide_eq_false h1
        by_cases h2 : (126 : Int) < (s[j].toNat : Int)
        · have hb : Hid (prB s[j] = false) := by unfold Hid prB; rw [decide_eq_false]; omega
          go_wp2_with fail
          go_ret
          exact ⟨ret_bool (HX.out.trans (all_not_at hlt hb.out)).symm, rfl⟩
        · have h2b : decide ((126 : Int) < (s[j].toNat : Int)) = false := decide_eq_false h2
          have hb : Hid (prB s[j] = true) := by unfold Hid prB; rw [decide_eq_true_iff]; omega
          go_wp2_with fail
          go_roundg (s.size - (j + 1))
          case measure => omega
          case rel => exact ⟨j + 1, rfl, hlt, by go_num, rfl, all_upto hlt HS.out hb.out⟩
    · go_wp2_with fail
      go_ret
      exact ⟨ret_bool (HX.out.trans (all_whole (by omega) HS.out)).symm, rfl⟩
theorem hasI_mem (s : ByteArray) : hasI s 0 = decide ((0 : UInt8) ∈ s.data.toList) := by
  unfold hasI
  rw [Bool.eq_iff_iff, List.any_eq_true, decide_eq_true_iff]
  constructor
  · rintro ⟨b, hb, e⟩
    have h := beq_iff_eq.1 e
    have : b = 0 := toNat_eq (by show b.toNat = 0; omega)
    rw [← this]
    exact hb
  · intro h
    exact ⟨0, h, rfl⟩
set_option maxRecDepth 100000 in
theorem rstring_any (s : ByteArray) (w : World) (hl : s.size ≤ 100000000) :
    Calls Tryz.prog 9 #[.string s] w fun e w' => e = .returned (.string ⟨(strW s.data.toList).toArray⟩) ∧ Below w.heap.size w w' := by
  have HE := Lib.hid (fun W => rprinted_any s W (by omega))
  have HQ : Hid (∀ W, Calls Tryz.prog 23 #[.string s] W fun e w' => e = .returned (.string ⟨(quoteL s.data.toList).toArray⟩) ∧ W = w') := fun W =>
    (refQuotedT_any s W hl).mono fun e w' ⟨T, he, hT, hw⟩ => ⟨by rw [he]; exact ret_str (bytes_eq (by rw [hT])), hw⟩
  have HI := Lib.hid (fun W => in_any s 0 W (by omega))
  rw [hasI_mem] at HI
  obtain ⟨T, hT⟩ : ∃ T : ByteArray, T = ⟨(Lib.itoa (s.size : Int)).toArray⟩ := ⟨_, rfl⟩
  have hTs : T.size ≤ 21 := by rw [hT]; exact itoa_nat_len s.size (by omega)
  have HT : Hid (T.data.toList = Lib.itoa ((s.data.toList.length : Nat) : Int)) := by unfold Hid; rw [hT, len_toList]
  have HD : Hid (∀ W, Calls Tryz.prog 25 #[.int .i64 (s.size : Int)] W fun e w' => e = .returned (.string T) ∧ Below W.heap.size W w') := fun W =>
    (refDigits_any (s.size : Int) (by omega) (by omega) W).mono fun e w' ⟨he, k, hw⟩ => ⟨by rw [he, hT], by rw [hw]; exact below_drewN' k⟩
  clear hT
  by_cases hc : s.data.toList.all prB = true ∧ s.data.toList.length ≤ 1000
  · have hi : (s.size : Int) ≤ 1000 := by have := hc.2; simp at this; omega
    have HS := Lib.hid (strW_quo hc.1 hc.2)
    rw [hc.1] at HE
    clear hc
    go_enter Tryz.func9, Tryz.ntmps9
    go_wp2_with fail
    with_reducible refine (HE.out _).mono ?_
    rintro e w1 ⟨rfl, rfl⟩
    go_wp2_with fail
    with_reducible refine (HQ.out _).mono ?_
    rintro e w2 ⟨rfl, rfl⟩
    go_wp2_with fail
    go_ret
    rw [HS.out]
    exact ⟨rfl, Below.refl _ _⟩
  · have HS := Lib.hid (strW_lit hc)
    have hx : s.data.toList.all prB = false ∨ (s.data.toList.all prB = true ∧ ¬ (s.size : Int) ≤ 1000) := by
      rcases Bool.eq_false_or_eq_true (s.data.toList.all prB) with h | h
      · refine .inr ⟨h, fun h2 => hc ⟨h, ?_⟩⟩
        simp
        omega
      · exact .inl h
    have HLt : Hid (∀ z : Bool, z = decide ((0 : UInt8) ∈ s.data.toList) → litT s.data.toList = (if z = true then [126] else []) ++ (123 :: (T.data.toList ++ (125 :: 13 :: 10 :: s.data.toList)))) := by
      intro z hz
      subst hz
      unfold litT
      rw [HT.out]
      by_cases h0 : (0 : UInt8) ∈ s.data.toList
      · rw [if_pos h0, if_pos (decide_eq_true h0)]
      · rw [if_neg h0, if_neg (by rw [decide_eq_false h0]; decide)]
    obtain ⟨z, hz⟩ : ∃ z, z = decide ((0 : UInt8) ∈ s.data.toList) := ⟨_, rfl⟩
    rw [← hz] at HI
    have HL := Lib.hid (HLt.out z hz)
    clear hz hc HLt
    rcases hx with hx | ⟨hx, hi⟩
    · rw [hx] at HE
      clear hx
      cases z <;>
      · go_enter Tryz.func9, Tryz.ntmps9
        go_wp2_with fail
        with_reducible refine (HE.out _).mono ?_
        rintro e w1 ⟨rfl, rfl⟩
        go_wp2_with fail
        with_reducible refine (HI.out _).mono ?_
        rintro e w2 ⟨rfl, rfl⟩
        go_wp2_with fail
        with_reducible refine (HD.out _).mono ?_
        rintro e w3 ⟨rfl, hb3⟩
        go_wp2_with fail
        go_ret
        refine ⟨ret_str (bytes_eq ?_), hb3⟩
        rw [HS.out, HL.out]
        simp
    · have hi2 : decide ((s.size : Int) ≤ 1000) = false := decide_eq_false hi
      rw [hx] at HE
      clear hx
      cases z <;>
      · go_enter Tryz.func9, Tryz.ntmps9
        go_wp2_with fail
        with_reducible refine (HE.out _).mono ?_
        rintro e w1 ⟨rfl, rfl⟩
        go_wp2_with fail
        with_reducible refine (HI.out _).mono ?_
        rintro e w2 ⟨rfl, rfl⟩
        go_wp2_with fail
        with_reducible refine (HD.out _).mono ?_
        rintro e w3 ⟨rfl, hb3⟩
        go_wp2_with fail
        go_ret
        refine ⟨ret_str (bytes_eq ?_), hb3⟩
        rw [HS.out, HL.out]
        simp
set_option maxRecDepth 100000 in
theorem rastring_any (s : ByteArray) (w : World) (hl : s.size ≤ 100000000) :
    Calls Tryz.prog 11 #[.string s] w fun e w' => e = .returned (.string ⟨(astW s.data.toList).toArray⟩) ∧ Below w.heap.size w w' := by
  have HS := Lib.hid (fun W => rstring_any s W hl)
  have HA := Lib.hid (fun c W => refAtom_any c W)
  obtain ⟨z, hzz⟩ : ∃ z, z = !s.data.toList.isEmpty := ⟨_, rfl⟩
  have hz : (s.toList != []) = z := by
    rw [hzz, ByteArray.toList_eq]
    cases s.data.toList <;> rfl
  have hz2 : s.toList.isEmpty = !z := by
    rw [hzz, ByteArray.toList_eq, Bool.not_not]
  have hz3 : (s.toList == []) = !z := by
    rw [hzz, ByteArray.toList_eq]
    cases s.data.toList <;> rfl
  have HZ := Lib.hid hzz
  clear hzz
  go_enter Tryz.func11, Tryz.ntmps11
  go_wp2_with fail
  go_loopg [3, 4, 5] s.size (fun g ok i x5 wr => ∃ (j : Nat) (o : Bool), g = s.size - j ∧ j ≤ s.size ∧ i = .int .i64 (j : Int) ∧ ok = .bool o ∧ Hid (o = (z && (s.data.toList.take j).all astB)) ∧ w = wr)
  case atStart => exact ⟨0, z, by omega, by omega, rfl, by first | rfl | simp [hz2], by unfold Hid; simp, rfl⟩
  case round =>
    obtain ⟨j, o, rfl, hj, rfl, rfl, HO, rfl⟩ := hrel
    by_cases hlt : j < s.size
    · have hd : ((j : Int) < (s.size : Int)) := by omega
      obtain ⟨a, ha⟩ : ∃ a, a = atomI (s[j].toNat : Int) := ⟨_, rfl⟩
      obtain ⟨c, hc⟩ : ∃ c, c = ((s[j].toNat : Int) != 91) := ⟨_, rfl⟩
      have HAj := Lib.hid (HA.out (s[j].toNat : Int) w)
      rw [← ha] at HAj
      have HN : Hid ((o && (a && c)) = (z && (s.data.toList.take (j + 1)).all astB)) := by
        unfold Hid
        have e : s.data.toList.take (j + 1) = s.data.toList.take j ++ [s[j]] := by
          rw [List.take_succ_eq_append_getElem (by simpa using hlt)]
          rfl
        have e2 : astB s[j] = (a && c) := by
          unfold astB atomW
          rw [ha, hc]
          congr 1
          rw [Bool.eq_iff_iff, bne_iff_ne, bne_iff_ne]
          exact ⟨fun h e => h (toNat_eq (by show s[j].toNat = 91; omega)), fun h e => h (by rw [e]; rfl)⟩
        rw [e, List.all_append, HO.out, ← e2, Bool.and_assoc]
        simp
      have hcc := hc.symm
      clear ha hc
      cases o <;> cases a <;> cases c <;>
      · go_wp2_with fail
        with_reducible refine HAj.out.mono ?_
        rintro e w1 ⟨rfl, rfl⟩
        go_wp2_with fail
        go_roundg (s.size - (j + 1))
        case measure => omega
        case rel => exact ⟨j + 1, _, rfl, hlt, by go_num, rfl, HN.out, rfl⟩
    · have HX : Hid (isAst s.data.toList = o) := by
        unfold Hid
        rw [HO.out, isAst_B, HZ.out, List.take_of_length_le (by simp; omega)]
      cases o with
      | true =>
        have HE : Hid (astW s.data.toList = s.data.toList) := by unfold Hid astW; rw [if_pos HX.out]
        go_wp2_with fail
        go_ret
        exact ⟨ret_str (bytes_eq (by rw [HE.out])), Below.refl _ _⟩
      | false =>
        have HE : Hid (astW s.data.toList = strW s.data.toList) := by unfold Hid astW; rw [if_neg (by rw [HX.out]; decide)]
        go_wp2_with fail
        with_reducible refine (HS.out _).mono ?_
        rintro e w2 ⟨rfl, hb2⟩
        go_wp2_with fail
        go_ret
        rw [HE.out]
        exact ⟨rfl, hb2⟩
end Go.Proofs.YtkkdplccneeaiaaGreatDoor
