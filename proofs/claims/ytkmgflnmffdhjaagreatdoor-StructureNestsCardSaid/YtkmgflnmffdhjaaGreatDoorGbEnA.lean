/- Layer 18: contracts of package wire: texts as strings and atoms. -/
import Derived.Test.YtkmgflnmffdhjaaGreatDoorGbAdT
import Derived.Test.YtkmgflnmffdhjaaGreatDoorGbChars9
import Derived.Test.YtkmgflnmffdhjaaGreatDoorGbParE
namespace Go.Proofs.YtkmgflnmffdhjaaGreatDoor
open Go Go.RowKit

theorem all_upto {p : UInt8 → Bool} {s : ByteArray} {j : Nat} (hj : j < s.size) (h1 : (s.data.toList.take j).all p = true) (h2 : p s[j] = true) : (s.data.toList.take (j + 1)).all p = true := by
  have e : s.data.toList.take (j + 1) = s.data.toList.take j ++ [s[j]] := by
    rw [List.take_succ_eq_append_getElem (by simpa using hj)]
    rfl
  rw [e, List.all_append, h1]
  simp [h2]
theorem all_not_at {p : UInt8 → Bool} {s : ByteArray} {j : Nat} (hj : j < s.size) (h2 : p s[j] = false) : s.data.toList.all p = false := by
  rw [List.all_eq_false]
  exact ⟨s[j], by simp [ByteArray.getElem_eq_getElem_data], by rw [h2]; decide⟩
theorem all_whole {p : UInt8 → Bool} {s : ByteArray} {j : Nat} (hj : s.size ≤ j) (h1 : (s.data.toList.take j).all p = true) : s.data.toList.all p = true := by
  rw [List.take_of_length_le (by simpa using hj)] at h1
  exact h1
set_option maxRecDepth 100000 in
theorem weach_plain (s : ByteArray) (w : World) (hl : s.size ≤ 9223372036854775807) :
    Calls Tryz.prog 71 #[.string s, .func (.func 72) #[] #[]] w fun e w' => e = .returned (.bool (s.data.toList.all prB)) ∧ w = w' := by
  have HK := Lib.hid wplain_any
  go_enter Tryz.func71, Tryz.ntmps71
  go_wp2_with fail
  go_loopg [5] s.size (fun g i wr => ∃ j : Nat, g = s.size - j ∧ j ≤ s.size ∧ i = .int .i64 (j : Int) ∧ w = wr ∧ Hid ((s.data.toList.take j).all prB = true))
  case atStart => exact ⟨0, by omega, by omega, rfl, rfl, rfl⟩
  case round =>
    obtain ⟨j, rfl, hj, rfl, rfl, HS⟩ := hrel
    by_cases hlt : j < s.size
    · have hd : ((j : Int) < (s.size : Int)) := by omega
      have HKj := Lib.hid (fun W => HK.out s[j] W)
      rcases Bool.eq_false_or_eq_true (prB s[j]) with hb | hb
      · have HKb : Hid (∀ W, Calls Tryz.prog 72 #[.int .u8 (s[j].toNat : Int)] W fun e w' => e = .returned (.bool true) ∧ W = w') := fun W => (HKj.out W).mono fun e w' h => ⟨by rw [h.1, ← hb]; try rfl, h.2⟩
        go_wp2_with fail
        with_reducible refine (HKb.out _).mono ?_
        rintro e w1 ⟨rfl, rfl⟩
        skip
        go_wp2_with fail
        go_roundg (s.size - (j + 1))
        case measure => omega
        case rel => exact ⟨j + 1, rfl, hlt, by go_num, rfl, all_upto hlt HS.out hb⟩
      · have HKb : Hid (∀ W, Calls Tryz.prog 72 #[.int .u8 (s[j].toNat : Int)] W fun e w' => e = .returned (.bool false) ∧ W = w') := fun W => (HKj.out W).mono fun e w' h => ⟨by rw [h.1, ← hb]; try rfl, h.2⟩
        go_wp2_with fail
        with_reducible refine (HKb.out _).mono ?_
        rintro e w1 ⟨rfl, rfl⟩
        skip
        go_wp2_with fail
        go_ret
        exact ⟨ret_bool (all_not_at hlt hb).symm, rfl⟩
    · go_wp2_with fail
      go_ret
      exact ⟨ret_bool (all_whole (by omega) HS.out).symm, rfl⟩
theorem idx0_yes : ∀ (l : List UInt8) (c : UInt8), c ∈ l → ∃ n : Nat, Lib.indexByte l c = (n : Int)
  | [], c, h => by cases h
  | b :: l, c, h => by
    unfold Lib.indexByte
    by_cases hb : (b == c) = true
    · rw [if_pos hb]; exact ⟨0, rfl⟩
    · rw [if_neg hb]
      have hc : c ∈ l := by
        rcases List.mem_cons.1 h with e | e
        · exact absurd (by rw [e]; simp) hb
        · exact e
      obtain ⟨n, hn⟩ := idx0_yes l c hc
      rw [hn, if_neg (by simp)]
      exact ⟨n + 1, rfl⟩
theorem idx0_no : ∀ (l : List UInt8) (c : UInt8), c ∉ l → Lib.indexByte l c = -1
  | [], c, _ => rfl
  | b :: l, c, h => by
    unfold Lib.indexByte
    have hb : ¬ (b == c) = true := fun e => h (by rw [List.mem_cons]; exact .inl (by simpa using (beq_iff_eq.1 e).symm))
    rw [if_neg hb, idx0_no l c (fun e => h (List.mem_cons_of_mem _ e)), if_pos (by rfl)]
theorem itoa_nat_len (n : Nat) (h : n ≤ 9223372036854775000) : (Lib.itoa (n : Int)).length ≤ 21 := Lib.itoa_length_le (n : Int) (by omega) (by omega)
set_option maxRecDepth 100000 in
theorem wlit_any (s : ByteArray) (w : World) (hl : s.size ≤ 9223372036854775000) (ht : tab w) :
    Calls Tryz.prog 74 #[.string s] w fun e w' => e = .returned (.string ⟨(litT s.data.toList).toArray⟩) ∧ Below w.heap.size w w' := by
  obtain ⟨T, hT⟩ : ∃ T : ByteArray, T = ⟨(Lib.itoa (s.size : Int)).toArray⟩ := ⟨_, rfl⟩
  have hTs : T.size ≤ 21 := by rw [hT]; exact itoa_nat_len s.size hl
  have HT : Hid (T.data.toList = Lib.itoa ((s.data.toList.length : Nat) : Int)) := by unfold Hid; rw [hT, len_toList]
  have HD := Lib.hid (fun W h => digits_any (s.size : Int) (by omega) (by omega) W h)
  rw [← hT] at HD
  have HTb := Lib.hid ht
  clear hT ht
  have HI := Lib.hid (fun W => Tryz.strings_IndexByte s 0 W)
  by_cases h0 : (0 : UInt8) ∈ s.data.toList
  · obtain ⟨n, hn⟩ := idx0_yes _ _ h0
    have HI2 : Hid (∀ W, Calls Tryz.prog 112 #[.string s, .int .u8 0] W fun e w' => e = .returned (.int .i64 (n : Int)) ∧ W = w') := fun W => (HI.out W).mono fun e w' h => ⟨by rw [h.1]; exact congrArg (fun z => Ending.returned (.int .i64 z)) hn, h.2.symm⟩
    have hn0 : (0 : Int) ≤ (n : Int) := by omega
    have H0 := Lib.hid h0
    clear hn h0 HI
    go_enter Tryz.func74, Tryz.ntmps74
    go_wp2_with fail
    with_reducible refine (HI2.out _).mono ?_
    rintro e w1 ⟨rfl, rfl⟩
    go_wp2_with fail
    with_reducible refine (HD.out _ HTb.out).mono ?_
    rintro e w2 ⟨rfl, hb2⟩
    go_wp2_with fail
    go_ret
    refine ⟨ret_str (bytes_eq ?_), hb2⟩
    unfold litT
    rw [if_pos H0.out, ← HT.out]
    simp
  · have hn := idx0_no _ _ h0
    have HI2 : Hid (∀ W, Calls Tryz.prog 112 #[.string s, .int .u8 0] W fun e w' => e = .returned (.int .i64 (-1)) ∧ W = w') := fun W => (HI.out W).mono fun e w' h => ⟨by rw [h.1]; exact congrArg (fun z => Ending.returned (.int .i64 z)) hn, h.2.symm⟩
    have H0 := Lib.hid h0
    clear hn h0 HI
    go_enter Tryz.func74, Tryz.ntmps74
    go_wp2_with fail
    with_reducible refine (HI2.out _).mono ?_
    rintro e w1 ⟨rfl, rfl⟩
    go_wp2_with fail
    with_reducible refine (HD.out _ HTb.out).mono ?_
    rintro e w2 ⟨rfl, hb2⟩
    go_wp2_with fail
    go_ret
    refine ⟨ret_str (bytes_eq ?_), hb2⟩
    unfold litT
    rw [if_neg H0.out, ← HT.out]
    simp
theorem strW_quo {l : List UInt8} (h1 : l.all prB = true) (h2 : l.length ≤ 1000) : strW l = quoteL l := by
  unfold strW quoteL
  rw [if_pos ⟨h1, h2⟩]
  simp
theorem strW_lit {l : List UInt8} (h : ¬ (l.all prB = true ∧ l.length ≤ 1000)) : strW l = litT l := by
  unfold strW
  rw [if_neg h]
set_option maxRecDepth 100000 in
theorem wstring_any (s : ByteArray) (w : World) (hl : s.size ≤ 9223372036854775000) (ht : tab w) :
    Calls Tryz.prog 38 #[.string s] w fun e w' => e = .returned (.string ⟨(strW s.data.toList).toArray⟩) ∧ Below w.heap.size w w' := by
  have HE := Lib.hid (fun W => weach_plain s W (by omega))
  have HL := Lib.hid (fun W h => wlit_any s W hl h)
  have HT := Lib.hid ht
  clear ht
  by_cases h1 : s.size ≤ 1000
  · have hi : (s.size : Int) ≤ 1000 := by omega
    have HQ := Lib.hid (fun W => quoted_any s W (by omega))
    rcases Bool.eq_false_or_eq_true (s.data.toList.all prB) with hp | hp
    · have HS := Lib.hid (strW_quo hp (by simpa using h1))
      rw [hp] at HE
      clear hp h1
      go_enter Tryz.func38, Tryz.ntmps38
      go_wp2_with fail
      with_reducible refine (HE.out _).mono ?_
      rintro e w1 ⟨rfl, rfl⟩
      go_wp2_with fail
      with_reducible refine (HQ.out _).mono ?_
      rintro e w2 ⟨rfl, hb2⟩
      go_wp2_with fail
      go_ret
      rw [HS.out]
      exact ⟨rfl, hb2⟩
    · have HS := Lib.hid (strW_lit (l := s.data.toList) (fun h => by rw [hp] at h; cases h.1))
      rw [hp] at HE
      clear hp h1
      go_enter Tryz.func38, Tryz.ntmps38
      go_wp2_with fail
      with_reducible refine (HE.out _).mono ?_
      rintro e w1 ⟨rfl, rfl⟩
      go_wp2_with fail
      with_reducible refine (HL.out _ HT.out).mono ?_
      rintro e w2 ⟨rfl, hb2⟩
      go_wp2_with fail
      go_ret
      rw [HS.out]
      exact ⟨rfl, hb2⟩
  · have hi : ¬ (s.size : Int) ≤ 1000 := by omega
    have hi2 : decide ((s.size : Int) ≤ 1000) = false := decide_eq_false hi
    have HS := Lib.hid (strW_lit (l := s.data.toList) (fun h => h1 (by simpa using h.2)))
    clear h1
    go_enter Tryz.func38, Tryz.ntmps38
    go_wp2_with fail
    with_reducible refine (HL.out _ HT.out).mono ?_
    rintro e w2 ⟨rfl, hb2⟩
    go_wp2_with fail
    go_ret
    rw [HS.out]
    exact ⟨rfl, hb2⟩
set_option maxRecDepth 100000 in
theorem wnstring_any (s : ByteArray) (is : Bool) (w : World) (hl : s.size ≤ 9223372036854775000) (ht : tab w) :
    Calls Tryz.prog 90 #[.string s, .bool is] w fun e w' => e = .returned (.string (if is = true then ⟨(strW s.data.toList).toArray⟩ else ⟨#[78, 73, 76]⟩)) ∧ Below w.heap.size w w' := by
  have HS := Lib.hid (fun W h => wstring_any s W hl h)
  have HT := Lib.hid ht
  clear ht
  cases is with
  | true =>
    go_enter Tryz.func90, Tryz.ntmps90
    go_wp2_with fail
    with_reducible refine (HS.out _ HT.out).mono ?_
    rintro e w2 ⟨rfl, hb2⟩
    go_wp2_with fail
    go_ret
    exact ⟨rfl, hb2⟩
  | false =>
    go_enter Tryz.func90, Tryz.ntmps90
    go_wp2_with fail
    go_ret
    exact ⟨rfl, Below.refl _ _⟩
end Go.Proofs.YtkmgflnmffdhjaaGreatDoor

/- Layer 19: contracts of package envelope: strings, rows, an address. -/
namespace Go.Proofs.YtkmgflnmffdhjaaGreatDoor
open Go Go.RowKit

theorem nst_val (s : ByteArray) (b : Bool) : (if b = true then (⟨(strW s.data.toList).toArray⟩ : ByteArray) else ⟨#[78, 73, 76]⟩) = ⟨(nstW s.data.toList b).toArray⟩ := by
  unfold nstW nilW
  cases b <;> simp
theorem enst_any (s : ByteArray) (b : Bool) (w : World) (hl : s.size ≤ 9223372036854775000) (ht : tab w) :
    Calls Tryz.prog 90 #[.string s, .bool b] w fun e w' => e = .returned (.string ⟨(nstW s.data.toList b).toArray⟩) ∧ Below w.heap.size w w' :=
  (wnstring_any s b w hl ht).mono fun e w' ⟨h1, h2⟩ => ⟨by rw [h1, nst_val], h2⟩
theorem ne_toList (s : ByteArray) : (s.toList == []) = !neB s.data.toList := by
  rw [ByteArray.toList_eq]
  unfold neB
  cases s.data.toList <;> rfl
set_option maxRecDepth 100000 in
theorem esome_any (s : ByteArray) (w : World) (hl : s.size ≤ 9223372036854775000) (ht : tab w) :
    Calls Tryz.prog 144 #[.string s] w fun e w' => e = .returned (.string ⟨(nstW s.data.toList (neB s.data.toList)).toArray⟩) ∧ Below w.heap.size w w' := by
  obtain ⟨z, hz⟩ : ∃ z, z = neB s.data.toList := ⟨_, rfl⟩
  have HN := Lib.hid (fun W h => enst_any s z W hl h)
  have HT := Lib.hid ht
  have q1 := ne_toList s
  rw [← hz] at q1 ⊢
  have q2 : (s.toList != []) = z := by
    rw [bne, q1, Bool.not_not]
  clear ht hz
  go_enter Tryz.func144, Tryz.ntmps144
  go_wp2_with fail
  with_reducible refine (HN.out _ HT.out).mono ?_
  rintro e w1 ⟨rfl, hb1⟩
  go_wp2_with fail
  go_ret
  exact ⟨rfl, hb1⟩
theorem rowW_bytes (xs : List ByteArray) (T : ByteArray) (hT : T = ⟨(Lib.join (xs.map (·.data.toList)) (⟨#[32]⟩ : ByteArray).data.toList).toArray⟩) : (⟨#[40]⟩ ++ T ++ ⟨#[41]⟩ : ByteArray) = ⟨(rowW (xs.map (·.data.toList))).toArray⟩ := by
  refine bytes_eq ?_
  rw [cat_toList, cat_toList, hT]
  rfl
set_option maxRecDepth 100000 in
theorem erow_any (bk c : Nat) (xs : List ByteArray) (w : World) (hcells : ∀ (j : Nat) x, xs[j]? = some x → w.cell? ⟨bk, 0 + j, none⟩ = some (.string x)) (hbk : bk < w.heap.size) (hN : xs.length ≤ 1000) (hcap : xs.length ≤ c) (hlen : wsW (xs.map (·.data.toList)) ≤ 4000000000) :
    Calls Tryz.prog 93 #[.slice (some ⟨bk, 0, none⟩) xs.length c] w fun e w' => e = .returned (.string ⟨(rowW (xs.map (·.data.toList))).toArray⟩) ∧ Below w.heap.size w w' := by
  have hj := join_len (xs.map (·.data.toList)) [32] (by simp)
  have HJ := Lib.hid (Tryz.strings_Join bk 0 c xs ⟨#[32]⟩ w hcells hbk (by omega) hcap (by
    show (Lib.join (xs.map (·.data.toList)) [32]).length ≤ _
    omega))
  obtain ⟨T, hT⟩ : ∃ T : ByteArray, T = ⟨(Lib.join (xs.map (·.data.toList)) (⟨#[32]⟩ : ByteArray).data.toList).toArray⟩ := ⟨_, rfl⟩
  have HV := Lib.hid (rowW_bytes xs T hT)
  have hTs : T.size ≤ 4000000000 := by
    rw [hT]
    show ((Lib.join (xs.map (·.data.toList)) [32]).toArray).size ≤ _
    simp
    omega
  rw [← hT] at HJ
  obtain ⟨n, hn⟩ : ∃ n, n = xs.length := ⟨_, rfl⟩
  rw [← hn] at HJ hN hcap ⊢
  obtain ⟨R, hR⟩ : ∃ R : ByteArray, R = ⟨(rowW (xs.map (·.data.toList))).toArray⟩ := ⟨_, rfl⟩
  rw [← hR] at HV ⊢
  clear hcells hj hlen hT hn hR
  go_enter Tryz.func93, Tryz.ntmps93
  go_wp2_with fail
  with_reducible refine HJ.out.mono ?_
  rintro e w1 ⟨rfl, hb1⟩
  go_wp2_with fail
  go_ret
  exact ⟨ret_str HV.out, hb1⟩
theorem erow_four (a b c d : ByteArray) (W : World) (h : a.size + b.size + c.size + d.size ≤ 3000000000) :
    Calls Tryz.prog 93 #[.slice (some ⟨W.heap.size, 0, none⟩) 4 4] (W.alloc (.cells #[.string a, .string b, .string c, .string d] 9)) fun e w' => e = .returned (.string ⟨(rowW [a.data.toList, b.data.toList, c.data.toList, d.data.toList]).toArray⟩) ∧ Below W.heap.size W w' := by
  have hh := heap_alloc_new W (.cells #[.string a, .string b, .string c, .string d] 9)
  refine (erow_any W.heap.size 4 [a, b, c, d] _ ?_ (by simp) (by simp) (by simp) ?_).mono fun e w' ⟨h1, h2⟩ => ⟨h1, (((Below.refl _ _).alloc (Nat.le_refl _) _).trans (h2.mono (by simp)))⟩
  · intro j x hx
    simp only [World.cell?, hh]
    match j, hx with
    | 0, hx => cases hx; rfl
    | 1, hx => cases hx; rfl
    | 2, hx => cases hx; rfl
    | 3, hx => cases hx; rfl
    | j + 4, hx => simp at hx
  · simp only [List.map_cons, List.map_nil, wsW, List.sum_cons, List.sum_nil, len_toList]
    omega
set_option maxRecDepth 100000 in
set_option maxHeartbeats 4000000 in
theorem eaddr_any (k : Int) (N L H : ByteArray) (w : World) (hN : N.size ≤ 100000000) (hL : L.size ≤ 100000000) (hH : H.size ≤ 100000000) (ht : tab w) :
    Calls Tryz.prog 123 #[.agg #[.int .i64 k, .string N, .string L, .string H]] w fun e w' => e = .returned (.string ⟨(adrW ⟨k, N.data.toList, L.data.toList, H.data.toList⟩).toArray⟩) ∧ Below w.heap.size w w' := by
  obtain ⟨X, hX⟩ : ∃ X, X = w.alloc (.cells #[.int .i64 k, .string N, .string L, .string H] 186) := ⟨_, rfl⟩
  have hc : X.heap[w.heap.size]? = some (.cells #[.int .i64 k, .string N, .string L, .string H] 186 (0, 0)) := by rw [hX]; exact heap_alloc_new w _
  have c0 : X.cell? ⟨w.heap.size, 0, none⟩ = some (.int .i64 k) := by simp [World.cell?, hc]
  have c1 : X.cell? ⟨w.heap.size, 1, none⟩ = some (.string N) := by simp [World.cell?, hc]
  have c2 : X.cell? ⟨w.heap.size, 2, none⟩ = some (.string L) := by simp [World.cell?, hc]
  have c3 : X.cell? ⟨w.heap.size, 3, none⟩ = some (.string H) := by simp [World.cell?, hc]
  have HB0 : Hid (Below w.heap.size w X) := by rw [hX]; exact (Below.refl _ _).alloc (Nat.le_refl _) _
  have HT := Lib.hid (fun z : BW X => (ht.below HB0.out).below z.h)
  have HT0 : Hid (tab X) := ht.below HB0.out
  have HX := Lib.hid hX
  obtain ⟨B, hB⟩ : ∃ B, B = w.heap.size := ⟨_, rfl⟩
  rw [← hB] at c0 c1 c2 c3
  have HBw := Lib.hid hB
  clear hX hc ht hB
  have C1 := BW.cell c1
  have C2 := BW.cell c2
  have C3 := BW.cell c3
  by_cases k0 : k = 0
  · subst k0
    have HS1 := Lib.hid (fun W h => esome_any N W (by omega) h)
    have HS2 := Lib.hid (fun W h => wstring_any L W (by omega) h)
    have HS3 := Lib.hid (fun W h => esome_any H W (by omega) h)
    obtain ⟨a, ha⟩ : ∃ a : ByteArray, a = ⟨(nstW N.data.toList (neB N.data.toList)).toArray⟩ := ⟨_, rfl⟩
    obtain ⟨b, hb⟩ : ∃ b : ByteArray, b = ⟨(strW L.data.toList).toArray⟩ := ⟨_, rfl⟩
    obtain ⟨c, hc⟩ : ∃ c : ByteArray, c = ⟨(nstW H.data.toList (neB H.data.toList)).toArray⟩ := ⟨_, rfl⟩
    rw [← ha] at HS1
    rw [← hb] at HS2
    rw [← hc] at HS3
    have la : a.data.toList = nstW N.data.toList (neB N.data.toList) := by rw [ha]
    have lb : b.data.toList = strW L.data.toList := by rw [hb]
    have lc : c.data.toList = nstW H.data.toList (neB H.data.toList) := by rw [hc]
    have q1 := nstW_size N.data.toList (neB N.data.toList) (by rw [len_toList]; omega)
    have q2 := strW_size L.data.toList (by rw [len_toList]; omega)
    have q3 := nstW_size H.data.toList (neB H.data.toList) (by rw [len_toList]; omega)
    rw [← la, len_toList, len_toList] at q1
    rw [← lb, len_toList, len_toList] at q2
    rw [← lc, len_toList, len_toList] at q3
    have HR := Lib.hid (fun W => erow_four a ⟨#[78, 73, 76]⟩ b c W (by
      have : (⟨#[78, 73, 76]⟩ : ByteArray).size = 3 := rfl
      omega))
    have HE : Hid (rowW [a.data.toList, (⟨#[78, 73, 76]⟩ : ByteArray).data.toList, b.data.toList, c.data.toList] = adrW ⟨0, N.data.toList, L.data.toList, H.data.toList⟩) := by
      unfold Hid adrW adrP
      rw [if_pos rfl, la, lb, lc]
      rfl
    rw [HE.out] at HR
    obtain ⟨R, hR⟩ : ∃ R : ByteArray, R = ⟨(adrW ⟨0, N.data.toList, L.data.toList, H.data.toList⟩).toArray⟩ := ⟨_, rfl⟩
    rw [← hR] at HR ⊢
    clear ha hb hc la lb lc q1 q2 q3 hR HE
    go_enter Tryz.func123, Tryz.ntmps123
    go_wp2_with fail
    rw [← HX.out, ← HBw.out]
    go_wp2_with fail
    refine wp_region_belowT 9 (by kernel_rfl) (by kernel_rfl) ?_
    simp only [List.take_succ_cons, List.take_zero, List.drop_succ_cons, List.drop_zero]
    repeat (go_big_quiet_step (first | (go_at_call 144; first | exact BW.calls (HS1.out _ (HT.out _)) | exact BW.calls (HS3.out _ (HT.out _))) | (go_at_call 38; exact BW.calls (HS2.out _ (HT.out _)))))
    refine wpQuiet_nil ?_
    rintro W1 ⟨⟨_, hb1⟩, rfl⟩
    have HB1 := Lib.hid (HB0.out.trans (hb1.mono HB0.out.size))
    clear hb1 c0 c1 c2 c3 C1 C2 C3
    go_wp2_with fail
    with_reducible refine (HR.out _).mono ?_
    rintro e w2 ⟨rfl, hb2⟩
    go_wp2_with fail
    go_ret
    exact ⟨rfl, HB1.out.trans (hb2.mono HB1.out.size)⟩
  · have b0 : (k == 0) = false := beq_no k0
    by_cases k1 : k = 1
    · subst k1
      have HS1 := Lib.hid (fun W h => wstring_any N W (by omega) h)
      obtain ⟨a, ha⟩ : ∃ a : ByteArray, a = ⟨(strW N.data.toList).toArray⟩ := ⟨_, rfl⟩
      rw [← ha] at HS1
      have la : a.data.toList = strW N.data.toList := by rw [ha]
      have q1 := strW_size N.data.toList (by rw [len_toList]; omega)
      rw [← la, len_toList, len_toList] at q1
      have HR := Lib.hid (fun W => erow_four ⟨#[78, 73, 76]⟩ ⟨#[78, 73, 76]⟩ a ⟨#[78, 73, 76]⟩ W (by
        have : (⟨#[78, 73, 76]⟩ : ByteArray).size = 3 := rfl
        omega))
      have HE : Hid (rowW [(⟨#[78, 73, 76]⟩ : ByteArray).data.toList, (⟨#[78, 73, 76]⟩ : ByteArray).data.toList, a.data.toList, (⟨#[78, 73, 76]⟩ : ByteArray).data.toList] = adrW ⟨1, N.data.toList, L.data.toList, H.data.toList⟩) := by
        unfold Hid adrW adrP
        rw [if_neg (show ¬ (1 : Int) = 0 by decide), if_pos rfl, la]
        rfl
      rw [HE.out] at HR
      obtain ⟨R, hR⟩ : ∃ R : ByteArray, R = ⟨(adrW ⟨1, N.data.toList, L.data.toList, H.data.toList⟩).toArray⟩ := ⟨_, rfl⟩
      rw [← hR] at HR ⊢
      clear ha la q1 hR HE k0
      go_enter Tryz.func123, Tryz.ntmps123
      go_wp2_with fail
      rw [← HX.out, ← HBw.out]
      go_wp2_with fail
      with_reducible refine (HS1.out _ HT0.out).mono ?_
      rintro e w1 ⟨rfl, hb1⟩
      have HB1 := Lib.hid (HB0.out.trans (hb1.mono HB0.out.size))
      clear hb1 c0 c1 c2 c3 C1 C2 C3
      go_wp2_with fail
      with_reducible refine (HR.out _).mono ?_
      rintro e w2 ⟨rfl, hb2⟩
      go_wp2_with fail
      go_ret
      exact ⟨rfl, HB1.out.trans (hb2.mono HB1.out.size)⟩
    · have b1 : (k == 1) = false := beq_no k1
      have HR := Lib.hid (fun W => erow_four ⟨#[78, 73, 76]⟩ ⟨#[78, 73, 76]⟩ ⟨#[78, 73, 76]⟩ ⟨#[78, 73, 76]⟩ W (by decide))
      have HE : Hid (rowW [(⟨#[78, 73, 76]⟩ : ByteArray).data.toList, (⟨#[78, 73, 76]⟩ : ByteArray).data.toList, (⟨#[78, 73, 76]⟩ : ByteArray).data.toList, (⟨#[78, 73, 76]⟩ : ByteArray).data.toList] = adrW ⟨k, N.data.toList, L.data.toList, H.data.toList⟩) := by
        unfold Hid adrW adrP
        rw [if_neg k0, if_neg k1]
        rfl
      rw [HE.out] at HR
      obtain ⟨R, hR⟩ : ∃ R : ByteArray, R = ⟨(adrW ⟨k, N.data.toList, L.data.toList, H.data.toList⟩).toArray⟩ := ⟨_, rfl⟩
      rw [← hR] at HR ⊢
      have hz : X.heap.size = B + 1 := by rw [HX.out, HBw.out]; simp
      have HRx := Lib.hid (HR.out X)
      rw [hz] at HRx
      clear hR HE k0 k1 hz
      go_enter Tryz.func123, Tryz.ntmps123
      go_wp2_with fail
      rw [← HX.out, ← HBw.out]
      go_wp2_with fail
      with_reducible refine HRx.out.mono ?_
      rintro e w2 ⟨rfl, hb2⟩
      go_wp2_with fail
      go_ret
      exact ⟨rfl, HB0.out.trans (hb2.mono (by rw [HBw.out]; omega))⟩
end Go.Proofs.YtkmgflnmffdhjaaGreatDoor
