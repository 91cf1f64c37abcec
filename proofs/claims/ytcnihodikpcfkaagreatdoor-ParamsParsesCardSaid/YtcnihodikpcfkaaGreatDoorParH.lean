/- Contracts of package params: the reader's tokens. -/
import Derived.Test.YtcnihodikpcfkaaGreatDoorParG
namespace Go.Proofs.YtcnihodikpcfkaaGreatDoor
open Go Go.RowKit

def seesB (c : UInt8) (l : List UInt8) : Bool := l.head? == some c
set_option maxRecDepth 100000 in
set_option maxHeartbeats 1000000 in
theorem sees_any (B : Nat) (s : ByteArray) (k : Nat) (c : UInt8) (w : World) (hr : Rd w B s k) :
    Calls Tryz.prog 48 #[.pointer (some ⟨B, 0, none⟩), .int .u8 (c.toNat : Int)] w fun e w' => e = .returned (.bool (seesB c (s.data.toList.drop k))) ∧ Below w.heap.size w w' := by
  have C0 := BW.cell hr.c0
  have C1 := BW.cell hr.c1
  have hlB := hr.lt
  by_cases hlt : k < s.size
  · have hd : ((k : Int) < (s.size : Int)) := by omega
    have HD := Lib.hid (drop_cons s k hlt)
    have HE : Hid (seesB c (s.data.toList.drop k) = (((s[k].toNat : Nat) : Int) == ((c.toNat : Nat) : Int))) := by
      unfold Hid seesB
      rw [HD.out]
      by_cases e : s[k] = c
      · rw [e]; simp
      · have : s[k].toNat ≠ c.toNat := fun h => e (toNat_eq h)
        rw [beq_no (by omega)]
        simpa using e
    go_enter Tryz.func48, Tryz.ntmps48
    go_wp2_with fail
    refine wp_region_below (by kernel_rfl) (by kernel_rfl) ?_
    repeat (go_big_quiet_step (fail))
    refine wpQuiet_nil ?_
    rintro W1 ⟨⟨_, hb1⟩, rfl⟩
    go_wp2_with fail
    go_ret
    exact ⟨ret_bool HE.out.symm, hb1⟩
  · have HE : Hid (s.data.toList.drop k = []) := List.drop_eq_nil_of_le (by simp; omega)
    go_enter Tryz.func48, Tryz.ntmps48
    go_wp2_with fail
    refine wp_region_below (by kernel_rfl) (by kernel_rfl) ?_
    repeat (go_big_quiet_step (fail))
    refine wpQuiet_nil ?_
    rintro W1 ⟨⟨_, hb1⟩, rfl⟩
    go_wp2_with fail
    go_ret
    exact ⟨by rw [HE.out]; rfl, hb1⟩

set_option maxRecDepth 100000 in
set_option maxHeartbeats 1000000 in
theorem takes_any (B : Nat) (s : ByteArray) (k : Nat) (c : UInt8) (w : World) (hr : Rd w B s k) (hl : s.size ≤ 1000000000) (hk : k ≤ s.size) :
    Calls Tryz.prog 31 #[.pointer (some ⟨B, 0, none⟩), .int .u8 (c.toNat : Int)] w fun e w' => e = .returned (.bool (takeL c (s.data.toList.drop k)).isSome) ∧
      ∃ k', Rd w' B s k' ∧ k' ≤ s.size ∧ (∀ r, takeL c (s.data.toList.drop k) = some r → s.data.toList.drop k' = r) ∧ Gr B w w' := by
  have HS := Lib.hid (skip_any B s k w hr hl hk)
  have HSe := Lib.hid (fun j W h => sees_any B s j c W h)
  clear hr
  go_enter Tryz.func31, Tryz.ntmps31
  go_wp2_with fail
  with_reducible refine HS.out.mono ?_
  rintro e w1 ⟨rfl, j, hR1, hj1, hj2, hD, hG1⟩
  have HR1 := Lib.hid hR1
  have HG1 := Lib.hid hG1
  have HSj := Lib.hid (HSe.out j w1 hR1)
  have HDj : Hid (sk (s.data.toList.drop k) = s.data.toList.drop j) := hD.symm
  clear hR1 hG1 hD HS HSe
  rcases Bool.eq_false_or_eq_true (seesB c (s.data.toList.drop j)) with hs | hs
  · rw [hs] at HSj
    have hlt : j < s.size := by
      rcases Nat.lt_or_ge j s.size with h | h
      · exact h
      · rw [List.drop_eq_nil_of_le (by simp; omega)] at hs
        cases hs
    have HT : Hid (takeL c (s.data.toList.drop k) = some (s.data.toList.drop (j + 1))) := by
      unfold Hid takeL
      rw [HDj.out, drop_cons s j hlt]
      rw [drop_cons s j hlt] at hs
      have e : s[j] = c := by simpa [seesB] using hs
      simp only
      rw [if_pos e]
    go_wp2_with fail
    with_reducible refine HSj.out.mono ?_
    rintro e w2 ⟨rfl, hb2⟩
    have HR2 := Lib.hid (HR1.out.below hb2)
    have HG2 := Lib.hid (HG1.out.below hb2)
    have c1 := HR2.out.c1
    have f1 := HR2.out.f1
    clear hb2 HR1 HG1
    go_wp2_with fail
    go_ret
    refine ⟨by rw [HT.out]; rfl, j + 1, HR2.out.set (j + 1), by omega, fun r h => ?_, HG2.out.set 1 _⟩
    rw [HT.out] at h
    exact Option.some.inj h
  · rw [hs] at HSj
    have HT : Hid (takeL c (s.data.toList.drop k) = none) := by
      unfold Hid takeL
      rw [HDj.out]
      unfold seesB at hs
      split
      · next x r e =>
        rw [e] at hs
        rw [if_neg (by simpa using hs)]
      · rfl
    go_wp2_with fail
    with_reducible refine HSj.out.mono ?_
    rintro e w2 ⟨rfl, hb2⟩
    go_wp2_with fail
    go_ret
    refine ⟨by rw [HT.out]; rfl, j, HR1.out.below hb2, hj2, fun r h => ?_, HG1.out.below hb2⟩
    rw [HT.out] at h
    cases h

theorem tokL_prefix (l : List UInt8) : l.take (tokL l).length = tokL l := by
  have h : tokL l ++ l.dropWhile tokB = l := List.takeWhile_append_dropWhile
  have h2 := List.take_left (l₁ := tokL l) (l₂ := l.dropWhile tokB)
  rw [h] at h2
  exact h2
theorem tokL_len (l : List UInt8) : (tokL l).length ≤ l.length := (List.takeWhile_sublist _).length_le
def tokV (l : List UInt8) : Value := .tuple #[.string ⟨l.toArray⟩, .bool (!l.isEmpty)]
set_option maxRecDepth 100000 in
set_option maxHeartbeats 1000000 in
theorem rdToken_any (B : Nat) (s : ByteArray) (k : Nat) (w : World) (hr : Rd w B s k) (hl : s.size ≤ 1000000000) (hk : k ≤ s.size) :
    Calls Tryz.prog 29 #[.pointer (some ⟨B, 0, none⟩)] w fun e w' => e = .returned (tokV (tokenL (s.data.toList.drop k)).1) ∧
      ∃ k', Rd w' B s k' ∧ k' ≤ s.size ∧ s.data.toList.drop k' = (tokenL (s.data.toList.drop k)).2 ∧ Gr B w w' := by
  have HS := Lib.hid (skip_any B s k w hr hl hk)
  have HTk := Lib.hid (fun j W h => behindToken_any s j W hl h)
  clear hr
  go_enter Tryz.func29, Tryz.ntmps29
  go_wp2_with fail
  with_reducible refine HS.out.mono ?_
  rintro e w1 ⟨rfl, j, hR1, hj1, hj2, hD, hG1⟩
  have HR1 := Lib.hid hR1
  have HG1 := Lib.hid hG1
  have HDj : Hid (sk (s.data.toList.drop k) = s.data.toList.drop j) := hD.symm
  obtain ⟨n, hn⟩ : ∃ n, n = j + (tokL (s.data.toList.drop j)).length := ⟨_, rfl⟩
  have HTj := Lib.hid (HTk.out j w1 hj2)
  rw [← hn] at HTj
  have HN : Hid (n = j + (tokL (s.data.toList.drop j)).length) := hn
  have hjn : j ≤ n := by omega
  have hns : n ≤ s.size := by
    have := tokL_len (s.data.toList.drop j)
    rw [List.length_drop, len_toList] at this
    omega
  have c0 := HR1.out.c0
  have c1 := HR1.out.c1
  clear hR1 hG1 hD HS HTk hn
  go_wp2_with fail
  with_reducible refine HTj.out.mono ?_
  rintro e w2 ⟨rfl, hb2⟩
  have HR2 := Lib.hid (HR1.out.below hb2)
  have HG2 := Lib.hid (HG1.out.below hb2)
  have f1 := HR2.out.f1
  replace c1 := HR2.out.c1
  clear hb2 HR1 HG1 c0
  have HR3 := Lib.hid (HR2.out.set n)
  have HG3 := Lib.hid (HG2.out.set 1 (.int .i64 (n : Int)))
  obtain ⟨W3, hW3⟩ : ∃ W3, W3 = w2.setCell ⟨B, 1, none⟩ (.int .i64 (n : Int)) := ⟨_, rfl⟩
  rw [← hW3] at HR3 HG3
  have HW3 : Hid (w2.setCell ⟨B, 1, none⟩ (.int .i64 (n : Int)) = W3) := hW3.symm
  clear hW3
  go_wp2_with fail
  rw [HW3.out]
  have C0 := BW.cell HR3.out.c0
  have C1 := BW.cell HR3.out.c1
  have hjn' : (j : Int) ≤ (n : Int) := by omega
  have hns' : (n : Int) ≤ (s.size : Int) := by omega
  refine wp_region_below (by kernel_rfl) (by kernel_rfl) ?_
  repeat (go_big_quiet_step (fail))
  refine wpQuiet_nil ?_
  rintro W4 ⟨⟨_, hb4⟩, rfl⟩
  go_wp2_with fail
  go_ret2
  have HR4 := HR3.out.below hb4
  have HG4 := HG3.out.below hb4
  have e1 : (tokenL (s.data.toList.drop k)).1 = tokL (s.data.toList.drop j) := by
    show tokL (sk _) = _
    rw [HDj.out]
  have e2 : (tokenL (s.data.toList.drop k)).2 = s.data.toList.drop n := by
    show (sk _).drop (tokL (sk _)).length = _
    rw [HDj.out, List.drop_drop, HN.out]
  refine ⟨?_, n, HR4, hns, e2.symm, HG4⟩
  rw [e1]
  have e3 : s.extract j n = ⟨(tokL (s.data.toList.drop j)).toArray⟩ := bytes_eq (by
    rw [extract_toList, show n - j = (tokL (s.data.toList.drop j)).length by have := HN.out; omega, tokL_prefix])
  have e4 : decide (j < n) = !(tokL (s.data.toList.drop j)).isEmpty := by
    have := HN.out
    cases hT : tokL (s.data.toList.drop j) with
    | nil => rw [hT] at this; simp at this; simp [this]
    | cons x r => rw [hT] at this; simp at this; simp; omega
  show Ending.returned (.tuple #[.string (s.extract j n), .bool (decide (j < n))]) = _
  rw [e3, e4]
  rfl

set_option maxRecDepth 100000 in
theorem rdName_any (B : Nat) (s : ByteArray) (k : Nat) (w : World) (hr : Rd w B s k) (hl : s.size ≤ 1000000000) (hk : k ≤ s.size) :
    Calls Tryz.prog 16 #[.pointer (some ⟨B, 0, none⟩)] w fun e w' => e = .returned (tokV (foldS (tokenL (s.data.toList.drop k)).1)) ∧
      ∃ k', Rd w' B s k' ∧ k' ≤ s.size ∧ s.data.toList.drop k' = (tokenL (s.data.toList.drop k)).2 ∧ Gr B w w' := by
  have HS := Lib.hid (rdToken_any B s k w hr hl hk)
  obtain ⟨T, hT⟩ : ∃ T, T = (tokenL (s.data.toList.drop k)).1 := ⟨_, rfl⟩
  have hTl : (⟨T.toArray⟩ : ByteArray).size ≤ 9223372036854775807 := by
    show T.length ≤ _
    have h1 := tokL_len (sk (s.data.toList.drop k))
    have h2 := skL_le (s.data.toList.drop k) false 0
    have h3 : T.length = (tokL (sk (s.data.toList.drop k))).length := by rw [hT]; rfl
    unfold sk at h1 h3
    rw [List.length_drop, len_toList] at h2
    omega
  have HF := Lib.hid (fun W => fold_any ⟨T.toArray⟩ W hTl)
  rw [← hT] at HS ⊢
  have HE : Hid (T.isEmpty = (foldS T).isEmpty) := by unfold Hid foldS; cases T <;> rfl
  clear hr hT
  go_enter Tryz.func16, Tryz.ntmps16
  go_wp2_with fail
  with_reducible refine HS.out.mono ?_
  rintro e w1 ⟨rfl, j, hR1, hj, hD, hG⟩
  have HR1 := Lib.hid hR1
  have HG1 := Lib.hid hG
  have HD1 := Lib.hid hD
  clear hR1 hG hD
  unfold tokV
  go_wp2_with (go_at_call 30; refine (HF.out _).mono ?_; rintro e w2 ⟨rfl, hb2⟩)
  go_ret2
  have e5 : Ending.returned (tokV (foldS T)) = .returned (.tuple #[.string ⟨(foldS T).toArray⟩, .bool (!T.isEmpty)]) := by
    unfold tokV
    rw [HE.out]
  exact ⟨Eq.trans rfl e5.symm, j, HR1.out.below hb2, hj, HD1.out, HG1.out.below hb2⟩
end Go.Proofs.YtcnihodikpcfkaaGreatDoor
