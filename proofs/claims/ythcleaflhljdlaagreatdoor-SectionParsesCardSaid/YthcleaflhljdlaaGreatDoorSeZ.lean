/- Contracts of the document's layer 15: word, name, head, last. -/
import Derived.Test.YthcleaflhljdlaaGreatDoorSeL
import Derived.Test.YthcleaflhljdlaaGreatDoorSeO
import Derived.Test.YthcleaflhljdlaaGreatDoorAdT
import Derived.Test.YthcleaflhljdlaaGreatDoorQB
namespace Go.Proofs.YthcleaflhljdlaaGreatDoor
open Go Go.RowKit

theorem wordR_cell (w : World) (t : TypeId) (k : Nat) (h : k < 6) : (w.alloc (.cells #[.string ⟨#[]⟩, .string ⟨#[72, 69, 65, 68, 69, 82]⟩, .string ⟨#[72, 69, 65, 68, 69, 82, 46, 70, 73, 69, 76, 68, 83]⟩, .string ⟨#[72, 69, 65, 68, 69, 82, 46, 70, 73, 69, 76, 68, 83, 46, 78, 79, 84]⟩, .string ⟨#[84, 69, 88, 84]⟩, .string ⟨#[77, 73, 77, 69]⟩] t)).cell? ⟨w.heap.size, k, none⟩ = some (.string (wordB k)) := by
  simp only [World.cell?, heap_alloc_new]
  rcases (by omega : k = 0 ∨ k = 1 ∨ k = 2 ∨ k = 3 ∨ k = 4 ∨ k = 5) with rfl | rfl | rfl | rfl | rfl | rfl <;> rfl
theorem refWord_sec (k : Nat) (hk : k < 6) (w : World) :
    Calls Tryz.prog 29 #[.int .i64 (k : Int)] w fun e w' => e = .returned (.string (wordB k)) ∧ Below w.heap.size w w' := by
  have hc := wordR_cell w 9 k hk
  have hd : (k : Int) < 6 := by omega
  obtain ⟨T, hT⟩ : ∃ T, T = wordB k := ⟨_, rfl⟩
  rw [← hT] at hc ⊢
  clear hT
  go_enter Tryz.func29, Tryz.ntmps29
  go_wp2_with fail
  go_ret
  exact ⟨rfl, (Below.refl _ _).alloc (Nat.le_refl _) _⟩
set_option maxRecDepth 100000 in
set_option maxHeartbeats 1000000 in
theorem refName_sec (s : ByteArray) (w : World) (hl : s.size ≤ 10000000) :
    Calls Tryz.prog 30 #[.string s] w fun e w' => ∃ T : ByteArray, e = .returned (.string T) ∧ T.data.toList = nameT s.data.toList ∧ w = w' := by
  have HA := Lib.hid (fun (c : UInt8) W => refAtom_any (c.toNat : Int) W)
  have HQ := Lib.hid (fun W => refQuotedT_any s W (by omega))
  have HS : Hid ((!s.toList.isEmpty) = !s.data.toList.isEmpty) := by unfold Hid; rw [ByteArray.toList_eq]
  go_enter Tryz.func30, Tryz.ntmps30
  go_wp2_with fail
  go_loopg [3, 4, 5] s.size (fun q fv xi v5 wr => ∃ i : Nat, i ≤ s.size ∧ q = s.size - i ∧ xi = .int .i64 (i : Int) ∧ fv = .bool ((s.data.toList.take i).all atomB && !s.data.toList.isEmpty) ∧ w = wr)
  case atStart => exact ⟨0, by omega, by omega, rfl, by rw [HS.out]; rfl, rfl⟩
  case round =>
    obtain ⟨i, hi, rfl, rfl, rfl, rfl⟩ := hrel
    by_cases hlt : i < s.size
    · have HAi := Lib.hid (HA.out s[i] w)
      have HT : Hid (((s.data.toList.take (i + 1)).all atomB && !s.data.toList.isEmpty) = (((s.data.toList.take i).all atomB && !s.data.toList.isEmpty) && atomI (s[i].toNat : Int))) := by
        unfold Hid
        rw [take_snoc s i hlt, List.all_append]
        have : [s[i]].all atomB = atomI (s[i].toNat : Int) := by simp [atomB]
        rw [this]
        cases (s.data.toList.take i).all atomB <;> cases atomI (s[i].toNat : Int) <;> simp
      obtain ⟨b1, hb1⟩ : ∃ b, b = ((s.data.toList.take i).all atomB && !s.data.toList.isEmpty) := ⟨_, rfl⟩
      obtain ⟨b2, hb2⟩ : ∃ b, b = atomI (s[i].toNat : Int) := ⟨_, rfl⟩
      rw [← hb1, ← hb2] at HT
      rw [← hb2] at HAi
      rw [← hb1]
      clear hb1 hb2
      cases b1 with
      | false =>
        go_wp2_with (go_at_call 44; refine HAi.out.mono ?_; rintro e w2 ⟨rfl, rfl⟩)
        go_roundg (s.size - (i + 1))
        case measure => omega
        case rel => exact ⟨i + 1, by omega, rfl, by go_num, by rw [HT.out]; rfl, rfl⟩
      | true =>
        go_wp2_with (go_at_call 44; refine HAi.out.mono ?_; rintro e w2 ⟨rfl, rfl⟩)
        go_roundg (s.size - (i + 1))
        case measure => omega
        case rel => exact ⟨i + 1, by omega, rfl, by go_num, by rw [HT.out]; rfl, rfl⟩
    · have HE : Hid (((s.data.toList.take i).all atomB && !s.data.toList.isEmpty) = atomS s.data.toList) := by
        unfold Hid atomS
        rw [List.take_of_length_le (by rw [len_toList]; omega)]
      rw [HE.out]
      rcases Bool.eq_false_or_eq_true (atomS s.data.toList) with hb | hb
      · have HN : Hid (nameT s.data.toList = s.data.toList) := by unfold Hid nameT; rw [if_pos hb]
        rw [hb]
        go_wp2_with fail
        go_ret
        exact ⟨s, rfl, HN.out.symm, rfl⟩
      · have HN : Hid (nameT s.data.toList = quoteL s.data.toList) := by unfold Hid nameT; rw [hb]; rfl
        rw [hb]
        go_wp2_with fail
        with_reducible refine (HQ.out _).mono ?_
        rintro e w2 ⟨T, rfl, hT, rfl⟩
        have HTl := Lib.hid hT
        clear hT
        go_wp2_with fail
        go_ret
        exact ⟨T, rfl, by rw [HTl.out, HN.out], rfl⟩
/-- What stands ahead of a byte, and behind it. -/
def HeadIs (c : UInt8) (s : ByteArray) (w : World) (e : Ending) (w' : World) : Prop :=
  ∃ (A B : ByteArray) (f : Bool), e = .returned (.tuple #[.string A, .string B, .bool f]) ∧ headR c s.data.toList = (A.data.toList, B.data.toList, f) ∧ Below w.heap.size w w'
theorem mem_take_step {s : ByteArray} {i : Nat} {c : UInt8} (h : i < s.size) (h1 : c ∉ s.data.toList.take i) (h2 : s[i] ≠ c) : c ∉ s.data.toList.take (i + 1) := by
  rw [take_snoc s i h, List.mem_append]
  rintro (h | h)
  · exact h1 h
  · exact h2 (List.mem_singleton.1 h).symm
set_option maxRecDepth 100000 in
set_option maxHeartbeats 1000000 in
theorem refHead_sec (s : ByteArray) (c : UInt8) (w : World) (hl : s.size ≤ 10000000) :
    Calls Tryz.prog 19 #[.string s, .int .u8 (c.toNat : Int)] w (HeadIs c s w) := by
  unfold HeadIs
  go_enter Tryz.func19, Tryz.ntmps19
  go_wp2_with fail
  go_loopg [7] s.size (fun q xi wr => ∃ i : Nat, i ≤ s.size ∧ q = s.size - i ∧ xi = .int .i64 (i : Int) ∧ Hid (c ∉ s.data.toList.take i) ∧ w = wr)
  case atStart => exact ⟨0, by omega, by omega, rfl, by unfold Hid; simp, rfl⟩
  case round =>
    obtain ⟨i, hi, rfl, rfl, HS, rfl⟩ := hrel
    by_cases hlt : i < s.size
    · by_cases hc : s[i] = c
      · have b1 : ((s[i].toNat : Int) == (c.toNat : Int)) = true := beq_yes (by rw [hc])
        have HC := Lib.hid hc
        have h1 : (i : Int) ≤ (s.size : Int) := by omega
        have h2 : (i : Int) + 1 ≤ (s.size : Int) := by omega
        clear hc
        go_wp2_with fail
        refine wp_region_below (by kernel_rfl) (by kernel_rfl) ?_
        repeat (go_big_quiet_step (fail))
        refine wpQuiet_nil ?_
        rintro W2 ⟨⟨_, hb2⟩, rfl⟩
        go_wp2_with fail
        refine bodyPost_ret (v := .tuple #[.string (s.extract 0 i), .string (s.extract (i + 1) s.size), .bool true]) (by simp [results, Tryz.results19, go_sem]) rfl ?_
        refine ⟨s.extract 0 i, s.extract (i + 1) s.size, true, rfl, ?_, hb2⟩
        rw [extract_toList, extract_toList, List.drop_zero, Nat.sub_zero, List.take_of_length_le (l := s.data.toList.drop (i + 1)) (by rw [List.length_drop, len_toList]; omega)]
        have e : s.data.toList = s.data.toList.take i ++ c :: s.data.toList.drop (i + 1) := by
          conv => lhs; rw [← List.take_append_drop i s.data.toList, drop_cons s i hlt, HC.out]
        conv => lhs; rw [e]
        exact headR_yes c _ _ HS.out
      · have b1 : ((s[i].toNat : Int) == (c.toNat : Int)) = false := beq_no (fun e => hc (toNat_eq (by omega)))
        have HC := Lib.hid (mem_take_step hlt HS.out hc)
        clear hc
        go_wp2_with fail
        go_roundg (s.size - (i + 1))
        case measure => omega
        case rel => exact ⟨i + 1, by omega, rfl, by go_num, HC.out, rfl⟩
    · go_wp2_with fail
      refine bodyPost_ret (v := .tuple #[.string s, .string ⟨#[]⟩, .bool false]) (by simp [results, Tryz.results19, go_sem]) rfl ?_
      refine ⟨s, ⟨#[]⟩, false, rfl, ?_, Below.refl _ _⟩
      have h1 := HS.out
      rw [List.take_of_length_le (by rw [len_toList]; omega)] at h1
      exact headR_no c _ h1
/-- Where the last byte of a kind stands. -/
def LastIs (c : UInt8) (s : ByteArray) (w : World) (e : Ending) (w' : World) : Prop :=
  w = w' ∧ ((∃ i : Nat, e = .returned (.int .i64 (i : Int)) ∧ i < s.size ∧ lastR c s.data.toList = some (s.data.toList.take i, s.data.toList.drop (i + 1))) ∨ (e = .returned (.int .i64 (-1)) ∧ lastR c s.data.toList = none))
set_option maxRecDepth 100000 in
set_option maxHeartbeats 1000000 in
theorem refLast_sec (s : ByteArray) (c : UInt8) (w : World) (hl : s.size ≤ 10000000) :
    Calls Tryz.prog 18 #[.string s, .int .u8 (c.toNat : Int)] w (LastIs c s w) := by
  unfold LastIs
  go_enter Tryz.func18, Tryz.ntmps18
  go_wp2_with fail
  go_loopg [5] s.size (fun q xi wr => ∃ n : Nat, n ≤ s.size ∧ q = n ∧ xi = .int .i64 ((n : Int) - 1) ∧ Hid (c ∉ s.data.toList.drop n) ∧ w = wr)
  case atStart => exact ⟨s.size, Nat.le_refl _, rfl, rfl, by unfold Hid; rw [List.drop_eq_nil_of_le (by rw [len_toList]; exact Nat.le_refl _)]; simp, rfl⟩
  case round =>
    obtain ⟨n, hn, rfl, rfl, HS, rfl⟩ := hrel
    cases gk with
    | zero =>
      go_wp2_with fail
      go_ret
      refine ⟨rfl, .inr ⟨rfl, lastR_not ?_⟩⟩
      have := HS.out
      rw [List.drop_zero] at this
      exact this
    | succ i =>
      have hlt : i < s.size := by omega
      have e0 : ((i + 1 : Nat) : Int) - 1 = (i : Int) := by omega
      rw [e0]
      by_cases hc : s[i] = c
      · have b1 : ((s[i].toNat : Int) == (c.toNat : Int)) = true := beq_yes (by rw [hc])
        have HC := Lib.hid hc
        clear hc e0
        go_wp2_with fail
        go_ret
        refine ⟨rfl, .inl ⟨i, rfl, hlt, ?_⟩⟩
        have e : s.data.toList = s.data.toList.take i ++ c :: s.data.toList.drop (i + 1) := by
          conv => lhs; rw [← List.take_append_drop i s.data.toList, drop_cons s i hlt, HC.out]
        conv => lhs; rw [e]
        exact lastR_app c _ HS.out
      · have b1 : ((s[i].toNat : Int) == (c.toNat : Int)) = false := beq_no (fun e => hc (toNat_eq (by omega)))
        have HC : Hid (c ∉ s.data.toList.drop i) := by
          unfold Hid
          rw [drop_cons s i hlt]
          intro hm
          rcases List.mem_cons.1 hm with h | h
          · exact hc h.symm
          · exact HS.out h
        clear hc e0
        go_wp2_with fail
        go_roundg i
        case measure => omega
        case rel => exact ⟨i, by omega, rfl, by go_num, HC.out, rfl⟩
end Go.Proofs.YthcleaflhljdlaaGreatDoor
