/- Contracts of package section: takes, number, what, quoted, name. -/
import Derived.Test.YthcleaflhljdlaaGreatDoorSeA
import Derived.Test.YthcleaflhljdlaaGreatDoorSeN
import Derived.Test.YthcleaflhljdlaaGreatDoorShelf3
import Derived.Test.YthcleaflhljdlaaGreatDoorShelf5
import Derived.Test.YthcleaflhljdlaaGreatDoorChars7
namespace Go.Proofs.YthcleaflhljdlaaGreatDoor
open Go Go.RowKit

theorem Gr.low {B : Nat} {a b c : World} (h : Gr B a b) (k : Below a.heap.size b c) : Gr B a c :=
  ⟨k.os.trans h.os, k.tape.trans h.tape, k.output.trans h.output, Nat.le_trans h.size k.size, fun i hi hne => (k.block i hi).trans (h.block i hi hne)⟩
theorem isPrefix_takeP (p l : List UInt8) : p.isPrefixOf l = (takeP p l).isSome := by
  induction p generalizing l with
  | nil => simp [takeP]
  | cons a p ih =>
    cases l with
    | nil => rfl
    | cons c l =>
      unfold takeP
      by_cases h : a = c
      · subst h
        rw [if_pos rfl, ← ih]
        simp
      · rw [if_neg h]
        show (a == c && _) = false
        rw [beq_eq_false_iff_ne.2 h]
        rfl
set_option maxRecDepth 100000 in
set_option maxHeartbeats 1000000 in
theorem takesP_any (B : Nat) (s p : ByteArray) (k : Nat) (w : World) (hr : Rd w B s k) (hl : s.size ≤ 1000000000) (hp : p.size ≤ 1000) (hk : k ≤ s.size) :
    Calls Tryz.prog 32 #[.pointer (some ⟨B, 0, none⟩), .string p] w fun e w' => e = .returned (.bool (takeP p.data.toList (s.data.toList.drop k)).isSome) ∧
      ∃ k', Rd w' B s k' ∧ k' ≤ s.size ∧ (takeP p.data.toList (s.data.toList.drop k) = none → k' = k) ∧ (∀ r, takeP p.data.toList (s.data.toList.drop k) = some r → s.data.toList.drop k' = r) ∧ Gr B w w' := by
  have HR := Lib.hid hr
  have C0 := BW.cell hr.c0
  have C1 := BW.cell hr.c1
  have hks : (k : Int) ≤ (s.size : Int) := by omega
  have HE : Hid (Lib.hasPrefix (s.extract k s.size).data.toList p.data.toList = (takeP p.data.toList (s.data.toList.drop k)).isSome) := by
    unfold Hid Lib.hasPrefix
    rw [isPrefix_takeP, extract_toList, List.take_of_length_le (by simp)]
  have HP : Hid (∀ W, Calls Tryz.prog 45 #[.string (s.extract k s.size), .string p] W fun e w' => e = .returned (.bool (takeP p.data.toList (s.data.toList.drop k)).isSome) ∧ W = w') := fun W =>
    (Tryz.strings_HasPrefix (s.extract k s.size) p W).mono fun e w' ⟨he, hw⟩ => ⟨by rw [he, HE.out], hw.symm⟩
  clear hr
  cases hx : takeP p.data.toList (s.data.toList.drop k) with
  | none =>
    rw [hx] at HP
    simp only [Option.isSome_none] at HP ⊢
    go_enter Tryz.func32, Tryz.ntmps32
    go_wp2_with fail
    refine wp_region_below (by kernel_rfl) (by kernel_rfl) ?_
    repeat (go_big_quiet_step (first | (go_at_call 45; exact BW.calls_same (HP.out _))))
    refine wpQuiet_nil ?_
    rintro W1 ⟨⟨_, hb1⟩, rfl⟩
    go_wp2_with fail
    go_ret
    exact ⟨rfl, k, HR.out.below hb1, hk, fun _ => rfl, fun r h => (by cases h), (Gr.refl _ _).below hb1⟩
  | some r =>
    have HX := Lib.hid hx
    have hle : k + p.size ≤ s.size := by
      rw [takeP_iff] at hx
      have := congrArg List.length hx
      simp only [List.length_drop, len_toList, List.length_append] at this
      omega
    rw [hx] at HP
    simp only [Option.isSome_some] at HP ⊢
    clear hx
    go_enter Tryz.func32, Tryz.ntmps32
    go_wp2_with fail
    refine wp_region_below (by kernel_rfl) (by kernel_rfl) ?_
    repeat (go_big_quiet_step (first | (go_at_call 45; exact BW.calls_same (HP.out _))))
    refine wpQuiet_nil ?_
    rintro W1 ⟨⟨_, hb1⟩, rfl⟩
    have HR1 := Lib.hid (HR.out.below hb1)
    have HG1 := Lib.hid ((Gr.refl B w).below hb1)
    have c1 := HR1.out.c1
    have f1 := HR1.out.f1
    clear hb1 C0 C1
    go_wp2_with fail
    go_ret
    refine ⟨rfl, k + p.size, HR1.out.set (k + p.size), hle, fun h => (by cases h), fun r' h => ?_, HG1.out.set 1 _⟩
    cases h
    have := HX.out
    rw [takeP_iff] at this
    rw [← List.drop_drop, this, List.drop_append_of_le_length (by simp)]
    simp
theorem takes_yes (B : Nat) (s : ByteArray) (k : Nat) (l : List UInt8) (p : List UInt8) (q : ByteArray) (r : List UInt8) (w : World) (hq : q.data.toList = p) (hp : p.length ≤ 1000) (hd : s.data.toList.drop k = l) (h : takeP p l = some r) (hr : Rd w B s k) (hl : s.size ≤ 1000000000) (hk : k ≤ s.size) :
    Calls Tryz.prog 32 #[.pointer (some ⟨B, 0, none⟩), .string q] w fun e w' => e = .returned (.bool true) ∧ ∃ k', Rd w' B s k' ∧ k' ≤ s.size ∧ s.data.toList.drop k' = r ∧ Gr B w w' := by
  subst hd hq
  refine (takesP_any B s q k w hr hl (by simpa using hp) hk).mono fun e w' ⟨he, k', h1, h2, _, h4, h5⟩ => ⟨by rw [he, h]; rfl, k', h1, h2, h4 r h, h5⟩
theorem takes_no (B : Nat) (s : ByteArray) (k : Nat) (l : List UInt8) (p : List UInt8) (q : ByteArray) (w : World) (hq : q.data.toList = p) (hp : p.length ≤ 1000) (hd : s.data.toList.drop k = l) (h : takeP p l = none) (hr : Rd w B s k) (hl : s.size ≤ 1000000000) (hk : k ≤ s.size) :
    Calls Tryz.prog 32 #[.pointer (some ⟨B, 0, none⟩), .string q] w fun e w' => e = .returned (.bool false) ∧ Rd w' B s k ∧ Gr B w w' := by
  subst hd hq
  refine (takesP_any B s q k w hr hl (by simpa using hp) hk).mono fun e w' ⟨he, k', h1, h2, h3, _, h5⟩ => ⟨by rw [he, h]; rfl, by rw [← h3 h]; exact h1, h5⟩

set_option maxRecDepth 100000 in
set_option maxHeartbeats 1000000 in
theorem rdNumber_yes (B : Nat) (s : ByteArray) (k : Nat) (l : List UInt8) (n : Nat) (w : World) (hd : s.data.toList.drop k = l) (h : numSpec (l.takeWhile isDig) = some n) (hr : Rd w B s k) (hl : s.size ≤ 1000000000) (hk : k ≤ s.size) :
    Calls Tryz.prog 46 #[.pointer (some ⟨B, 0, none⟩)] w fun e w' => e = .returned (.tuple #[.int .i64 (n : Int), .bool true]) ∧
      ∃ k', Rd w' B s k' ∧ k' ≤ s.size ∧ s.data.toList.drop k' = l.dropWhile isDig ∧ Gr B w w' := by
  subst hd
  have HW := Lib.hid (row_dig B s k w hr hl hk)
  unfold RowIs at HW
  have HH := Lib.hid h
  have c1 := hr.c1
  clear hr
  go_enter Tryz.func46, Tryz.ntmps46
  go_wp2_with fail
  with_reducible refine HW.out.mono ?_
  rintro e w1 ⟨T, k1, rfl, hT, hTs, hR1, hk1, hD1, hG1⟩
  have HN := Lib.hid (number_some (s := T) n w1 (by omega) (by rw [hT]; exact HH.out))
  have HR1 := Lib.hid hR1
  have HG1 := Lib.hid hG1
  have HD1 := Lib.hid hD1
  clear hT hTs hR1 hG1 hD1 c1 h
  go_wp2_with fail
  with_reducible refine HN.out.mono ?_
  rintro e w2 ⟨rfl, hb2⟩
  go_wp2_with fail
  go_ret2
  exact ⟨rfl, k1, HR1.out.below hb2, hk1, HD1.out, HG1.out.below hb2⟩
set_option maxRecDepth 100000 in
set_option maxHeartbeats 1000000 in
theorem rdNumber_no (B : Nat) (s : ByteArray) (k : Nat) (l : List UInt8) (w : World) (hd : s.data.toList.drop k = l) (h : numSpec (l.takeWhile isDig) = none) (hr : Rd w B s k) (hl : s.size ≤ 1000000000) (hk : k ≤ s.size) :
    Calls Tryz.prog 46 #[.pointer (some ⟨B, 0, none⟩)] w fun e w' => e = .returned (.tuple #[.int .i64 0, .bool false]) ∧ Rd w' B s k ∧ Gr B w w' := by
  subst hd
  have HW := Lib.hid (row_dig B s k w hr hl hk)
  unfold RowIs at HW
  have HH := Lib.hid h
  have c1 := hr.c1
  clear hr
  go_enter Tryz.func46, Tryz.ntmps46
  go_wp2_with fail
  with_reducible refine HW.out.mono ?_
  rintro e w1 ⟨T, k1, rfl, hT, hTs, hR1, hk1, hD1, hG1⟩
  have HN := Lib.hid (number_none (s := T) w1 (by omega) (by rw [hT]; exact HH.out))
  have HR1 := Lib.hid hR1
  have HG1 := Lib.hid hG1
  clear hT hTs hR1 hG1 hD1 c1 h
  go_wp2_with fail
  with_reducible refine HN.out.mono ?_
  rintro e w2 ⟨rfl, hb2⟩
  have HR2 := Lib.hid (HR1.out.below hb2)
  have HG2 := Lib.hid (HG1.out.below hb2)
  have c1 := HR2.out.c1
  have f1 := HR2.out.f1
  clear hb2 HR1 HG1
  go_wp2_with fail
  go_ret2
  exact ⟨rfl, HR2.out.set k, HG2.out.set 1 _⟩
end Go.Proofs.YthcleaflhljdlaaGreatDoor
