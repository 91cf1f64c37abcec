/- Contracts of package section: the reader's closures and rows. -/
import Derived.Test.YthcleaflhljdlaaGreatDoorParG
import Derived.Test.YthcleaflhljdlaaGreatDoorSeM
import Derived.Test.YthcleaflhljdlaaGreatDoorShelf
namespace Go.Proofs.YthcleaflhljdlaaGreatDoor
open Go Go.RowKit

theorem isDig_int (c : UInt8) : isDig c = (decide (48 ≤ (c.toNat : Int)) && decide ((c.toNat : Int) ≤ 57)) := by
  unfold isDig
  by_cases h : 48 ≤ (c.toNat : Int) <;> by_cases h2 : (c.toNat : Int) ≤ 57 <;> simp [h, h2]
theorem bne_int (c : UInt8) (n : UInt8) : (c != n) = ((c.toNat : Int) != (n.toNat : Int)) := by
  by_cases h : c = n
  · subst h; simp
  · have h2 : ¬ (c.toNat : Int) = (n.toNat : Int) := fun e => h (toNat_eq (by omega))
    rw [bne_yes h2]
    simpa using h
theorem dig1_any (c : UInt8) (w : World) :
    Calls Tryz.prog 61 #[.int .u8 (c.toNat : Int)] w fun e w' => e = .returned (.bool (isDig c)) ∧ w = w' := by
  have HE := Lib.hid (isDig_int c)
  by_cases h : 48 ≤ (c.toNat : Int)
  · have h1 : decide (48 ≤ (c.toNat : Int)) = true := decide_eq_true h
    go_enter Tryz.func61, Tryz.ntmps61
    go_wp2
    go_ret
    exact ⟨ret_bool (by rw [HE.out, h1]; simp), rfl⟩
  · have h1 : decide (48 ≤ (c.toNat : Int)) = false := decide_eq_false h
    go_enter Tryz.func61, Tryz.ntmps61
    go_wp2
    go_ret
    exact ⟨ret_bool (by rw [HE.out, h1]; rfl), rfl⟩
theorem what1_any (c : UInt8) (w : World) :
    Calls Tryz.prog 62 #[.int .u8 (c.toNat : Int)] w fun e w' => e = .returned (.bool (whatB c)) ∧ w = w' := by
  have HE : Hid (whatB c = (((c.toNat : Int) != 32) && ((c.toNat : Int) != 93))) := by
    unfold Hid whatB
    rw [bne_int c 32, bne_int c 93]
    rfl
  rcases Bool.eq_false_or_eq_true ((c.toNat : Int) != 32) with h | h
  · go_enter Tryz.func62, Tryz.ntmps62
    go_wp2
    go_ret
    exact ⟨ret_bool (by rw [HE.out, h]; rfl), rfl⟩
  · go_enter Tryz.func62, Tryz.ntmps62
    go_wp2
    go_ret
    exact ⟨ret_bool (by rw [HE.out, h]; rfl), rfl⟩
theorem quo1_any (c : UInt8) (w : World) :
    Calls Tryz.prog 72 #[.int .u8 (c.toNat : Int)] w fun e w' => e = .returned (.bool (quoB c)) ∧ w = w' := by
  have HE : Hid (quoB c = (((c.toNat : Int) != 34) && ((c.toNat : Int) != 92))) := by
    unfold Hid quoB
    rw [bne_int c 34, bne_int c 92]
    rfl
  rcases Bool.eq_false_or_eq_true ((c.toNat : Int) != 34) with h | h
  · go_enter Tryz.func72, Tryz.ntmps72
    go_wp2
    go_ret
    exact ⟨ret_bool (by rw [HE.out, h]; rfl), rfl⟩
  · go_enter Tryz.func72, Tryz.ntmps72
    go_wp2
    go_ret
    exact ⟨ret_bool (by rw [HE.out, h]; rfl), rfl⟩
theorem atomC_any (c : UInt8) (w : World) :
    Calls Tryz.prog 65 #[.int .u8 (c.toNat : Int)] w fun e w' => e = .returned (.bool (atomB c)) ∧ Below w.heap.size w w' :=
  atom_any _ w (by omega) (by have := c.toNat_lt; omega)
/-- What a row of bytes of a kind is, and what the reader stands on behind it. -/
def RowIs (p : UInt8 → Bool) (B : Nat) (s : ByteArray) (k : Nat) (w : World) (e : Ending) (w' : World) : Prop :=
  ∃ (T : ByteArray) (k' : Nat), e = .returned (.string T) ∧ T.data.toList = (s.data.toList.drop k).takeWhile p ∧ T.size ≤ s.size ∧ Rd w' B s k' ∧ k' ≤ s.size ∧ s.data.toList.drop k' = (s.data.toList.drop k).dropWhile p ∧ Gr B w w'
theorem rowIs_of {p : UInt8 → Bool} {s : ByteArray} {k j : Nat} (hk : k ≤ j) (hj : j ≤ s.size) (h1 : ((s.data.toList.drop k).take (j - k)).all p = true) (h2 : ∀ h : j < s.size, p s[j] = false) :
    (s.extract k j).data.toList = (s.data.toList.drop k).takeWhile p ∧ (s.extract k j).size ≤ s.size ∧ s.data.toList.drop j = (s.data.toList.drop k).dropWhile p := by
  have e : (s.data.toList.drop k).take (j - k) ++ s.data.toList.drop j = s.data.toList.drop k := by
    have : s.data.toList.drop j = (s.data.toList.drop k).drop (j - k) := by rw [List.drop_drop]; congr 1; omega
    rw [this, List.take_append_drop]
  have h3 := takeWhile_stop p _ (s.data.toList.drop j) h1 (fun x hx => by
    by_cases hlt : j < s.size
    · rw [drop_cons s j hlt] at hx
      cases hx
      exact h2 hlt
    · rw [List.drop_eq_nil_of_le (by simp; omega)] at hx
      cases hx)
  rw [e] at h3
  refine ⟨by rw [extract_toList, h3.1], ?_, h3.2.symm⟩
  rw [extract_len]
  omega
theorem all_more {p : UInt8 → Bool} {s : ByteArray} {k j : Nat} (hk : k ≤ j) (hj : j < s.size) (h1 : ((s.data.toList.drop k).take (j - k)).all p = true) (h2 : p s[j] = true) : ((s.data.toList.drop k).take (j + 1 - k)).all p = true := by
  rw [take_drop_snoc hj hk, List.all_append, h1]
  simp [h2]

set_option maxRecDepth 100000 in
set_option maxHeartbeats 2000000 in
theorem row_dig (B : Nat) (s : ByteArray) (k : Nat) (w : World) (hr : Rd w B s k) (hl : s.size ≤ 1000000000) (hk : k ≤ s.size) :
    Calls Tryz.prog 60 #[.pointer (some ⟨B, 0, none⟩), .func (.func 61) #[] #[]] w (RowIs isDig B s k w) := by
  unfold RowIs
  have HR := Lib.hid hr
  have HK := Lib.hid dig1_any
  have c1 := hr.c1
  clear hr
  go_enter Tryz.func60, Tryz.ntmps60
  go_wp2_with fail
  go_loopg [] (s.size - k) (fun g wr => ∃ j : Nat, g = s.size - j ∧ k ≤ j ∧ j ≤ s.size ∧ Hid (Rd wr B s j) ∧ Hid (Gr B w wr) ∧ Hid (((s.data.toList.drop k).take (j - k)).all isDig = true))
  case atStart => exact ⟨k, rfl, by omega, hk, HR.out, Gr.refl _ _, by unfold Hid; simp⟩
  case round =>
    obtain ⟨j, rfl, hkj, hj, HRj, HG, HS⟩ := hrel
    have c0 := HRj.out.c0
    have c1 := HRj.out.c1
    have C0 := BW.cell c0
    have C1 := BW.cell c1
    by_cases hlt : j < s.size
    · have hd : ((j : Int) < (s.size : Int)) := by omega
      have HKj := Lib.hid (fun W => HK.out s[j] W)
      rcases Bool.eq_false_or_eq_true (isDig s[j]) with hb | hb
      · rw [hb] at HKj
        go_wp2_with fail
        refine wp_region_below (by kernel_rfl) (by kernel_rfl) ?_
        repeat (go_big_quiet_step (first | (go_at_call 61; exact BW.calls_same (HKj.out _))))
        refine wpQuiet_nil ?_
        rintro W1 ⟨⟨_, hb1⟩, rfl⟩
        have HR1 := Lib.hid (HRj.out.below hb1)
        have HG1 := Lib.hid (HG.out.below hb1)
        replace c1 := HR1.out.c1
        have f1 := HR1.out.f1
        clear hb1 HRj HG c0 C0 C1
        go_wp2_with fail
        go_roundg (s.size - (j + 1))
        case measure => omega
        case rel => exact ⟨j + 1, rfl, by omega, by omega, HR1.out.set (j + 1), HG1.out.set 1 _, all_more hkj hlt HS.out hb⟩
      · rw [hb] at HKj
        go_wp2_with fail
        refine wp_region_below (by kernel_rfl) (by kernel_rfl) ?_
        repeat (go_big_quiet_step (first | (go_at_call 61; exact BW.calls_same (HKj.out _))))
        refine wpQuiet_nil ?_
        rintro W1 ⟨⟨_, hb1⟩, rfl⟩
        have HR1 := Lib.hid (HRj.out.below hb1)
        have HG1 := Lib.hid (HG.out.below hb1)
        have D0 := BW.cell HR1.out.c0
        have D1 := BW.cell HR1.out.c1
        have h1 : (k : Int) ≤ (j : Int) := by omega
        have h2 : (j : Int) ≤ (s.size : Int) := by omega
        clear hb1 HRj HG c0 c1 C0 C1
        go_wp2_with fail
        refine wp_region_below (by kernel_rfl) (by kernel_rfl) ?_
        repeat (go_big_quiet_step (fail))
        refine wpQuiet_nil ?_
        rintro W2 ⟨⟨_, hb2⟩, rfl⟩
        go_wp2_with fail
        go_ret
        obtain ⟨q1, q2, q3⟩ := rowIs_of hkj hj HS.out (fun _ => hb)
        exact ⟨s.extract k j, j, rfl, q1, q2, HR1.out.below hb2, hj, q3, HG1.out.below hb2⟩
    · go_wp2_with fail
      refine wp_region_below (by kernel_rfl) (by kernel_rfl) ?_
      repeat (go_big_quiet_step (fail))
      refine wpQuiet_nil ?_
      rintro W1 ⟨⟨_, hb1⟩, rfl⟩
      have HR1 := Lib.hid (HRj.out.below hb1)
      have HG1 := Lib.hid (HG.out.below hb1)
      have D0 := BW.cell HR1.out.c0
      have D1 := BW.cell HR1.out.c1
      have h1 : (k : Int) ≤ (j : Int) := by omega
      have h2 : (j : Int) ≤ (s.size : Int) := by omega
      clear hb1 HRj HG c0 c1 C0 C1
      go_wp2_with fail
      refine wp_region_below (by kernel_rfl) (by kernel_rfl) ?_
      repeat (go_big_quiet_step (fail))
      refine wpQuiet_nil ?_
      rintro W2 ⟨⟨_, hb2⟩, rfl⟩
      go_wp2_with fail
      go_ret
      obtain ⟨q1, q2, q3⟩ := rowIs_of hkj hj HS.out (fun h => (hlt h).elim)
      exact ⟨s.extract k j, j, rfl, q1, q2, HR1.out.below hb2, hj, q3, HG1.out.below hb2⟩

set_option maxRecDepth 100000 in
set_option maxHeartbeats 2000000 in
theorem row_what (B : Nat) (s : ByteArray) (k : Nat) (w : World) (hr : Rd w B s k) (hl : s.size ≤ 1000000000) (hk : k ≤ s.size) :
    Calls Tryz.prog 60 #[.pointer (some ⟨B, 0, none⟩), .func (.func 62) #[] #[]] w (RowIs whatB B s k w) := by
  unfold RowIs
  have HR := Lib.hid hr
  have HK := Lib.hid what1_any
  have c1 := hr.c1
  clear hr
  go_enter Tryz.func60, Tryz.ntmps60
  go_wp2_with fail
  go_loopg [] (s.size - k) (fun g wr => ∃ j : Nat, g = s.size - j ∧ k ≤ j ∧ j ≤ s.size ∧ Hid (Rd wr B s j) ∧ Hid (Gr B w wr) ∧ Hid (((s.data.toList.drop k).take (j - k)).all whatB = true))
  case atStart => exact ⟨k, rfl, by omega, hk, HR.out, Gr.refl _ _, by unfold Hid; simp⟩
  case round =>
    obtain ⟨j, rfl, hkj, hj, HRj, HG, HS⟩ := hrel
    have c0 := HRj.out.c0
    have c1 := HRj.out.c1
    have C0 := BW.cell c0
    have C1 := BW.cell c1
    by_cases hlt : j < s.size
    · have hd : ((j : Int) < (s.size : Int)) := by omega
      have HKj := Lib.hid (fun W => HK.out s[j] W)
      rcases Bool.eq_false_or_eq_true (whatB s[j]) with hb | hb
      · rw [hb] at HKj
        go_wp2_with fail
        refine wp_region_below (by kernel_rfl) (by kernel_rfl) ?_
        repeat (go_big_quiet_step (first | (go_at_call 62; exact BW.calls_same (HKj.out _))))
        refine wpQuiet_nil ?_
        rintro W1 ⟨⟨_, hb1⟩, rfl⟩
        have HR1 := Lib.hid (HRj.out.below hb1)
        have HG1 := Lib.hid (HG.out.below hb1)
        replace c1 := HR1.out.c1
        have f1 := HR1.out.f1
        clear hb1 HRj HG c0 C0 C1
        go_wp2_with fail
        go_roundg (s.size - (j + 1))
        case measure => omega
        case rel => exact ⟨j + 1, rfl, by omega, by omega, HR1.out.set (j + 1), HG1.out.set 1 _, all_more hkj hlt HS.out hb⟩
      · rw [hb] at HKj
        go_wp2_with fail
        refine wp_region_below (by kernel_rfl) (by kernel_rfl) ?_
        repeat (go_big_quiet_step (first | (go_at_call 62; exact BW.calls_same (HKj.out _))))
        refine wpQuiet_nil ?_
        rintro W1 ⟨⟨_, hb1⟩, rfl⟩
        have HR1 := Lib.hid (HRj.out.below hb1)
        have HG1 := Lib.hid (HG.out.below hb1)
        have D0 := BW.cell HR1.out.c0
        have D1 := BW.cell HR1.out.c1
        have h1 : (k : Int) ≤ (j : Int) := by omega
        have h2 : (j : Int) ≤ (s.size : Int) := by omega
        clear hb1 HRj HG c0 c1 C0 C1
        go_wp2_with fail
        refine wp_region_below (by kernel_rfl) (by kernel_rfl) ?_
        repeat (go_big_quiet_step (fail))
        refine wpQuiet_nil ?_
        rintro W2 ⟨⟨_, hb2⟩, rfl⟩
        go_wp2_with fail
        go_ret
        obtain ⟨q1, q2, q3⟩ := rowIs_of hkj hj HS.out (fun _ => hb)
        exact ⟨s.extract k j, j, rfl, q1, q2, HR1.out.below hb2, hj, q3, HG1.out.below hb2⟩
    · go_wp2_with fail
      refine wp_region_below (by kernel_rfl) (by kernel_rfl) ?_
      repeat (go_big_quiet_step (fail))
      refine wpQuiet_nil ?_
      rintro W1 ⟨⟨_, hb1⟩, rfl⟩
      have HR1 := Lib.hid (HRj.out.below hb1)
      have HG1 := Lib.hid (HG.out.below hb1)
      have D0 := BW.cell HR1.out.c0
      have D1 := BW.cell HR1.out.c1
      have h1 : (k : Int) ≤ (j : Int) := by omega
      have h2 : (j : Int) ≤ (s.size : Int) := by omega
      clear hb1 HRj HG c0 c1 C0 C1
      go_wp2_with fail
      refine wp_region_below (by kernel_rfl) (by kernel_rfl) ?_
      repeat (go_big_quiet_step (fail))
      refine wpQuiet_nil ?_
      rintro W2 ⟨⟨_, hb2⟩, rfl⟩
      go_wp2_with fail
      go_ret
      obtain ⟨q1, q2, q3⟩ := rowIs_of hkj hj HS.out (fun h => (hlt h).elim)
      exact ⟨s.extract k j, j, rfl, q1, q2, HR1.out.below hb2, hj, q3, HG1.out.below hb2⟩

set_option maxRecDepth 100000 in
set_option maxHeartbeats 2000000 in
theorem row_quo (B : Nat) (s : ByteArray) (k : Nat) (w : World) (hr : Rd w B s k) (hl : s.size ≤ 1000000000) (hk : k ≤ s.size) :
    Calls Tryz.prog 60 #[.pointer (some ⟨B, 0, none⟩), .func (.func 72) #[] #[]] w (RowIs quoB B s k w) := by
  unfold RowIs
  have HR := Lib.hid hr
  have HK := Lib.hid quo1_any
  have c1 := hr.c1
  clear hr
  go_enter Tryz.func60, Tryz.ntmps60
  go_wp2_with fail
  go_loopg [] (s.size - k) (fun g wr => ∃ j : Nat, g = s.size - j ∧ k ≤ j ∧ j ≤ s.size ∧ Hid (Rd wr B s j) ∧ Hid (Gr B w wr) ∧ Hid (((s.data.toList.drop k).take (j - k)).all quoB = true))
  case atStart => exact ⟨k, rfl, by omega, hk, HR.out, Gr.refl _ _, by unfold Hid; simp⟩
  case round =>
    obtain ⟨j, rfl, hkj, hj, HRj, HG, HS⟩ := hrel
    have c0 := HRj.out.c0
    have c1 := HRj.out.c1
    have C0 := BW.cell c0
    have C1 := BW.cell c1
    by_cases hlt : j < s.size
    · have hd : ((j : Int) < (s.size : Int)) := by omega
      have HKj := Lib.hid (fun W => HK.out s[j] W)
      rcases Bool.eq_false_or_eq_true (quoB s[j]) with hb | hb
      · rw [hb] at HKj
        go_wp2_with fail
        refine wp_region_below (by kernel_rfl) (by kernel_rfl) ?_
        repeat (go_big_quiet_step (first | (go_at_call 72; exact BW.calls_same (HKj.out _))))
        refine wpQuiet_nil ?_
        rintro W1 ⟨⟨_, hb1⟩, rfl⟩
        have HR1 := Lib.hid (HRj.out.below hb1)
        have HG1 := Lib.hid (HG.out.below hb1)
        replace c1 := HR1.out.c1
        have f1 := HR1.out.f1
        clear hb1 HRj HG c0 C0 C1
        go_wp2_with fail
        go_roundg (s.size - (j + 1))
        case measure => omega
        case rel => exact ⟨j + 1, rfl, by omega, by omega, HR1.out.set (j + 1), HG1.out.set 1 _, all_more hkj hlt HS.out hb⟩
      · rw [hb] at HKj
        go_wp2_with fail
        refine wp_region_below (by kernel_rfl) (by kernel_rfl) ?_
        repeat (go_big_quiet_step (first | (go_at_call 72; exact BW.calls_same (HKj.out _))))
        refine wpQuiet_nil ?_
        rintro W1 ⟨⟨_, hb1⟩, rfl⟩
        have HR1 := Lib.hid (HRj.out.below hb1)
        have HG1 := Lib.hid (HG.out.below hb1)
        have D0 := BW.cell HR1.out.c0
        have D1 := BW.cell HR1.out.c1
        have h1 : (k : Int) ≤ (j : Int) := by omega
        have h2 : (j : Int) ≤ (s.size : Int) := by omega
        clear hb1 HRj HG c0 c1 C0 C1
        go_wp2_with fail
        refine wp_region_below (by kernel_rfl) (by kernel_rfl) ?_
        repeat (go_big_quiet_step (fail))
        refine wpQuiet_nil ?_
        rintro W2 ⟨⟨_, hb2⟩, rfl⟩
        go_wp2_with fail
        go_ret
        obtain ⟨q1, q2, q3⟩ := rowIs_of hkj hj HS.out (fun _ => hb)
        exact ⟨s.extract k j, j, rfl, q1, q2, HR1.out.below hb2, hj, q3, HG1.out.below hb2⟩
    · go_wp2_with fail
      refine wp_region_below (by kernel_rfl) (by kernel_rfl) ?_
      repeat (go_big_quiet_step (fail))
      refine wpQuiet_nil ?_
      rintro W1 ⟨⟨_, hb1⟩, rfl⟩
      have HR1 := Lib.hid (HRj.out.below hb1)
      have HG1 := Lib.hid (HG.out.below hb1)
      have D0 := BW.cell HR1.out.c0
      have D1 := BW.cell HR1.out.c1
      have h1 : (k : Int) ≤ (j : Int) := by omega
      have h2 : (j : Int) ≤ (s.size : Int) := by omega
      clear hb1 HRj HG c0 c1 C0 C1
      go_wp2_with fail
      refine wp_region_below (by kernel_rfl) (by kernel_rfl) ?_
      repeat (go_big_quiet_step (fail))
      refine wpQuiet_nil ?_
      rintro W2 ⟨⟨_, hb2⟩, rfl⟩
      go_wp2_with fail
      go_ret
      obtain ⟨q1, q2, q3⟩ := rowIs_of hkj hj HS.out (fun h => (hlt h).elim)
      exact ⟨s.extract k j, j, rfl, q1, q2, HR1.out.below hb2, hj, q3, HG1.out.below hb2⟩

set_option maxRecDepth 100000 in
set_option maxHeartbeats 2000000 in
theorem row_atom (B : Nat) (s : ByteArray) (k : Nat) (w : World) (hr : Rd w B s k) (hl : s.size ≤ 1000000000) (hk : k ≤ s.size) :
    Calls Tryz.prog 60 #[.pointer (some ⟨B, 0, none⟩), .func (.func 65) #[] #[]] w (RowIs atomB B s k w) := by
  unfold RowIs
  have HR := Lib.hid hr
  have HK := Lib.hid atomC_any
  have c1 := hr.c1
  clear hr
  go_enter Tryz.func60, Tryz.ntmps60
  go_wp2_with fail
  go_loopg [] (s.size - k) (fun g wr => ∃ j : Nat, g = s.size - j ∧ k ≤ j ∧ j ≤ s.size ∧ Hid (Rd wr B s j) ∧ Hid (Gr B w wr) ∧ Hid (((s.data.toList.drop k).take (j - k)).all atomB = true))
  case atStart => exact ⟨k, rfl, by omega, hk, HR.out, Gr.refl _ _, by unfold Hid; simp⟩
  case round =>
    obtain ⟨j, rfl, hkj, hj, HRj, HG, HS⟩ := hrel
    have c0 := HRj.out.c0
    have c1 := HRj.out.c1
    have C0 := BW.cell c0
    have C1 := BW.cell c1
    by_cases hlt : j < s.size
    · have hd : ((j : Int) < (s.size : Int)) := by omega
      have HKj := Lib.hid (fun W => HK.out s[j] W)
      rcases Bool.eq_false_or_eq_true (atomB s[j]) with hb | hb
      · rw [hb] at HKj
        go_wp2_with fail
        refine wp_region_below (by kernel_rfl) (by kernel_rfl) ?_
        repeat (go_big_quiet_step (first | (go_at_call 65; exact BW.calls (HKj.out _))))
        refine wpQuiet_nil ?_
        rintro W1 ⟨⟨_, hb1⟩, rfl⟩
        have HR1 := Lib.hid (HRj.out.below hb1)
        have HG1 := Lib.hid (HG.out.below hb1)
        replace c1 := HR1.out.c1
        have f1 := HR1.out.f1
        clear hb1 HRj HG c0 C0 C1
        go_wp2_with fail
        go_roundg (s.size - (j + 1))
        case measure => omega
        case rel => exact ⟨j + 1, rfl, by omega, by omega, HR1.out.set (j + 1), HG1.out.set 1 _, all_more hkj hlt HS.out hb⟩
      · rw [hb] at HKj
        go_wp2_with fail
        refine wp_region_below (by kernel_rfl) (by kernel_rfl) ?_
        repeat (go_big_quiet_step (first | (go_at_call 65; exact BW.calls (HKj.out _))))
        refine wpQuiet_nil ?_
        rintro W1 ⟨⟨_, hb1⟩, rfl⟩
        have HR1 := Lib.hid (HRj.out.below hb1)
        have HG1 := Lib.hid (HG.out.below hb1)
        have D0 := BW.cell HR1.out.c0
        have D1 := BW.cell HR1.out.c1
        have h1 : (k : Int) ≤ (j : Int) := by omega
        have h2 : (j : Int) ≤ (s.size : Int) := by omega
        clear hb1 HRj HG c0 c1 C0 C1
        go_wp2_with fail
        refine wp_region_below (by kernel_rfl) (by kernel_rfl) ?_
        repeat (go_big_quiet_step (fail))
        refine wpQuiet_nil ?_
        rintro W2 ⟨⟨_, hb2⟩, rfl⟩
        go_wp2_with fail
        go_ret
        obtain ⟨q1, q2, q3⟩ := rowIs_of hkj hj HS.out (fun _ => hb)
        exact ⟨s.extract k j, j, rfl, q1, q2, HR1.out.below hb2, hj, q3, HG1.out.below hb2⟩
    · go_wp2_with fail
      refine wp_region_below (by kernel_rfl) (by kernel_rfl) ?_
      repeat (go_big_quiet_step (fail))
      refine wpQuiet_nil ?_
      rintro W1 ⟨⟨_, hb1⟩, rfl⟩
      have HR1 := Lib.hid (HRj.out.below hb1)
      have HG1 := Lib.hid (HG.out.below hb1)
      have D0 := BW.cell HR1.out.c0
      have D1 := BW.cell HR1.out.c1
      have h1 : (k : Int) ≤ (j : Int) := by omega
      have h2 : (j : Int) ≤ (s.size : Int) := by omega
      clear hb1 HRj HG c0 c1 C0 C1
      go_wp2_with fail
      refine wp_region_below (by kernel_rfl) (by kernel_rfl) ?_
      repeat (go_big_quiet_step (fail))
      refine wpQuiet_nil ?_
      rintro W2 ⟨⟨_, hb2⟩, rfl⟩
      go_wp2_with fail
      go_ret
      obtain ⟨q1, q2, q3⟩ := rowIs_of hkj hj HS.out (fun h => (hlt h).elim)
      exact ⟨s.extract k j, j, rfl, q1, q2, HR1.out.below hb2, hj, q3, HG1.out.below hb2⟩
end Go.Proofs.YthcleaflhljdlaaGreatDoor
