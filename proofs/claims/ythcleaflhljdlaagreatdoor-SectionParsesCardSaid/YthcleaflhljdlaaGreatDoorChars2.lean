/- Contracts of Number, of the document's Number, and what a number's text is. -/
import Derived.Test.YthcleaflhljdlaaGreatDoorChars
namespace Go.Proofs.YthcleaflhljdlaaGreatDoor
open Go Go.RowKit

def isDig (b : UInt8) : Bool := decide (48 ≤ (b.toNat : Int) ∧ (b.toNat : Int) ≤ 57)
def numOf (l : List UInt8) : Nat := l.foldl (fun n b => n * 10 + (b.toNat - 48)) 0
def numSpec (l : List UInt8) : Option Nat :=
  if l.length < 1 ∨ 10 < l.length ∨ (l.head? = some 48 ∧ 1 < l.length) ∨ l.all isDig = false ∨ 4294967295 < numOf l then none else some (numOf l)

theorem numOf_snoc (l : List UInt8) (b : UInt8) : numOf (l ++ [b]) = numOf l * 10 + (b.toNat - 48) := by simp [numOf]
theorem isDig_iff (b : UInt8) : isDig b = true ↔ 48 ≤ b.toNat ∧ b.toNat ≤ 57 := by unfold isDig; simp; omega

theorem isDig_false {b : UInt8} (h : ¬ (48 ≤ b.toNat ∧ b.toNat ≤ 57)) : isDig b = false := by have := mt (isDig_iff b).1 h; simpa using this
theorem numOf_lt' (l : List UInt8) (h : l.all isDig = true) (a : Nat) : l.foldl (fun n b => n * 10 + (b.toNat - 48)) a < (a + 1) * 10 ^ l.length := by
  induction l generalizing a with
  | nil => simp
  | cons b l ih =>
    rw [List.all_cons, Bool.and_eq_true] at h
    have h2 := (isDig_iff b).1 h.1
    have h1 := ih h.2 (a * 10 + (b.toNat - 48))
    rw [List.foldl_cons, List.length_cons, Nat.pow_succ, Nat.mul_comm (10 ^ _) 10, ← Nat.mul_assoc]
    exact Nat.lt_of_lt_of_le h1 (Nat.mul_le_mul_right _ (by omega))
theorem numOf_lt (l : List UInt8) (h : l.all isDig = true) : numOf l < 10 ^ l.length := by
  have := numOf_lt' l h 0
  simpa [numOf] using this
theorem numOf_le (l : List UInt8) (h : l.all isDig = true) (hl : l.length ≤ 10) : numOf l ≤ 9999999999 := by
  have h1 := numOf_lt l h
  have h2 : 10 ^ l.length ≤ 10 ^ 10 := Nat.pow_le_pow_right (by decide) hl
  omega
theorem numSpec_short {l : List UInt8} (h : l.length < 1) : numSpec l = none := by unfold numSpec; rw [if_pos (.inl h)]
theorem numSpec_long {l : List UInt8} (h : 10 < l.length) : numSpec l = none := by unfold numSpec; rw [if_pos (.inr (.inl h))]
theorem numSpec_nought {l : List UInt8} (h : l.head? = some 48) (h1 : 1 < l.length) : numSpec l = none := by unfold numSpec; rw [if_pos (.inr (.inr (.inl ⟨h, h1⟩)))]
theorem numSpec_other {l : List UInt8} (h : l.all isDig = false) : numSpec l = none := by unfold numSpec; rw [if_pos (.inr (.inr (.inr (.inl h))))]
theorem numSpec_great {l : List UInt8} (h : 4294967295 < numOf l) : numSpec l = none := by unfold numSpec; rw [if_pos (.inr (.inr (.inr (.inr h))))]
theorem numSpec_good {l : List UInt8} (h1 : 1 ≤ l.length) (h2 : l.length ≤ 10) (h3 : ¬ (l.head? = some 48 ∧ 1 < l.length)) (h4 : l.all isDig = true) (h5 : numOf l ≤ 4294967295) : numSpec l = some (numOf l) := by
  unfold numSpec
  rw [if_neg]
  simp only [h4]
  simp only [not_or]
  exact ⟨by omega, by omega, h3, by simp, by omega⟩

theorem all_not {s : ByteArray} {k : Nat} (h : k < s.size) (hd : isDig s[k] = false) : s.data.toList.all isDig = false := by
  rw [List.all_eq_false]
  exact ⟨s[k], by simp [ByteArray.getElem_eq_getElem_data], by simp [hd]⟩

def numV (o : Option Nat) : Value := .tuple #[.int .i64 (o.getD 0 : Nat), .bool o.isSome]
theorem numV_none {o : Option Nat} (h : o = none) : Ending.returned (.tuple #[.int .i64 0, .bool false]) = .returned (numV o) := by subst h; rfl
theorem numV_some {o : Option Nat} {n : Nat} (h : o = some n) : Ending.returned (.tuple #[.int .i64 n, .bool true]) = .returned (numV o) := by subst h; rfl

theorem number_any (s : ByteArray) (w : World) (hl : s.size ≤ 9223372036854775807) :
    Calls Tryz.prog 59 #[.string s] w fun e w' => e = .returned (numV (numSpec s.data.toList)) ∧ Below w.heap.size w w' := by
  have HL := Lib.hid (len_toList s)
  by_cases h1 : s.size < 1
  · go_enter Tryz.func59, Tryz.ntmps59
    go_wp2
    go_ret2
    exact ⟨numV_none (numSpec_short (by rw [HL.out]; exact h1)), Below.refl _ _⟩
  · by_cases h2 : 10 < s.size
    · go_enter Tryz.func59, Tryz.ntmps59
      go_wp2
      go_ret2
      exact ⟨numV_none (numSpec_long (by rw [HL.out]; exact h2)), Below.refl _ _⟩
    · have h0 : 0 < s.size := by omega
      by_cases h3 : s[0].toNat = 48 ∧ 1 < s.size
      · obtain ⟨h3, h4⟩ := h3
        have ht : ((s[0].toNat : Int) == 48) = true := by simp; omega
        have H3 := Lib.hid h3; clear h3
        go_enter Tryz.func59, Tryz.ntmps59
        go_wp2
        go_ret2
        exact ⟨numV_none (numSpec_nought (by rw [head_at s h0]; exact congrArg some (UInt8.toNat_inj.1 H3.out)) (by rw [HL.out]; exact h4)), Below.refl _ _⟩
      · have H3 := Lib.hid h3
        by_cases hb : s[0].toNat = 48
        case' pos =>
          have ht : ((s[0].toNat : Int) == 48) = true := by simp; omega
          have h4 : ¬ 1 < s.size := by omega
        case' neg =>
          have ht : ((s[0].toNat : Int) == 48) = false := by simp; omega
          have h4 : True := trivial
        all_goals
          clear h3 hb
          go_enter Tryz.func59, Tryz.ntmps59
          go_wp2
          clear ht
          go_loopg [4] s.size (fun g n wr => ∃ k N : Nat, k ≤ s.size ∧ g = s.size - k ∧ n = .int .i64 N ∧ wr = w.iter s k ∧ N ≤ 9999999999 ∧ Hid (N = numOf (s.data.toList.take k) ∧ (s.data.toList.take k).all isDig = true))
          case atStart => exact ⟨0, 0, by omega, by omega, rfl, rfl, by omega, rfl, rfl⟩
          case round =>
            obtain ⟨k, N, hk, rfl, rfl, rfl, hN, HN⟩ := hrel
            by_cases hlt : k < s.size
            · have HT := Lib.hid (take_snoc s k hlt)
              by_cases ha : s[k].toNat < 128
              · have hnx : ∀ ty, (Instr.next (.pointer (some ⟨w.heap.size, 0, none⟩)) true ty).run Tryz.prog (w.iter s k) = _ := fun ty => run_next_ascii w s k ty hlt ha
                by_cases hd : 48 ≤ s[k].toNat ∧ s[k].toNat ≤ 57
                · have hd1 := hd.1; have hd2 := hd.2
                  have HD : Hid (isDig s[k] = true) := (isDig_iff _).2 hd
                  clear hd
                  go_wp2
                  go_roundg (s.size - (k + 1))
                  case measure => omega
                  case rel =>
                    have e2 : (s.data.toList.take (k + 1)).all isDig = true := by rw [HT.out, List.all_append, HN.out.2]; simp [HD.out]
                    have e1 : N * 10 + (s[k].toNat - 48) = numOf (s.data.toList.take (k + 1)) := by rw [HT.out, numOf_snoc, HN.out.1]
                    refine ⟨k + 1, N * 10 + (s[k].toNat - 48), by omega, rfl, ?_, rfl, ?_, e1, e2⟩
                    · go_num
                    · rw [e1]; exact numOf_le _ e2 (by simp; omega)
                · have HD : Hid (isDig s[k] = false) := isDig_false hd
                  have hd' : (s[k].toNat : Int) < 48 ∨ 57 < (s[k].toNat : Int) := by omega
                  clear hd
                  rcases hd' with hd | hd
                  all_goals
                    go_wp2
                    go_ret2
                    exact ⟨numV_none (numSpec_other (all_not hlt HD.out)), (Below.refl _ _).alloc (Nat.le_refl _) _⟩
              · have hh := (decode_high s k hlt (by omega)).1
                have HD : Hid (isDig s[k] = false) := isDig_false (by omega)
                have hr := decode_le s k
                have hnx : ∀ ty, (Instr.next (.pointer (some ⟨w.heap.size, 0, none⟩)) true ty).run Tryz.prog (w.iter s k) = _ := fun ty => run_next_any w s k ty hlt
                generalize (Utf8.decode s k).1 = r at hnx hh hr
                go_wp2
                go_ret2
                exact ⟨numV_none (numSpec_other (all_not hlt HD.out)), (Below.refl _ _).alloc (Nat.le_refl _) _⟩
            · have hnx : ∀ ty, (Instr.next (.pointer (some ⟨w.heap.size, 0, none⟩)) true ty).run Tryz.prog (w.iter s k) = _ := fun ty => run_next_end w s k ty hlt
              have HT := Lib.hid (take_all s k hlt)
              by_cases hg : N ≤ 4294967295
              · go_wp2
                go_ret2
                have e1 := HN.out.1
                have e2 := HN.out.2
                rw [HT.out] at e1 e2
                refine ⟨numV_some (n := N) (e1 ▸ numSpec_good (by rw [HL.out]; omega) (by rw [HL.out]; omega) ?_ e2 (by omega)), (Below.refl _ _).alloc (Nat.le_refl _) _⟩
                rw [HL.out, head_at s h0]
                intro hx
                exact H3.out ⟨by rw [Option.some.inj hx.1]; rfl, hx.2⟩
              · go_wp2
                go_ret2
                exact ⟨numV_none (numSpec_great (by have := HN.out.1; rw [HT.out] at this; omega)), (Below.refl _ _).alloc (Nat.le_refl _) _⟩

theorem refnumber_low (n : Nat) (w : World) (h : n ≤ 4294967295) :
    Calls Tryz.prog 38 #[.int .i64 n] w fun e w' => e = .returned (.tuple #[.int .i64 n, .bool true]) ∧ w = w' := by
  go_enter Tryz.func38, Tryz.ntmps38
  go_wp2
  go_ret2
  exact ⟨rfl, rfl⟩
theorem refnumber_high (n : Nat) (w : World) (h : 4294967295 < n) (hn : n ≤ 9999999999) :
    Calls Tryz.prog 38 #[.int .i64 n] w fun e w' => e = .returned (.tuple #[.int .i64 0, .bool false]) ∧ w = w' := by
  go_enter Tryz.func38, Tryz.ntmps38
  go_wp2
  go_ret2
  exact ⟨rfl, rfl⟩

theorem refNumber_any (s : ByteArray) (w : World) (hl : s.size ≤ 9223372036854775807) :
    Calls Tryz.prog 22 #[.string s] w fun e w' => e = .returned (numV (numSpec s.data.toList)) ∧ w = w' := by
  have HL := Lib.hid (len_toList s)
  have HO := Lib.hid (toList_one_iff s 48)
  have HE := Lib.hid (toList_nil_iff s)
  by_cases h1 : s.size < 1
  · have e0 : s.toList.isEmpty = true := by rw [List.isEmpty_iff]; exact HE.out.2 (by omega)
    have e1 : s.toList = [] := HE.out.2 (by omega)
    have e2 : (s.toList == [48]) = false := by rw [e1]; rfl
    go_enter Tryz.func22, Tryz.ntmps22
    go_wp2
    go_ret2
    exact ⟨numV_none (numSpec_short (by rw [HL.out]; exact h1)), rfl⟩
  · have e1 : ¬ s.toList = [] := fun h => h1 (by have := HE.out.1 h; omega)
    have e0 : s.toList.isEmpty = false := by rw [List.isEmpty_eq_false_iff]; exact e1
    have h0 : 0 < s.size := by omega
    have HH := Lib.hid (head_at s h0)
    by_cases hz : s.toList = [48]
    · have e2 : (s.toList == [48]) = true := by rw [hz]; rfl
      have HZ := Lib.hid hz; clear hz
      go_enter Tryz.func22, Tryz.ntmps22
      go_wp2
      go_ret2
      refine ⟨numV_some (n := 0) ?_, rfl⟩
      rw [← ByteArray.toList_eq, HZ.out]
      rfl
    · have e2 : (s.toList == [48]) = false := by simpa using hz
      have HZ := Lib.hid hz; clear hz
      by_cases h2 : 10 < s.size
      · go_enter Tryz.func22, Tryz.ntmps22
        go_wp2
        go_ret2
        exact ⟨numV_none (numSpec_long (by rw [HL.out]; exact h2)), rfl⟩
      · by_cases h3 : s[0].toNat = 48
        · have ht : ((s[0].toNat : Int) == 48) = true := by simp; omega
          have H3 := Lib.hid h3; clear h3
          have h4 : 1 < s.size := by
            have : ¬ s.size = 1 := fun h => HZ.out (HO.out.2 ⟨by rw [HH.out]; exact congrArg some (UInt8.toNat_inj.1 H3.out), h⟩)
            omega
          go_enter Tryz.func22, Tryz.ntmps22
          go_wp2
          go_ret2
          exact ⟨numV_none (numSpec_nought (by rw [HH.out]; exact congrArg some (UInt8.toNat_inj.1 H3.out)) (by rw [HL.out]; exact h4)), rfl⟩
        · have ht : ((s[0].toNat : Int) == 48) = false := by simp; omega
          have H3 := Lib.hid h3; clear h3
          go_enter Tryz.func22, Tryz.ntmps22
          go_wp2
          clear ht e0 e1 e2
          go_loopg [4, 5] s.size (fun g n i wr => ∃ k N : Nat, k ≤ s.size ∧ g = s.size - k ∧ n = .int .i64 N ∧ i = .int .i64 k ∧ w = wr ∧ N ≤ 9999999999 ∧ Hid (N = numOf (s.data.toList.take k) ∧ (s.data.toList.take k).all isDig = true))
          case atStart => exact ⟨0, 0, by omega, by omega, rfl, rfl, rfl, by omega, rfl, rfl⟩
          case round =>
            obtain ⟨k, N, hk, rfl, rfl, rfl, rfl, hN, HN⟩ := hrel
            by_cases hlt : k < s.size
            · have HT := Lib.hid (take_snoc s k hlt)
              by_cases hd : 48 ≤ s[k].toNat ∧ s[k].toNat ≤ 57
              · have hd1 := hd.1; have hd2 := hd.2
                have HD : Hid (isDig s[k] = true) := (isDig_iff _).2 hd
                clear hd
                go_wp2
                go_roundg (s.size - (k + 1))
                case measure => omega
                case rel =>
                  have e2 : (s.data.toList.take (k + 1)).all isDig = true := by rw [HT.out, List.all_append, HN.out.2]; simp [HD.out]
                  have e1 : N * 10 + (s[k].toNat - 48) = numOf (s.data.toList.take (k + 1)) := by rw [HT.out, numOf_snoc, HN.out.1]
                  refine ⟨k + 1, N * 10 + (s[k].toNat - 48), by omega, rfl, ?_, by go_num, rfl, ?_, e1, e2⟩
                  · go_num
                  · rw [e1]; exact numOf_le _ e2 (by simp; omega)
              · have HD : Hid (isDig s[k] = false) := isDig_false hd
                have hd' : (s[k].toNat : Int) < 48 ∨ 57 < (s[k].toNat : Int) := by omega
                clear hd
                rcases hd' with hd | hd
                all_goals
                  go_wp2
                  go_ret2
                  exact ⟨numV_none (numSpec_other (all_not hlt HD.out)), rfl⟩
            · have HT := Lib.hid (take_all s k hlt)
              by_cases hg : N ≤ 4294967295
              · go_wp2_with (go_at_call 38; refine (refnumber_low N _ hg).mono ?_; rintro e w' ⟨rfl, rfl⟩)
                go_ret2
                have e1 := HN.out.1
                have e2 := HN.out.2
                rw [HT.out] at e1 e2
                refine ⟨numV_some (n := N) (e1 ▸ numSpec_good (by rw [HL.out]; omega) (by rw [HL.out]; omega) ?_ e2 (by omega)), rfl⟩
                rw [HH.out]
                intro hx
                exact H3.out (by rw [Option.some.inj hx.1]; rfl)
              · go_wp2_with (go_at_call 38; refine (refnumber_high N _ (by omega) hN).mono ?_; rintro e w' ⟨rfl, rfl⟩)
                go_ret2
                exact ⟨numV_none (numSpec_great (by have := HN.out.1; rw [HT.out] at this; omega)), rfl⟩

end Go.Proofs.YthcleaflhljdlaaGreatDoor
