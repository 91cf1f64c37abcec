/- Contracts of the functions of package chars and of the document's answers to them: single bytes. -/
import Derived.Test.YtkkdplccneeaiaaGreatDoorProg
import Derived.Test.YtkkdplccneeaiaaGreatDoorKit
import Derived.WalkKit
import Derived.WalkSpells
import Derived.BigQuiet
import Derived.Deep.QuietTactic
import Derived.Deep.LoopGhost
import Derived.Lib.Hide
import Derived.Test.YtkkdplccneeaiaaGreatDoorCharsM
import Derived.Laws.IdiomStrings
namespace Go.Proofs.YtkkdplccneeaiaaGreatDoor
open Go Go.RowKit

/-- A letter's small one. -/
def lowI (c : Int) : Int := if 65 ≤ c ∧ c ≤ 90 then c + 32 else c

theorem up_at : ∀ k, (h : k < 26) → (((⟨#[65, 66, 67, 68, 69, 70, 71, 72, 73, 74, 75, 76, 77, 78, 79, 80, 81, 82, 83, 84, 85, 86, 87, 88, 89, 90]⟩ : ByteArray)[k]'h).toNat) = 65 + k := by decide
theorem low_at : ∀ k, (h : k < 26) → (((⟨#[97, 98, 99, 100, 101, 102, 103, 104, 105, 106, 107, 108, 109, 110, 111, 112, 113, 114, 115, 116, 117, 118, 119, 120, 121, 122]⟩ : ByteArray)[k]'h).toNat) = 97 + k := by decide

theorem seen_any (c : Int) (w : World) (h0 : 0 ≤ c) (h1 : c ≤ 255) :
    Calls Tryz.prog 49 #[.int .u8 c] w fun e w' => e = .returned (.bool (decide (33 ≤ c ∧ c ≤ 126))) ∧ w = w' := by
  by_cases a : 33 ≤ c
  · go_enter Tryz.func49, Tryz.ntmps49
    go_wp2
    go_ret
    exact ⟨ret_bool (by simp [a]), rfl⟩
  · go_enter Tryz.func49, Tryz.ntmps49
    go_wp2
    go_ret
    exact ⟨ret_bool (by simp; omega), rfl⟩

/-- Is a byte among those of a text? -/
def hasI (s : ByteArray) (c : Int) : Bool := s.data.toList.any fun b => (b.toNat : Int) == c

theorem hasI_at {s : ByteArray} {c : Int} {k : Nat} (h : k < s.size) (e : (s[k].toNat : Int) = c) : hasI s c = true := by
  unfold hasI
  rw [List.any_eq_true]
  exact ⟨s[k], by simp [ByteArray.getElem_eq_getElem_data], by simpa using e⟩

theorem hasI_not {s : ByteArray} {c : Int} (h : ∀ k, (hk : k < s.size) → (s[k].toNat : Int) ≠ c) : hasI s c = false := by
  unfold hasI
  rw [List.any_eq_false]
  intro b hb
  obtain ⟨k, hk, rfl⟩ := List.getElem_of_mem hb
  have := h k (by simpa using hk)
  simpa [ByteArray.getElem_eq_getElem_data] using this

theorem among_any (c : Int) (s : ByteArray) (w : World) (h0 : 0 ≤ c) (h1 : c ≤ 255) (hs : ∀ k, (h : k < s.size) → s[k].toNat < 128) (hl : s.size ≤ 9223372036854775807) :
    Calls Tryz.prog 50 #[.int .u8 c, .string s] w fun e w' => e = .returned (.bool (hasI s c)) ∧ ∃ p, w' = w.iter s p := by
  go_enter Tryz.func50, Tryz.ntmps50
  go_wp2
  go_loopg [6] s.size (fun g _ wr => ∃ k : Nat, k ≤ s.size ∧ g = s.size - k ∧ wr = w.iter s k ∧ Hid (∀ j, (h : j < s.size) → j < k → (s[j].toNat : Int) ≠ c))
  case atStart => exact ⟨0, by omega, by omega, rfl, fun j _ hj => by omega⟩
  case round =>
    obtain ⟨k, hk, rfl, rfl, HC⟩ := hrel
    by_cases hlt : k < s.size
    · have hnx : ∀ ty, (Instr.next (.pointer (some ⟨w.heap.size, 0, none⟩)) true ty).run Tryz.prog (w.iter s k) = _ := fun ty => run_next_ascii w s k ty hlt (hs k hlt)
      have hb := hs k hlt
      clear hs
      by_cases hq : (s[k].toNat : Int) = c
      · have ht : ((s[k].toNat : Int) == c) = true := by simpa using hq
        have H := Lib.hid hq; clear hq
        go_wp2
        go_ret
        exact ⟨ret_bool (hasI_at hlt H.out).symm, _, rfl⟩
      · have ht : ((s[k].toNat : Int) == c) = false := by simpa using hq
        have H := Lib.hid hq; clear hq
        go_wp2
        go_roundg (s.size - (k + 1))
        case measure => omega
        case rel =>
          refine ⟨k + 1, by omega, rfl, rfl, ?_⟩
          intro j hj hjk
          by_cases e : j = k
          · subst e; exact H.out
          · exact HC.out j hj (by omega)
    · have hnx : ∀ ty, (Instr.next (.pointer (some ⟨w.heap.size, 0, none⟩)) true ty).run Tryz.prog (w.iter s k) = _ := fun ty => run_next_end w s k ty hlt
      go_wp2
      go_ret
      exact ⟨ret_bool (hasI_not fun j hj => HC.out j hj (by omega)).symm, _, rfl⟩

theorem in_any (s : ByteArray) (c : Int) (w : World) (hl : s.size ≤ 9223372036854775807) :
    Calls Tryz.prog 24 #[.string s, .int .u8 c] w fun e w' => e = .returned (.bool (hasI s c)) ∧ w = w' := by
  go_enter Tryz.func24, Tryz.ntmps24
  go_wp2
  go_loopg [5] s.size (fun g i wr => ∃ k : Nat, k ≤ s.size ∧ g = s.size - k ∧ i = .int .i64 k ∧ w = wr ∧ Hid (∀ j, (h : j < s.size) → j < k → (s[j].toNat : Int) ≠ c))
  case atStart => exact ⟨0, by omega, by omega, rfl, rfl, fun j _ hj => by omega⟩
  case round =>
    obtain ⟨k, hk, rfl, rfl, rfl, HC⟩ := hrel
    by_cases hlt : k < s.size
    · by_cases hq : (s[k].toNat : Int) = c
      · have ht : ((s[k].toNat : Int) == c) = true := by simpa using hq
        have H := Lib.hid hq; clear hq
        go_wp2
        go_ret
        exact ⟨ret_bool (hasI_at hlt H.out).symm, rfl⟩
      · have ht : ((s[k].toNat : Int) == c) = false := by simpa using hq
        have H := Lib.hid hq; clear hq
        go_wp2
        go_roundg (s.size - (k + 1))
        case measure => omega
        case rel =>
          refine ⟨k + 1, by omega, rfl, by go_num, rfl, ?_⟩
          intro j hj hjk
          by_cases e : j = k
          · subst e; exact H.out
          · exact HC.out j hj (by omega)
    · go_wp2
      go_ret
      exact ⟨ret_bool (hasI_not fun j hj => HC.out j hj (by omega)).symm, rfl⟩

end Go.Proofs.YtkkdplccneeaiaaGreatDoor

/- Contracts of Number, of the document's Number, and what a number's text is. -/
namespace Go.Proofs.YtkkdplccneeaiaaGreatDoor
open Go Go.RowKit

def isDig (b : UInt8) : Bool := decide (48 ≤ (b.toNat : Int) ∧ (b.toNat : Int) ≤ 57)
def numOf (l : List UInt8) : Nat := l.foldl (fun n b => n * 10 + (b.toNat - 48)) 0
def numSpec (l : List UInt8) : Option Nat :=
  if l.length < 1 ∨ 10 < l.length ∨ (l.head? = some 48 ∧ 1 < l.length) ∨ l.all isDig = false ∨ 4294967295 < numOf l then none else some (numOf l)

theorem numOf_snoc (l : List UInt8) (b : UInt8) : numOf (l ++ [b]) = numOf l * 10 + (b.toNat - 48) := by simp [numOf]
theorem isDig_iff (b : UInt8) : isDig b = true ↔ 48 ≤ b.toNat ∧ b.toNat ≤ 57 := by unfold isDig; simp; omega

theorem isDig_false {b : UInt8} (h : ¬ (48 ≤ b.toNat ∧ b.toNat ≤ 57)) : isDig b = false := by have := mt (isDig_iff b).1 h; simpa using this
theorem numOf_lt' (l : List UInt8) (h : l.all isDig = true) (a : Nat) : l.foldl (fun n b => n * 10 + (b.toNat - 48)) a < (a + 1) * 10 ^ l.length := by
  induction l generalizing a with
  | nil => simp
  | cons b l ih =>
    rw [List.all_cons, Bool.and_eq_true] at h
    have h2 := (isDig_iff b).1 h.1
    have h1 := ih h.2 (a * 10 + (b.toNat - 48))
    rw [List.foldl_cons, List.length_cons, Nat.pow_succ, Nat.mul_comm (10 ^ _) 10, ← Nat.mul_assoc]
    exact Nat.lt_of_lt_of_le h1 (Nat.mul_le_mul_right _ (by omega))
theorem numOf_lt (l : List UInt8) (h : l.all isDig = true) : numOf l < 10 ^ l.length := by
  have := numOf_lt' l h 0
  simpa [numOf] using this
theorem numOf_le (l : List UInt8) (h : l.all isDig = true) (hl : l.length ≤ 10) : numOf l ≤ 9999999999 := by
  have h1 := numOf_lt l h
  have h2 : 10 ^ l.length ≤ 10 ^ 10 := Nat.pow_le_pow_right (by decide) hl
  omega
theorem numSpec_short {l : List UInt8} (h : l.length < 1) : numSpec l = none := by unfold numSpec; rw [if_pos (.inl h)]
theorem numSpec_long {l : List UInt8} (h : 10 < l.length) : numSpec l = none := by unfold numSpec; rw [if_pos (.inr (.inl h))]
theorem numSpec_nought {l : List UInt8} (h : l.head? = some 48) (h1 : 1 < l.length) : numSpec l = none := by unfold numSpec; rw [if_pos (.inr (.inr (.inl ⟨h, h1⟩)))]
theorem numSpec_other {l : List UInt8} (h : l.all isDig = false) : numSpec l = none := by unfold numSpec; rw [if_pos (.inr (.inr (.inr (.inl h))))]
theorem numSpec_great {l : List UInt8} (h : 4294967295 < numOf l) : numSpec l = none := by unfold numSpec; rw [if_pos (.inr (.inr (.inr (.inr h))))]
theorem numSpec_good {l : List UInt8} (h1 : 1 ≤ l.length) (h2 : l.length ≤ 10) (h3 : ¬ (l.head? = some 48 ∧ 1 < l.length)) (h4 : l.all isDig = true) (h5 : numOf l ≤ 4294967295) : numSpec l = some (numOf l) := by
  unfold numSpec
  rw [if_neg]
  simp only [h4]
  simp only [not_or]
  exact ⟨by omega, by omega, h3, by simp, by omega⟩

theorem all_not {s : ByteArray} {k : Nat} (h : k < s.size) (hd : isDig s[k] = false) : s.data.toList.all isDig = false := by
  rw [List.all_eq_false]
  exact ⟨s[k], by simp [ByteArray.getElem_eq_getElem_data], by simp [hd]⟩

def numV (o : Option Nat) : Value := .tuple #[.int .i64 (o.getD 0 : Nat), .bool o.isSome]
theorem numV_none {o : Option Nat} (h : o = none) : Ending.returned (.tuple #[.int .i64 0, .bool false]) = .returned (numV o) := by subst h; rfl
theorem numV_some {o : Option Nat} {n : Nat} (h : o = some n) : Ending.returned (.tuple #[.int .i64 n, .bool true]) = .returned (numV o) := by subst h; rfl

theorem number_any (s : ByteArray) (w : World) (hl : s.size ≤ 9223372036854775807) :
    Calls Tryz.prog 67 #[.string s] w fun e w' => e = .returned (numV (numSpec s.data.toList)) ∧ Below w.heap.size w w' := by
  have HL := Lib.hid (len_toList s)
  by_cases h1 : s.size < 1
  · go_enter Tryz.func67, Tryz.ntmps67
    go_wp2
    go_ret2
    exact ⟨numV_none (numSpec_short (by rw [HL.out]; exact h1)), Below.refl _ _⟩
  · by_cases h2 : 10 < s.size
    · go_enter Tryz.func67, Tryz.ntmps67
      go_wp2
      go_ret2
      exact ⟨numV_none (numSpec_long (by rw [HL.out]; exact h2)), Below.refl _ _⟩
    · have h0 : 0 < s.size := by omega
      by_cases h3 : s[0].toNat = 48 ∧ 1 < s.size
      · obtain ⟨h3, h4⟩ := h3
        have ht : ((s[0].toNat : Int) == 48) = true := by simp; omega
        have H3 := Lib.hid h3; clear h3
        go_enter Tryz.func67, Tryz.ntmps67
        go_wp2
        go_ret2
        exact ⟨numV_none (numSpec_nought (by rw [head_at s h0]; exact congrArg some (UInt8.toNat_inj.1 H3.out)) (by rw [HL.out]; exact h4)), Below.refl _ _⟩
      · have H3 := Lib.hid h3
        by_cases hb : s[0].toNat = 48
        case' pos =>
          have ht : ((s[0].toNat : Int) == 48) = true := by simp; omega
          have h4 : ¬ 1 < s.size := by omega
        case' neg =>
          have ht : ((s[0].toNat : Int) == 48) = false := by simp; omega
          have h4 : True := trivial
        all_goals
          clear h3 hb
          go_enter Tryz.func67, Tryz.ntmps67
          go_wp2
          clear ht
          go_loopg [4] s.size (fun g n wr => ∃ k N : Nat, k ≤ s.size ∧ g = s.size - k ∧ n = .int .i64 N ∧ wr = w.iter s k ∧ N ≤ 9999999999 ∧ Hid (N = numOf (s.data.toList.take k) ∧ (s.data.toList.take k).all isDig = true))
          case atStart => exact ⟨0, 0, by omega, by omega, rfl, rfl, by omega, rfl, rfl⟩
          case round =>
            obtain ⟨k, N, hk, rfl, rfl, rfl, hN, HN⟩ := hrel
            by_cases hlt : k < s.size
            · have HT := Lib.hid (take_snoc s k hlt)
              by_cases ha : s[k].toNat < 128
              · have hnx : ∀ ty, (Instr.next (.pointer (some ⟨w.heap.size, 0, none⟩)) true ty).run Tryz.prog (w.iter s k) = _ := fun ty => run_next_ascii w s k ty hlt ha
                by_cases hd : 48 ≤ s[k].toNat ∧ s[k].toNat ≤ 57
                · have hd1 := hd.1; have hd2 := hd.2
                  have HD : Hid (isDig s[k] = true) := (isDig_iff _).2 hd
                  clear hd
                  go_wp2
                  go_roundg (s.size - (k + 1))
                  case measure => omega
                  case rel =>
                    have e2 : (s.data.toList.take (k + 1)).all isDig = true := by rw [HT.out, List.all_append, HN.out.2]; simp [HD.out]
                    have e1 : N * 10 + (s[k].toNat - 48) = numOf (s.data.toList.take (k + 1)) := by rw [HT.out, numOf_snoc, HN.out.1]
                    refine ⟨k + 1, N * 10 + (s[k].toNat - 48), by omega, rfl, ?_, rfl, ?_, e1, e2⟩
                    · go_num
                    · rw [e1]; exact numOf_le _ e2 (by simp; omega)
                · have HD : Hid (isDig s[k] = false) := isDig_false hd
                  have hd' : (s[k].toNat : Int) < 48 ∨ 57 < (s[k].toNat : Int) := by omega
                  clear hd
                  rcases hd' with hd | hd
                  all_goals
                    go_wp2
                    go_ret2
                    exact ⟨numV_none (numSpec_other (all_not hlt HD.out)), (Below.refl _ _).alloc (Nat.le_refl _) _⟩
              · have hh := (decode_high s k hlt (by omega)).1
                have HD : Hid (isDig s[k] = false) := isDig_false (by omega)
                have hr := decode_le s k
                have hnx : ∀ ty, (Instr.next (.pointer (some ⟨w.heap.size, 0, none⟩)) true ty).run Tryz.prog (w.iter s k) = _ := fun ty => run_next_any w s k ty hlt
                generalize (Utf8.decode s k).1 = r at hnx hh hr
                go_wp2
                go_ret2
                exact ⟨numV_none (numSpec_other (all_not hlt HD.out)), (Below.refl _ _).alloc (Nat.le_refl _) _⟩
            · have hnx : ∀ ty, (Instr.next (.pointer (some ⟨w.heap.size, 0, none⟩)) true ty).run Tryz.prog (w.iter s k) = _ := fun ty => run_next_end w s k ty hlt
              have HT := Lib.hid (take_all s k hlt)
              by_cases hg : N ≤ 4294967295
              · go_wp2
                go_ret2
                have e1 := HN.out.1
                have e2 := HN.out.2
                rw [HT.out] at e1 e2
                refine ⟨numV_some (n := N) (e1 ▸ numSpec_good (by rw [HL.out]; omega) (by rw [HL.out]; omega) ?_ e2 (by omega)), (Below.refl _ _).alloc (Nat.le_refl _) _⟩
                rw [HL.out, head_at s h0]
                intro hx
                exact H3.out ⟨by rw [Option.some.inj hx.1]; rfl, hx.2⟩
              · go_wp2
                go_ret2
                exact ⟨numV_none (numSpec_great (by have := HN.out.1; rw [HT.out] at this; omega)), (Below.refl _ _).alloc (Nat.le_refl _) _⟩

end Go.Proofs.YtkkdplccneeaiaaGreatDoor

/- Contracts of Trim and of the document's Trim. -/
namespace Go.Proofs.YtkkdplccneeaiaaGreatDoor
open Go Go.RowKit

theorem blk_true {b : UInt8} (h : (b.toNat : Int) = 32 ∨ (b.toNat : Int) = 9) : blk b = true := decide_eq_true h
theorem blk_false {b : UInt8} (h : ¬ ((b.toNat : Int) = 32 ∨ (b.toNat : Int) = 9)) : blk b = false := decide_eq_false h

/-- What the first loop of Trim has cut off is blank; what the second one has cut off, too. -/
theorem trim_step1 {s t : ByteArray} {a b : List UInt8} (h : s.data.toList = a ++ t.data.toList ++ b) (ha : a.all blk = true) (h0 : 0 < t.size) (hb : blk t[0] = true) :
    ∃ a', s.data.toList = a' ++ (t.extract 1 t.size).data.toList ++ b ∧ a'.all blk = true := by
  refine ⟨a ++ [t[0]], ?_, by rw [List.all_append, ha]; simp [hb]⟩
  rw [h, extract_toList]
  have e : t.data.toList = t[0] :: t.data.toList.drop 1 := by
    have h1 := bytes_get t 0 h0
    match hh : t.data.toList, h1 with
    | x :: r, h1 => simp at h1; simp [h1]
  have e2 : (t.data.toList.drop 1).take (t.size - 1) = t.data.toList.drop 1 := List.take_of_length_le (by simp)
  rw [e2]
  conv => lhs; rw [e]
  simp
theorem trim_step2 {s t : ByteArray} {a b : List UInt8} (h : s.data.toList = a ++ t.data.toList ++ b) (hb : b.all blk = true) (h0 : 0 < t.size) (hl : blk (t[t.size - 1]'(by omega)) = true) :
    ∃ b', s.data.toList = a ++ (t.extract 0 (t.size - 1)).data.toList ++ b' ∧ b'.all blk = true := by
  refine ⟨t[t.size - 1]'(by omega) :: b, ?_, by rw [List.all_cons, hl, hb]; rfl⟩
  rw [h, extract_toList]
  have e : t.data.toList = (t.data.toList.drop 0).take (t.size - 1 - 0) ++ [t[t.size - 1]'(by omega)] := by
    have h1 := take_snoc t (t.size - 1) (by omega)
    rw [Nat.sub_add_cancel h0, List.take_of_length_le (by simp)] at h1
    simpa using h1
  conv => lhs; rw [e]
  simp
theorem trim_end {s t : ByteArray} {a b : List UInt8} (h : s.data.toList = a ++ t.data.toList ++ b) (ha : a.all blk = true) (hb : b.all blk = true)
    (h1 : ∀ h0 : 0 < t.size, blk t[0] = false) (h2 : ∀ h0 : 0 < t.size, blk (t[t.size - 1]'(by omega)) = false) : t = ⟨(trimS s.data.toList).toArray⟩ := by
  apply bytes_eq
  rw [h, trim_of a t.data.toList b ha hb]
  · intro x hx
    have h0 : 0 < t.size := by
      rw [bytes_len]
      match t.data.toList, hx with
      | y :: r, _ => simp
    rw [head_at t h0] at hx
    rw [← Option.some.inj hx]
    exact h1 h0
  · intro x hx
    have h0 : 0 < t.size := by
      rw [bytes_len]
      match t.data.toList, hx with
      | y :: r, _ => simp
    rw [List.getLast?_eq_getElem?, ← bytes_len, bytes_get t (t.size - 1) (by omega)] at hx
    rw [← Option.some.inj hx]
    exact h2 h0

theorem extract_first (u : ByteArray) (n : Nat) (h : 0 < (u.extract 0 n).size) (h0 : 0 < u.size) : (u.extract 0 n)[0] = u[0] := by
  have h1 := bytes_get _ 0 h
  have h2 := bytes_get u 0 h0
  rw [extract_toList, List.getElem?_take] at h1
  split at h1
  · rw [List.drop_zero, h2] at h1
    exact (Option.some.inj h1).symm
  · cases h1

theorem cut_three (s : ByteArray) (k t : Nat) (h : k ≤ t) : s.data.toList = s.data.toList.take k ++ (s.extract k t).data.toList ++ s.data.toList.drop t := by
  rw [extract_toList]
  have e1 : s.data.toList.drop t = (s.data.toList.drop k).drop (t - k) := by rw [List.drop_drop]; congr 1; omega
  rw [e1, List.append_assoc, List.take_append_drop, List.take_append_drop]

theorem refTrim_end {s : ByteArray} {k t : Nat} (hkt : k ≤ t) (ht : t ≤ s.size) (ha : (s.data.toList.take k).all blk = true) (hb : (s.data.toList.drop t).all blk = true)
    (h1 : ∀ h0 : k < s.size, k < t → blk s[k] = false) (h2 : ∀ h0 : k < t, blk (s[t - 1]'(by omega)) = false) : s.extract k t = ⟨(trimS s.data.toList).toArray⟩ := by
  have hz := extract_size' s k t ht
  refine trim_end (cut_three s k t hkt) ha hb ?_ ?_
  · intro h0
    have h0' : k < s.size := by omega
    have := extract_at s k t 0 h0 h0'
    rw [this]
    exact h1 h0' (by omega)
  · intro h0
    have h0' : k < s.size := by omega
    have := extract_at s k t ((s.extract k t).size - 1) (by omega) (by omega)
    rw [this]
    have e : k + ((s.extract k t).size - 1) = t - 1 := by omega
    have := h2 (by omega)
    simpa only [e] using this

theorem all_take_step {s : ByteArray} {k : Nat} (h : k < s.size) (ha : (s.data.toList.take k).all blk = true) (hb : blk s[k] = true) : (s.data.toList.take (k + 1)).all blk = true := by
  rw [take_snoc s k h, List.all_append, ha]
  simp [hb]
theorem all_drop_step {s : ByteArray} {t : Nat} (h0 : 0 < t) (h : t ≤ s.size) (ha : (s.data.toList.drop t).all blk = true) (hb : blk (s[t - 1]'(by omega)) = true) : (s.data.toList.drop (t - 1)).all blk = true := by
  have hl : t - 1 < s.data.toList.length := by rw [← bytes_len]; omega
  rw [List.drop_eq_getElem_cons hl, List.all_cons, Nat.sub_add_cancel h0, ha]
  have : s.data.toList[t - 1] = s[t - 1]'(by omega) := rfl
  rw [this, hb]
  rfl

theorem not_blank_bools {c : Int} (h : ¬ (c = 32 ∨ c = 9)) : (c == 32) = false ∧ (c == 9) = false := by
  constructor
  · simp; omega
  · simp; omega

end Go.Proofs.YtkkdplccneeaiaaGreatDoor

/- Contracts of Same, Fold and the document's Fold. -/
namespace Go.Proofs.YtkkdplccneeaiaaGreatDoor
open Go Go.RowKit

theorem lowI_nat (b : UInt8) : lowI (b.toNat : Int) = ((lowB b).toNat : Int) := by
  unfold lowI
  rw [lowB_toNat]
  by_cases h : 65 ≤ b.toNat ∧ b.toNat ≤ 90
  · rw [if_pos (by omega), if_pos h]; omega
  · rw [if_neg (by omega), if_neg h]
theorem fold_eq_of {a b : ByteArray} (hn : a.size = b.size) (h : ∀ j, (h1 : j < a.size) → (h2 : j < b.size) → lowB a[j] = lowB b[j]) : foldS a.data.toList = foldS b.data.toList := by
  unfold foldS
  apply List.ext_getElem
  · simpa using hn
  · intro i h1 h2
    simp only [List.getElem_map]
    exact h i (by simpa using h1) (by simpa using h2)
theorem fold_ne_of {a b : ByteArray} {j : Nat} (h1 : j < a.size) (h2 : j < b.size) (h : ¬ lowB a[j] = lowB b[j]) : ¬ foldS a.data.toList = foldS b.data.toList := by
  intro e
  apply h
  have := congrArg (fun l => l[j]?) e
  simp only [foldS, List.getElem?_map, bytes_get a j h1, bytes_get b j h2] at this
  exact Option.some.inj this
theorem fold_ne_len {a b : ByteArray} (h : ¬ a.size = b.size) : ¬ foldS a.data.toList = foldS b.data.toList := by
  intro e
  apply h
  have := congrArg List.length e
  simpa [foldS] using this

theorem foldS_set (l : List UInt8) (k : Nat) (h : k < l.length) : (foldS (l.take k) ++ l.drop k).set k (lowB l[k]) = foldS (l.take (k + 1)) ++ l.drop (k + 1) := by
  unfold foldS
  rw [List.set_append_right _ _ (by simp; omega), List.take_succ_eq_append_getElem h, List.drop_eq_getElem_cons h]
  have e : k - (l.take k |>.map lowB).length = 0 := by simp; omega
  rw [e, List.set_cons_zero, List.map_append, List.append_assoc]
  rfl

theorem Tryz.infoU8 : (Tryz.prog.info? 5).map (fun i => (i.zero, i.size, i.bytes)) = some (some (.int .u8 0), 1, 1) := by kernel_rfl

end Go.Proofs.YtkkdplccneeaiaaGreatDoor
