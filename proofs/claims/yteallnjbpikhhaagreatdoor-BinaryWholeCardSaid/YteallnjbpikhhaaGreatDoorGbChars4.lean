/- Contracts of the functions of package chars and of the document's answers to them: single bytes. -/
import Derived.Test.YteallnjbpikhhaaGreatDoorProg
import Derived.Test.YteallnjbpikhhaaGreatDoorKit
import Derived.WalkKit
import Derived.WalkSpells
import Derived.BigQuiet
import Derived.Deep.QuietTactic
import Derived.Deep.LoopGhost
import Derived.Lib.Hide
import Derived.Test.YteallnjbpikhhaaGreatDoorGbHdrM
import Derived.Laws.IdiomStrings
namespace Go.Proofs.YteallnjbpikhhaaGreatDoor
open Go Go.RowKit

/-- A letter's small one. -/
def lowI (c : Int) : Int := if 65 ≤ c ∧ c ≤ 90 then c + 32 else c

theorem lower_any (c : Int) (w : World) (h0 : 0 ≤ c) (h1 : c ≤ 255) :
    Calls Tryz.prog 40 #[.int .u8 c] w fun e w' => e = .returned (.int .u8 (lowI c)) ∧ w = w' := by
  by_cases a : 65 ≤ c
  · by_cases b : c ≤ 90
    · go_enter Tryz.func40, Tryz.ntmps40
      go_wp2
      go_ret
      exact ⟨ret_int (by unfold lowI; rw [if_pos ⟨a, b⟩]; omega), rfl⟩
    · go_enter Tryz.func40, Tryz.ntmps40
      go_wp2
      go_ret
      exact ⟨ret_int (by unfold lowI; rw [if_neg (by omega)]), rfl⟩
  · go_enter Tryz.func40, Tryz.ntmps40
    go_wp2
    go_ret
    exact ⟨ret_int (by unfold lowI; rw [if_neg (by omega)]), rfl⟩

theorem up_at : ∀ k, (h : k < 26) → (((⟨#[65, 66, 67, 68, 69, 70, 71, 72, 73, 74, 75, 76, 77, 78, 79, 80, 81, 82, 83, 84, 85, 86, 87, 88, 89, 90]⟩ : ByteArray)[k]'h).toNat) = 65 + k := by decide
theorem low_at : ∀ k, (h : k < 26) → (((⟨#[97, 98, 99, 100, 101, 102, 103, 104, 105, 106, 107, 108, 109, 110, 111, 112, 113, 114, 115, 116, 117, 118, 119, 120, 121, 122]⟩ : ByteArray)[k]'h).toNat) = 97 + k := by decide

theorem seen_any (c : Int) (w : World) (h0 : 0 ≤ c) (h1 : c ≤ 255) :
    Calls Tryz.prog 155 #[.int .u8 c] w fun e w' => e = .returned (.bool (decide (33 ≤ c ∧ c ≤ 126))) ∧ w = w' := by
  by_cases a : 33 ≤ c
  · go_enter Tryz.func155, Tryz.ntmps155
    go_wp2
    go_ret
    exact ⟨ret_bool (by simp [a]), rfl⟩
  · go_enter Tryz.func155, Tryz.ntmps155
    go_wp2
    go_ret
    exact ⟨ret_bool (by simp; omega), rfl⟩

theorem blank_any (c : Int) (w : World) :
    Calls Tryz.prog 63 #[.int .u8 c] w fun e w' => e = .returned (.bool (decide (c = 32 ∨ c = 9))) ∧ w = w' := by
  by_cases a : c = 32
  · have ha : (c == 32) = true := by simp [a]
    clear a
    go_enter Tryz.func63, Tryz.ntmps63
    go_wp2
    go_ret
    exact ⟨ret_bool (by simp at ha; simp [ha]), rfl⟩
  · have ha : (c == 32) = false := by simp [a]
    clear a
    go_enter Tryz.func63, Tryz.ntmps63
    go_wp2
    go_ret
    exact ⟨ret_bool (by simp at ha; simp [ha]; rfl), rfl⟩

/-- Is a byte among those of a text? -/
def hasI (s : ByteArray) (c : Int) : Bool := s.data.toList.any fun b => (b.toNat : Int) == c

theorem hasI_at {s : ByteArray} {c : Int} {k : Nat} (h : k < s.size) (e : (s[k].toNat : Int) = c) : hasI s c = true := by
  unfold hasI
  rw [List.any_eq_true]
  exact ⟨s[k], by simp [ByteArray.getElem_eq_getElem_data], by simpa using e⟩

theorem hasI_not {s : ByteArray} {c : Int} (h : ∀ k, (hk : k < s.size) → (s[k].toNat : Int) ≠ c) : hasI s c = false := by
  unfold hasI
  rw [List.any_eq_false]
  intro b hb
  obtain ⟨k, hk, rfl⟩ := List.getElem_of_mem hb
  have := h k (by simpa using hk)
  simpa [ByteArray.getElem_eq_getElem_data] using this

theorem among_any (c : Int) (s : ByteArray) (w : World) (h0 : 0 ≤ c) (h1 : c ≤ 255) (hs : ∀ k, (h : k < s.size) → s[k].toNat < 128) (hl : s.size ≤ 9223372036854775807) :
    Calls Tryz.prog 156 #[.int .u8 c, .string s] w fun e w' => e = .returned (.bool (hasI s c)) ∧ ∃ p, w' = w.iter s p := by
  go_enter Tryz.func156, Tryz.ntmps156
  go_wp2
  go_loopg [6] s.size (fun g _ wr => ∃ k : Nat, k ≤ s.size ∧ g = s.size - k ∧ wr = w.iter s k ∧ Hid (∀ j, (h : j < s.size) → j < k → (s[j].toNat : Int) ≠ c))
  case atStart => exact ⟨0, by omega, by omega, rfl, fun j _ hj => by omega⟩
  case round =>
    obtain ⟨k, hk, rfl, rfl, HC⟩ := hrel
    by_cases hlt : k < s.size
    · have hnx : ∀ ty, (Instr.next (.pointer (some ⟨w.heap.size, 0, none⟩)) true ty).run Tryz.prog (w.iter s k) = _ := fun ty => run_next_ascii w s k ty hlt (hs k hlt)
      have hb := hs k hlt
      clear hs
      by_cases hq : (s[k].toNat : Int) = c
      · have ht : ((s[k].toNat : Int) == c) = true := by simpa using hq
        have H := Lib.hid hq; clear hq
        go_wp2
        go_ret
        exact ⟨ret_bool (hasI_at hlt H.out).symm, _, rfl⟩
      · have ht : ((s[k].toNat : Int) == c) = false := by simpa using hq
        have H := Lib.hid hq; clear hq
        go_wp2
        go_roundg (s.size - (k + 1))
        case measure => omega
        case rel =>
          refine ⟨k + 1, by omega, rfl, rfl, ?_⟩
          intro j hj hjk
          by_cases e : j = k
          · subst e; exact H.out
          · exact HC.out j hj (by omega)
    · have hnx : ∀ ty, (Instr.next (.pointer (some ⟨w.heap.size, 0, none⟩)) true ty).run Tryz.prog (w.iter s k) = _ := fun ty => run_next_end w s k ty hlt
      go_wp2
      go_ret
      exact ⟨ret_bool (hasI_not fun j hj => HC.out j hj (by omega)).symm, _, rfl⟩

end Go.Proofs.YteallnjbpikhhaaGreatDoor

/- Contracts of Number, of the document's Number, and what a number's text is. -/
namespace Go.Proofs.YteallnjbpikhhaaGreatDoor
open Go Go.RowKit

def isDig (b : UInt8) : Bool := decide (48 ≤ (b.toNat : Int) ∧ (b.toNat : Int) ≤ 57)
def numOf (l : List UInt8) : Nat := l.foldl (fun n b => n * 10 + (b.toNat - 48)) 0
def numSpec (l : List UInt8) : Option Nat :=
  if l.length < 1 ∨ 10 < l.length ∨ (l.head? = some 48 ∧ 1 < l.length) ∨ l.all isDig = false ∨ 4294967295 < numOf l then none else some (numOf l)

theorem numOf_snoc (l : List UInt8) (b : UInt8) : numOf (l ++ [b]) = numOf l * 10 + (b.toNat - 48) := by simp [numOf]
theorem isDig_iff (b : UInt8) : isDig b = true ↔ 48 ≤ b.toNat ∧ b.toNat ≤ 57 := by unfold isDig; simp; omega

theorem isDig_false {b : UInt8} (h : ¬ (48 ≤ b.toNat ∧ b.toNat ≤ 57)) : isDig b = false := by have := mt (isDig_iff b).1 h; simpa using this
theorem numOf_lt' (l : List UInt8) (h : l.all isDig = true) (a : Nat) : l.foldl (fun n b => n * 10 + (b.toNat - 48)) a < (a + 1) * 10 ^ l.length := by
  induction l generalizing a with
  | nil => simp
  | cons b l ih =>
    rw [List.all_cons, Bool.and_eq_true] at h
    have h2 := (isDig_iff b).1 h.1
    have h1 := ih h.2 (a * 10 + (b.toNat - 48))
    rw [List.foldl_cons, List.length_cons, Nat.pow_succ, Nat.mul_comm (10 ^ _) 10, ← Nat.mul_assoc]
    exact Nat.lt_of_lt_of_le h1 (Nat.mul_le_mul_right _ (by omega))
theorem numOf_lt (l : List UInt8) (h : l.all isDig = true) : numOf l < 10 ^ l.length := by
  have := numOf_lt' l h 0
  simpa [numOf] using this
theorem numOf_le (l : List UInt8) (h : l.all isDig = true) (hl : l.length ≤ 10) : numOf l ≤ 9999999999 := by
  have h1 := numOf_lt l h
  have h2 : 10 ^ l.length ≤ 10 ^ 10 := Nat.pow_le_pow_right (by decide) hl
  omega
theorem numSpec_short {l : List UInt8} (h : l.length < 1) : numSpec l = none := by unfold numSpec; rw [if_pos (.inl h)]
theorem numSpec_long {l : List UInt8} (h : 10 < l.length) : numSpec l = none := by unfold numSpec; rw [if_pos (.inr (.inl h))]
theorem numSpec_nought {l : List UInt8} (h : l.head? = some 48) (h1 : 1 < l.length) : numSpec l = none := by unfold numSpec; rw [if_pos (.inr (.inr (.inl ⟨h, h1⟩)))]
theorem numSpec_other {l : List UInt8} (h : l.all isDig = false) : numSpec l = none := by unfold numSpec; rw [if_pos (.inr (.inr (.inr (.inl h))))]
theorem numSpec_great {l : List UInt8} (h : 4294967295 < numOf l) : numSpec l = none := by unfold numSpec; rw [if_pos (.inr (.inr (.inr (.inr h))))]
theorem numSpec_good {l : List UInt8} (h1 : 1 ≤ l.length) (h2 : l.length ≤ 10) (h3 : ¬ (l.head? = some 48 ∧ 1 < l.length)) (h4 : l.all isDig = true) (h5 : numOf l ≤ 4294967295) : numSpec l = some (numOf l) := by
  unfold numSpec
  rw [if_neg]
  simp only [h4]
  simp only [not_or]
  exact ⟨by omega, by omega, h3, by simp, by omega⟩

theorem all_not {s : ByteArray} {k : Nat} (h : k < s.size) (hd : isDig s[k] = false) : s.data.toList.all isDig = false := by
  rw [List.all_eq_false]
  exact ⟨s[k], by simp [ByteArray.getElem_eq_getElem_data], by simp [hd]⟩

def numV (o : Option Nat) : Value := .tuple #[.int .i64 (o.getD 0 : Nat), .bool o.isSome]
theorem numV_none {o : Option Nat} (h : o = none) : Ending.returned (.tuple #[.int .i64 0, .bool false]) = .returned (numV o) := by subst h; rfl
theorem numV_some {o : Option Nat} {n : Nat} (h : o = some n) : Ending.returned (.tuple #[.int .i64 n, .bool true]) = .returned (numV o) := by subst h; rfl

end Go.Proofs.YteallnjbpikhhaaGreatDoor

/- Contracts of Trim and of the document's Trim. -/
namespace Go.Proofs.YteallnjbpikhhaaGreatDoor
open Go Go.RowKit

theorem blank_yes (c : Int) (w : World) (h : c = 32 ∨ c = 9) :
    Calls Tryz.prog 63 #[.int .u8 c] w fun e w' => e = .returned (.bool true) ∧ w = w' :=
  (blank_any c w).mono fun _ _ ⟨he, hw⟩ => ⟨by rw [he, decide_eq_true h], hw⟩
theorem blank_no (c : Int) (w : World) (h : ¬ (c = 32 ∨ c = 9)) :
    Calls Tryz.prog 63 #[.int .u8 c] w fun e w' => e = .returned (.bool false) ∧ w = w' :=
  (blank_any c w).mono fun _ _ ⟨he, hw⟩ => ⟨by rw [he, decide_eq_false h], hw⟩

theorem blk_true {b : UInt8} (h : (b.toNat : Int) = 32 ∨ (b.toNat : Int) = 9) : blk b = true := decide_eq_true h
theorem blk_false {b : UInt8} (h : ¬ ((b.toNat : Int) = 32 ∨ (b.toNat : Int) = 9)) : blk b = false := decide_eq_false h

/-- What the first loop of Trim has cut off is blank; what the second one has cut off, too. -/
theorem trim_step1 {s t : ByteArray} {a b : List UInt8} (h : s.data.toList = a ++ t.data.toList ++ b) (ha : a.all blk = true) (h0 : 0 < t.size) (hb : blk t[0] = true) :
    ∃ a', s.data.toList = a' ++ (t.extract 1 t.size).data.toList ++ b ∧ a'.all blk = true := by
  refine ⟨a ++ [t[0]], ?_, by rw [List.all_append, ha]; simp [hb]⟩
  rw [h, extract_toList]
  have e : t.data.toList = t[0] :: t.data.toList.drop 1 := by
    have h1 := bytes_get t 0 h0
    match hh : t.data.toList, h1 with
    | x :: r, h1 => simp at h1; simp [h1]
  have e2 : (t.data.toList.drop 1).take (t.size - 1) = t.data.toList.drop 1 := List.take_of_length_le (by simp)
  rw [e2]
  conv => lhs; rw [e]
  simp
theorem trim_step2 {s t : ByteArray} {a b : List UInt8} (h : s.data.toList = a ++ t.data.toList ++ b) (hb : b.all blk = true) (h0 : 0 < t.size) (hl : blk (t[t.size - 1]'(by omega)) = true) :
    ∃ b', s.data.toList = a ++ (t.extract 0 (t.size - 1)).data.toList ++ b' ∧ b'.all blk = true := by
  refine ⟨t[t.size - 1]'(by omega) :: b, ?_, by rw [List.all_cons, hl, hb]; rfl⟩
  rw [h, extract_toList]
  have e : t.data.toList = (t.data.toList.drop 0).take (t.size - 1 - 0) ++ [t[t.size - 1]'(by omega)] := by
    have h1 := take_snoc t (t.size - 1) (by omega)
    rw [Nat.sub_add_cancel h0, List.take_of_length_le (by simp)] at h1
    simpa using h1
  conv => lhs; rw [e]
  simp
theorem trim_end {s t : ByteArray} {a b : List UInt8} (h : s.data.toList = a ++ t.data.toList ++ b) (ha : a.all blk = true) (hb : b.all blk = true)
    (h1 : ∀ h0 : 0 < t.size, blk t[0] = false) (h2 : ∀ h0 : 0 < t.size, blk (t[t.size - 1]'(by omega)) = false) : t = ⟨(trimS s.data.toList).toArray⟩ := by
  apply bytes_eq
  rw [h, trim_of a t.data.toList b ha hb]
  · intro x hx
    have h0 : 0 < t.size := by
      rw [bytes_len]
      match t.data.toList, hx with
      | y :: r, _ => simp
    rw [head_at t h0] at hx
    rw [← Option.some.inj hx]
    exact h1 h0
  · intro x hx
    have h0 : 0 < t.size := by
      rw [bytes_len]
      match t.data.toList, hx with
      | y :: r, _ => simp
    rw [List.getLast?_eq_getElem?, ← bytes_len, bytes_get t (t.size - 1) (by omega)] at hx
    rw [← Option.some.inj hx]
    exact h2 h0

theorem extract_first (u : ByteArray) (n : Nat) (h : 0 < (u.extract 0 n).size) (h0 : 0 < u.size) : (u.extract 0 n)[0] = u[0] := by
  have h1 := bytes_get _ 0 h
  have h2 := bytes_get u 0 h0
  rw [extract_toList, List.getElem?_take] at h1
  split at h1
  · rw [List.drop_zero, h2] at h1
    exact (Option.some.inj h1).symm
  · cases h1

theorem trim_any (s : ByteArray) (w : World) (hl : s.size ≤ 9223372036854775807) :
    Calls Tryz.prog 68 #[.string s] w fun e w' => e = .returned (.string ⟨(trimS s.data.toList).toArray⟩) ∧ w = w' := by
  go_enter Tryz.func68, Tryz.ntmps68
  go_wp2
  go_loopg [0] s.size (fun g v wr => ∃ t : ByteArray, t.size ≤ s.size ∧ g = t.size ∧ v = .string t ∧ w = wr ∧ Hid (∃ a, s.data.toList = a ++ t.data.toList ++ [] ∧ a.all blk = true))
  case atStart => exact ⟨s, by omega, rfl, rfl, rfl, [], by simp, rfl⟩
  case round =>
    obtain ⟨t, ht, rfl, rfl, rfl, HA⟩ := hrel
    have HX := Lib.hid (extract_size' t 1 t.size (by omega))
    by_cases hc : ∃ h0 : 0 < t.size, (t[0].toNat : Int) = 32 ∨ (t[0].toNat : Int) = 9
    · obtain ⟨h0, hb⟩ := hc
      have HB := Lib.hid hb
      clear hb
      go_wp2_with (go_at_call 63; refine (blank_yes _ _ HB.out).mono ?_; rintro e w' ⟨rfl, rfl⟩)
      go_roundg ((t.extract 1 t.size).size)
      case measure => rw [HX.out]; omega
      case rel =>
        obtain ⟨a, h1, h2⟩ := HA.out
        exact ⟨_, by rw [HX.out]; omega, rfl, rfl, rfl, trim_step1 h1 h2 h0 (blk_true HB.out)⟩
    have hc' : ¬ 0 < t.size ∨ (∃ h0 : 0 < t.size, ¬ ((t[0].toNat : Int) = 32 ∨ (t[0].toNat : Int) = 9)) := by
      by_cases h0 : 0 < t.size
      · exact .inr ⟨h0, fun h => hc ⟨h0, h⟩⟩
      · exact .inl h0
    clear hc
    rcases hc' with h0 | ⟨h0, hb⟩
    case' inr =>
      have HB := Lib.hid hb
      have HF : Hid (∀ h0 : 0 < t.size, blk t[0] = false) := fun _ => blk_false hb
      clear hb
      go_wp2_with (go_at_call 63; refine (blank_no _ _ HB.out).mono ?_; rintro e w' ⟨rfl, rfl⟩)
      clear HB HX
    case' inl =>
      have HF : Hid (∀ h0 : 0 < t.size, blk t[0] = false) := fun h => (h0 h).elim
      go_wp2_with fail
      clear HX
    all_goals
      skip
      go_loopg [0] s.size (fun g v wr => ∃ u : ByteArray, u.size ≤ s.size ∧ u.size ≤ g ∧ v = .string u ∧ w = wr ∧ Hid (∃ a b, s.data.toList = a ++ u.data.toList ++ b ∧ a.all blk = true ∧ b.all blk = true ∧ (∀ h0 : 0 < u.size, blk u[0] = false)))
      case atStart =>
        refine ⟨t, by omega, by omega, rfl, rfl, ?_⟩
        obtain ⟨a, h1, h2⟩ := HA.out
        exact ⟨a, [], h1, h2, rfl, HF.out⟩
      case round =>
        clear HA HF ht
        obtain ⟨u, hu, hg, rfl, rfl, HA⟩ := hrel
        have HX := Lib.hid (extract_size' u 0 (u.size - 1) (by omega))
        by_cases h0 : 0 < u.size
        · by_cases hb : ((u[u.size - 1]'(by omega)).toNat : Int) = 32 ∨ ((u[u.size - 1]'(by omega)).toNat : Int) = 9
          · have HB := Lib.hid hb
            clear hb
            go_wp2_with (go_at_call 63; refine (blank_yes _ _ HB.out).mono ?_; rintro e w' ⟨rfl, rfl⟩)
            go_roundg (gk - 1)
            case measure => omega
            case rel =>
              obtain ⟨a, b, h1, h2, h3, h4⟩ := HA.out
              obtain ⟨b', h5, h6⟩ := trim_step2 h1 h3 h0 (blk_true HB.out)
              refine ⟨_, by rw [HX.out]; omega, by rw [HX.out]; omega, rfl, rfl, a, b', h5, h2, h6, ?_⟩
              intro hx
              rw [extract_first u (u.size - 1) hx h0]
              exact h4 h0
          · have HB := Lib.hid hb
            clear hb
            go_wp2_with (go_at_call 63; refine (blank_no _ _ HB.out).mono ?_; rintro e w' ⟨rfl, rfl⟩)
            go_ret
            obtain ⟨a, b, h1, h2, h3, h4⟩ := HA.out
            exact ⟨ret_str (trim_end h1 h2 h3 h4 (fun _ => blk_false HB.out)), rfl⟩
        · go_wp2_with fail
          go_ret
          obtain ⟨a, b, h1, h2, h3, h4⟩ := HA.out
          exact ⟨ret_str (trim_end h1 h2 h3 h4 (fun h => (h0 h).elim)), rfl⟩

theorem cut_three (s : ByteArray) (k t : Nat) (h : k ≤ t) : s.data.toList = s.data.toList.take k ++ (s.extract k t).data.toList ++ s.data.toList.drop t := by
  rw [extract_toList]
  have e1 : s.data.toList.drop t = (s.data.toList.drop k).drop (t - k) := by rw [List.drop_drop]; congr 1; omega
  rw [e1, List.append_assoc, List.take_append_drop, List.take_append_drop]

theorem refTrim_end {s : ByteArray} {k t : Nat} (hkt : k ≤ t) (ht : t ≤ s.size) (ha : (s.data.toList.take k).all blk = true) (hb : (s.data.toList.drop t).all blk = true)
    (h1 : ∀ h0 : k < s.size, k < t → blk s[k] = false) (h2 : ∀ h0 : k < t, blk (s[t - 1]'(by omega)) = false) : s.extract k t = ⟨(trimS s.data.toList).toArray⟩ := by
  have hz := extract_size' s k t ht
  refine trim_end (cut_three s k t hkt) ha hb ?_ ?_
  · intro h0
    have h0' : k < s.size := by omega
    have := extract_at s k t 0 h0 h0'
    rw [this]
    exact h1 h0' (by omega)
  · intro h0
    have h0' : k < s.size := by omega
    have := extract_at s k t ((s.extract k t).size - 1) (by omega) (by omega)
    rw [this]
    have e : k + ((s.extract k t).size - 1) = t - 1 := by omega
    have := h2 (by omega)
    simpa only [e] using this

theorem all_take_step {s : ByteArray} {k : Nat} (h : k < s.size) (ha : (s.data.toList.take k).all blk = true) (hb : blk s[k] = true) : (s.data.toList.take (k + 1)).all blk = true := by
  rw [take_snoc s k h, List.all_append, ha]
  simp [hb]
theorem all_drop_step {s : ByteArray} {t : Nat} (h0 : 0 < t) (h : t ≤ s.size) (ha : (s.data.toList.drop t).all blk = true) (hb : blk (s[t - 1]'(by omega)) = true) : (s.data.toList.drop (t - 1)).all blk = true := by
  have hl : t - 1 < s.data.toList.length := by rw [← bytes_len]; omega
  rw [List.drop_eq_getElem_cons hl, List.all_cons, Nat.sub_add_cancel h0, ha]
  have : s.data.toList[t - 1] = s[t - 1]'(by omega) := rfl
  rw [this, hb]
  rfl

theorem not_blank_bools {c : Int} (h : ¬ (c = 32 ∨ c = 9)) : (c == 32) = false ∧ (c == 9) = false := by
  constructor
  · simp; omega
  · simp; omega

end Go.Proofs.YteallnjbpikhhaaGreatDoor

/- Contracts of Same, Fold and the document's Fold. -/
namespace Go.Proofs.YteallnjbpikhhaaGreatDoor
open Go Go.RowKit

theorem lowI_nat (b : UInt8) : lowI (b.toNat : Int) = ((lowB b).toNat : Int) := by
  unfold lowI
  rw [lowB_toNat]
  by_cases h : 65 ≤ b.toNat ∧ b.toNat ≤ 90
  · rw [if_pos (by omega), if_pos h]; omega
  · rw [if_neg (by omega), if_neg h]
theorem lowerB_any (b : UInt8) (w : World) :
    Calls Tryz.prog 40 #[.int .u8 b.toNat] w fun e w' => e = .returned (.int .u8 (lowB b).toNat) ∧ w = w' := by
  have h := lower_any b.toNat w (by omega) (by have := b.toNat_lt; omega)
  rw [lowI_nat] at h
  exact h
theorem fold_eq_of {a b : ByteArray} (hn : a.size = b.size) (h : ∀ j, (h1 : j < a.size) → (h2 : j < b.size) → lowB a[j] = lowB b[j]) : foldS a.data.toList = foldS b.data.toList := by
  unfold foldS
  apply List.ext_getElem
  · simpa using hn
  · intro i h1 h2
    simp only [List.getElem_map]
    exact h i (by simpa using h1) (by simpa using h2)
theorem fold_ne_of {a b : ByteArray} {j : Nat} (h1 : j < a.size) (h2 : j < b.size) (h : ¬ lowB a[j] = lowB b[j]) : ¬ foldS a.data.toList = foldS b.data.toList := by
  intro e
  apply h
  have := congrArg (fun l => l[j]?) e
  simp only [foldS, List.getElem?_map, bytes_get a j h1, bytes_get b j h2] at this
  exact Option.some.inj this
theorem fold_ne_len {a b : ByteArray} (h : ¬ a.size = b.size) : ¬ foldS a.data.toList = foldS b.data.toList := by
  intro e
  apply h
  have := congrArg List.length e
  simpa [foldS] using this

theorem same_any (a b : ByteArray) (w : World) (hl : a.size ≤ 9223372036854775807) :
    Calls Tryz.prog 66 #[.string a, .string b] w fun e w' => e = .returned (.bool (decide (foldS a.data.toList = foldS b.data.toList))) ∧ ∃ n, w' = w.drewN n := by
  by_cases hn : a.size = b.size
  · have HN := Lib.hid hn
    have hn1 : b.size ≤ a.size := by omega
    have hn2 : a.size ≤ b.size := by omega
    have ht : ((a.size : Int) != (b.size : Int)) = false := by simp; omega
    clear hn
    go_enter Tryz.func66, Tryz.ntmps66
    go_wp2
    clear ht
    go_loopg [5] a.size (fun g v wr => ∃ k : Nat, k ≤ a.size ∧ g = a.size - k ∧ v = .int .i64 k ∧ Hid (∃ n, wr = w.drewN n) ∧ Hid (∀ j, (h1 : j < a.size) → (h2 : j < b.size) → j < k → lowB a[j] = lowB b[j]))
    case atStart => exact ⟨0, by omega, rfl, rfl, ⟨0, rfl⟩, fun j _ _ h => by omega⟩
    case round =>
      obtain ⟨k, hk, rfl, rfl, HW, HA⟩ := hrel
      by_cases hlt : k < a.size
      · have hlt2 : k < b.size := by omega
        by_cases he : lowB a[k] = lowB b[k]
        case' pos => have ht : (((lowB a[k]).toNat : Int) != ((lowB b[k]).toNat : Int)) = false := by rw [he]; simp
        case' neg => have ht : (((lowB a[k]).toNat : Int) != ((lowB b[k]).toNat : Int)) = true := by { have : ¬ (lowB a[k]).toNat = (lowB b[k]).toNat := fun h => he (UInt8.toNat_inj.1 h); simp; omega }
        all_goals
          have HE := Lib.hid he
          clear he
          go_wp2_with fail
          go_quiet ((go_at_call 40; exact quiet_same' (lowerB_any _ _)))
          go_wp2
        · go_ret
          refine ⟨ret_bool (decide_eq_false (fold_ne_of hlt hlt2 HE.out)).symm, ?_⟩
          obtain ⟨n, rfl⟩ := HW.out
          exact ⟨n + nq, World.drewN_drewN _ _ _⟩
        · go_roundg (a.size - (k + 1))
          case measure => omega
          case rel =>
            refine ⟨k + 1, by omega, rfl, by go_num, ?_, ?_⟩
            · obtain ⟨n, rfl⟩ := HW.out
              exact ⟨n + nq, World.drewN_drewN _ _ _⟩
            · intro j h1 h2 h3
              by_cases e : j = k
              · subst e; exact HE.out
              · exact HA.out j h1 h2 (by omega)
      · go_wp2
        go_ret
        exact ⟨ret_bool (decide_eq_true (fold_eq_of HN.out fun j h1 h2 => HA.out j h1 h2 (by omega))).symm, HW.out⟩
  · have ht : ((a.size : Int) != (b.size : Int)) = true := by simp; omega
    have HN := Lib.hid hn
    clear hn
    go_enter Tryz.func66, Tryz.ntmps66
    go_wp2
    go_ret
    exact ⟨ret_bool (decide_eq_false (fold_ne_len HN.out)).symm, 0, rfl⟩
theorem foldS_set (l : List UInt8) (k : Nat) (h : k < l.length) : (foldS (l.take k) ++ l.drop k).set k (lowB l[k]) = foldS (l.take (k + 1)) ++ l.drop (k + 1) := by
  unfold foldS
  rw [List.set_append_right _ _ (by simp; omega), List.take_succ_eq_append_getElem h, List.drop_eq_getElem_cons h]
  have e : k - (l.take k |>.map lowB).length = 0 := by simp; omega
  rw [e, List.set_cons_zero, List.map_append, List.append_assoc]
  rfl

theorem fold_any (s : ByteArray) (w : World) (hl : s.size ≤ 9223372036854775807) :
    Calls Tryz.prog 24 #[.string s] w fun e w' => e = .returned (.string ⟨(foldS s.data.toList).toArray⟩) ∧ Below w.heap.size w w' := by
  have hconv := fun w => run_bytes_of_string (P := Tryz.prog) w 9 22 5 s Tryz.underlying9 Tryz.underlying22 Tryz.underlying5
  have HR := Lib.hid (fun cap o => rowAt_bytes w.drew s cap 5 o)
  go_enter Tryz.func24, Tryz.ntmps24
  go_wp2
  go_loopg [10] s.size (fun g v wr => ∃ k : Nat, k ≤ s.size ∧ g = s.size - k ∧ v = .int .i64 k ∧ Hid (rowAt wr w.heap.size 5 ((foldS (s.data.toList.take k) ++ s.data.toList.drop k).map byteV)) ∧ Hid (Below w.heap.size w wr))
  case atStart => exact ⟨0, by omega, rfl, rfl, HR.out _ _, ((Below.refl _ _).alloc (Nat.le_refl _) _).drew⟩
  case round =>
    obtain ⟨k, hk, rfl, rfl, HA, HB⟩ := hrel
    clear HR
    by_cases hlt : k < s.size
    · have hk' : k < ((foldS (s.data.toList.take k) ++ s.data.toList.drop k).map byteV).length := by simp [foldS]; omega
      have hcell : wr.cell? ⟨w.heap.size, k, none⟩ = some (.int .u8 (s[k].toNat : Int)) := by
        rw [HA.out.cell k hk']
        simp [foldS, drop_cons s k hlt, byteV, Nat.min_eq_left hk]
      have hfr : wr.frozen? ⟨w.heap.size, k, none⟩ = false := HA.out.frozen k hk'
      clear hk'
      go_wp2_with (go_at_call 40; refine (lowerB_any _ _).mono ?_; rintro e w' ⟨rfl, rfl⟩)
      go_roundg (s.size - (k + 1))
      case measure => omega
      case rel =>
        refine ⟨k + 1, by omega, rfl, by go_num, ?_, HB.out.setCell (Nat.le_refl _) _⟩
        have := HA.out.set k (byteV (lowB s[k]))
        rw [← List.map_set] at this
        have e := foldS_set s.data.toList k (by simpa using hlt)
        rw [← e]
        exact this
    · have hA := HA.out
      rw [take_all s k hlt, List.drop_eq_nil_of_le (by simp; omega), List.append_nil] at hA
      have hst := fun cap => run_string_of_row (P := Tryz.prog) (cap := cap) (n := s.size) Tryz.underlying22 Tryz.underlying5 Tryz.underlying9 hA (by simp [foldS])
      have HB' := HB
      clear hA
      go_wp2
      go_ret
      exact ⟨rfl, HB'.out⟩
theorem Tryz.infoU8 : (Tryz.prog.info? 5).map (fun i => (i.zero, i.size, i.bytes)) = some (some (.int .u8 0), 1, 1) := by kernel_rfl

end Go.Proofs.YteallnjbpikhhaaGreatDoor
