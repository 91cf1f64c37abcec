/- Contracts of Split and the document's Split. -/
import Derived.Test.YtkkdplccneeaiaaGreatDoorGbChars4
import Derived.Test.YtkkdplccneeaiaaGreatDoorShelf
import Derived.Lib.ItoaLen
import Derived.Lib.AppendIntMem
namespace Go.Proofs.YtkkdplccneeaiaaGreatDoor
open Go Go.RowKit

def strV (l : List UInt8) : Value := .string ⟨l.toArray⟩
theorem strV_extract (s : ByteArray) (a b : Nat) : strV ((s.data.toList.drop a).take (b - a)) = .string (s.extract a b) := by
  unfold strV
  congr 1
  apply bytes_eq
  rw [extract_toList]
theorem strV_bytes (s : ByteArray) : strV s.data.toList = .string s := by
  unfold strV
  congr 1

theorem Tryz.infoStr : (Tryz.prog.info? 9).map (fun i => (i.zero, i.size, i.bytes)) = some (some (.string ⟨#[]⟩), 1, 16) := by kernel_rfl

theorem splitAux_at {c : UInt8} {s : ByteArray} {k f : Nat} (hk : k < s.size) (h : s[k] = c) :
    splitAux c (s.data.toList.drop k) ((s.data.toList.drop f).take (k - f)) = ((s.data.toList.drop f).take (k - f)) :: splitAux c (s.data.toList.drop (k + 1)) ((s.data.toList.drop (k + 1)).take (k + 1 - (k + 1))) := by
  rw [drop_cons s k hk, splitAux, if_pos h]
  simp
theorem take_drop_snoc {s : ByteArray} {k f : Nat} (hk : k < s.size) (hf : f ≤ k) : (s.data.toList.drop f).take (k + 1 - f) = (s.data.toList.drop f).take (k - f) ++ [s[k]] := by
  have h1 : k + 1 - f = (k - f) + 1 := by omega
  rw [h1, List.take_add_one, List.getElem?_drop]
  have h2 : f + (k - f) = k := by omega
  rw [h2, bytes_get s k hk]
  rfl
theorem splitAux_not {c : UInt8} {s : ByteArray} {k f : Nat} (hk : k < s.size) (hf : f ≤ k) (h : ¬ s[k] = c) :
    splitAux c (s.data.toList.drop k) ((s.data.toList.drop f).take (k - f)) = splitAux c (s.data.toList.drop (k + 1)) ((s.data.toList.drop f).take (k + 1 - f)) := by
  rw [drop_cons s k hk, splitAux, if_neg h, take_drop_snoc hk hf]

theorem add_one_byte {s t : ByteArray} {cur : List UInt8} {k : Nat} (hk : k < s.size) (h : t.data.toList = cur) : (t ++ s.extract k (k + 1)).data.toList = cur ++ [s[k]] := by
  rw [ByteArray.data_append, Array.toList_append, h, extract_toList, drop_cons s k hk]
  simp

end Go.Proofs.YtkkdplccneeaiaaGreatDoor

/- Contracts of Digits and the document's Digits. -/
namespace Go.Proofs.YtkkdplccneeaiaaGreatDoor
open Go Go.RowKit

theorem digit_piece {i : Nat} (h : i < 10) : ((⟨#[48, 49, 50, 51, 52, 53, 54, 55, 56, 57]⟩ : ByteArray).extract i (i + 1)).data.toList = [UInt8.ofNat (48 + i)] := by
  match i, h with
  | 0, _ => rfl
  | 1, _ => rfl
  | 2, _ => rfl
  | 3, _ => rfl
  | 4, _ => rfl
  | 5, _ => rfl
  | 6, _ => rfl
  | 7, _ => rfl
  | 8, _ => rfl
  | 9, _ => rfl
theorem up_small {n : Nat} (h : n < 10) : (⟨#[48, 49, 50, 51, 52, 53, 54, 55, 56, 57]⟩ : ByteArray).extract n (n + 1) = ⟨(Lib.decDigits n).toArray⟩ := by
  apply bytes_eq
  rw [digit_piece h, Lib.decDigits_one h]
theorem up_great {n : Nat} (h : ¬ n < 10) : (⟨(Lib.decDigits (n / 10)).toArray⟩ : ByteArray) ++ (⟨#[48, 49, 50, 51, 52, 53, 54, 55, 56, 57]⟩ : ByteArray).extract (n % 10) (n % 10 + 1) = ⟨(Lib.decDigits n).toArray⟩ := by
  apply bytes_eq
  rw [ByteArray.data_append, Array.toList_append, digit_piece (Nat.mod_lt _ (by decide))]
  conv => rhs; rw [Lib.decDigits, dif_neg h]

theorem up_any (g : Nat) : ∀ (n : Nat) (w : World), n ≤ g → n ≤ 18446744073709551615 →
    Calls Tryz.prog 34 #[.int .u64 n] w fun e w' => e = .returned (.string ⟨(Lib.decDigits n).toArray⟩) ∧ ∃ k, w' = w.drewN k := by
  induction g with
  | zero =>
    intro n w hg hn
    obtain rfl : n = 0 := by omega
    go_enter Tryz.func34, Tryz.ntmps34
    go_wp2
    go_ret
    exact ⟨ret_str (up_small (n := 0) (by omega)), 0, rfl⟩
  | succ g ih =>
    intro n w hg hn
    by_cases h : n < 10
    · go_enter Tryz.func34, Tryz.ntmps34
      go_wp2
      go_ret
      exact ⟨ret_str (up_small h), 0, rfl⟩
    · have hlen : (Lib.decDigits (n / 10)).length ≤ 20 := by rw [Lib.decDigits_length]; exact Lib.nDigits_le20 _ (by omega)
      have hx : ((⟨#[48, 49, 50, 51, 52, 53, 54, 55, 56, 57]⟩ : ByteArray).extract (n % 10) (n % 10 + 1)).size ≤ 10 := by rw [extract_len]; omega
      have HU := Lib.hid (up_great h)
      go_enter Tryz.func34, Tryz.ntmps34
      go_wp2_with fail
      go_quiet ((go_at_call 34; exact Calls.quiet_of (ih (n / 10) _ (by omega) (by omega))))
      go_wp2
      go_ret
      exact ⟨ret_str HU.out, _, rfl⟩

theorem below_drewN {B : Nat} {a w : World} (h : Below B a w) (n : Nat) : Below B a (w.drewN n) := h.trans ⟨rfl, rfl, rfl, Nat.le_refl _, fun _ _ => rfl⟩
theorem below_grow (w : World) (k : Nat) (os : Array Obj) : Below w.heap.size w (Go.Sort.grow (w.drewN k) os) := by
  refine ⟨rfl, rfl, rfl, ?_, ?_⟩
  · show w.heap.size ≤ (w.heap ++ os).size
    simp
  · intro i hi
    show (w.heap ++ os)[i]? = w.heap[i]?
    rw [Array.getElem?_append_left hi]

def tab (w : World) : Prop := Lib.TabIs Tryz.prog w "internal/strconv.uint64pow10" .u64 Lib.pow10Tab
theorem tab.below {w w' : World} (h : tab w) (hb : Below w.heap.size w w') : tab w' := (Lib.tabBelow_of_tabIs h) w' hb

theorem digits_any (n : Int) (h0 : -9223372036854775808 ≤ n) (h1 : n ≤ 9223372036854775807) (w : World) (ht : tab w) :
    Calls Tryz.prog 33 #[.int .i64 n] w fun e w' => e = .returned (.string ⟨(Lib.itoa n).toArray⟩) ∧ Below w.heap.size w w' := by
  have HC := Lib.hid (fun w ht => Tryz.strconv_Itoa n h0 h1 w ht)
  have HT := Lib.hid ht
  clear ht h0 h1
  go_enter Tryz.func33, Tryz.ntmps33
  go_wp2_with (go_at_call 48; refine (HC.out _ HT.out).mono ?_; rintro e w' ⟨rfl, k, os, rfl⟩)
  go_ret
  exact ⟨rfl, below_grow _ _ _⟩

theorem refDigits_any (n : Int) (h0 : -9223372036854775808 ≤ n) (h1 : n ≤ 9223372036854775807) (w : World) :
    Calls Tryz.prog 25 #[.int .i64 n] w fun e w' => e = .returned (.string ⟨(Lib.itoa n).toArray⟩) ∧ ∃ k, w' = w.drewN k := by
  by_cases h : n < 0
  · obtain ⟨u, hu⟩ : ∃ u : Nat, n = -(u : Int) := ⟨n.natAbs, by omega⟩
    have hu1 : 1 ≤ u := by omega
    have hu2 : u ≤ 9223372036854775808 := by omega
    have hlen : (Lib.decDigits u).length ≤ 20 := by rw [Lib.decDigits_length]; exact Lib.nDigits_le20 _ (by omega)
    subst hu
    go_enter Tryz.func25, Tryz.ntmps25
    go_wp2_with fail
    rw [show (-(-(u : Int) + 1) + 1) = (u : Int) from by omega]
    refine (up_any u u _ (by omega) (by omega)).mono ?_
    rintro e w' ⟨rfl, k, rfl⟩
    go_wp2
    go_ret
    exact ⟨ret_str (by rw [Lib.itoa_neg u hu1]; apply bytes_eq; simp), _, rfl⟩
  · obtain ⟨u, hu⟩ : ∃ u : Nat, n = (u : Int) := ⟨n.toNat, by omega⟩
    have hu2 : u ≤ 9223372036854775807 := by omega
    subst hu
    go_enter Tryz.func25, Tryz.ntmps25
    go_wp2_with (go_at_call 34; refine (up_any u u _ (by omega) (by omega)).mono ?_; rintro e w' ⟨rfl, k, rfl⟩)
    go_ret
    exact ⟨ret_str (by rw [Lib.itoa_nonneg]), _, rfl⟩
end Go.Proofs.YtkkdplccneeaiaaGreatDoor

/- Contracts of Token and Atom, and of the document's; the example that every statement asks first. -/
namespace Go.Proofs.YtkkdplccneeaiaaGreatDoor
open Go Go.RowKit

def mimeB : ByteArray := ⟨#[40, 41, 60, 62, 64, 44, 59, 58, 92, 34, 47, 91, 93, 63, 61]⟩
def imapB : ByteArray := ⟨#[40, 41, 123, 37, 42, 34, 92, 93]⟩
def tokenI (c : Int) : Bool := decide (33 ≤ c ∧ c ≤ 126) && !(hasI mimeB c)
def atomI (c : Int) : Bool := decide (33 ≤ c ∧ c ≤ 126) && !(hasI imapB c)
theorem mime_low : ∀ k, (h : k < mimeB.size) → mimeB[k].toNat < 128 := by decide
theorem imap_low : ∀ k, (h : k < imapB.size) → imapB[k].toNat < 128 := by decide

theorem seen_yes (c : Int) (w : World) (h0 : 0 ≤ c) (h1 : c ≤ 255) (h : 33 ≤ c ∧ c ≤ 126) :
    Calls Tryz.prog 49 #[.int .u8 c] w fun e w' => e = .returned (.bool true) ∧ w = w' :=
  (seen_any c w h0 h1).mono fun _ _ ⟨he, hw⟩ => ⟨by rw [he, decide_eq_true h], hw⟩
theorem seen_no (c : Int) (w : World) (h0 : 0 ≤ c) (h1 : c ≤ 255) (h : ¬ (33 ≤ c ∧ c ≤ 126)) :
    Calls Tryz.prog 49 #[.int .u8 c] w fun e w' => e = .returned (.bool false) ∧ w = w' :=
  (seen_any c w h0 h1).mono fun _ _ ⟨he, hw⟩ => ⟨by rw [he, decide_eq_false h], hw⟩

theorem atom_any (c : Int) (w : World) (h0 : 0 ≤ c) (h1 : c ≤ 255) :
    Calls Tryz.prog 35 #[.int .u8 c] w fun e w' => e = .returned (.bool (atomI c)) ∧ Below w.heap.size w w' := by
  have HM := Lib.hid (fun w => among_any c imapB w h0 h1 imap_low (by decide))
  by_cases h : 33 ≤ c ∧ c ≤ 126
  · go_enter Tryz.func35, Tryz.ntmps35
    go_wp2_with (first | (go_at_call 49; refine (seen_yes _ _ h0 h1 h).mono ?_; rintro e w' ⟨rfl, rfl⟩) | (go_at_call 50; refine (HM.out _).mono ?_; rintro e w' ⟨rfl, k, rfl⟩))
    go_ret
    exact ⟨ret_bool (by unfold atomI; rw [decide_eq_true h]; rfl), (Below.refl _ _).alloc (Nat.le_refl _) _⟩
  · go_enter Tryz.func35, Tryz.ntmps35
    go_wp2_with (go_at_call 49; refine (seen_no _ _ h0 h1 h).mono ?_; rintro e w' ⟨rfl, rfl⟩)
    go_ret
    exact ⟨ret_bool (by unfold atomI; rw [decide_eq_false h]; rfl), Below.refl _ _⟩

theorem refAtom_any (c : Int) (w : World) :
    Calls Tryz.prog 27 #[.int .u8 c] w fun e w' => e = .returned (.bool (atomI c)) ∧ w = w' := by
  have HM := Lib.hid (fun w => in_any imapB c w (by decide))
  by_cases h1 : 32 < c
  · by_cases h2 : c < 127
    · go_enter Tryz.func27, Tryz.ntmps27
      go_wp2_with (go_at_call 24; refine (HM.out _).mono ?_; rintro e w' ⟨rfl, rfl⟩)
      go_ret
      exact ⟨ret_bool (by unfold atomI; rw [decide_eq_true (by omega)]; rfl), rfl⟩
    · go_enter Tryz.func27, Tryz.ntmps27
      go_wp2_with (go_at_call 24; refine (HM.out _).mono ?_; rintro e w' ⟨rfl, rfl⟩)
      go_ret
      exact ⟨ret_bool (by unfold atomI; rw [decide_eq_false (by omega)]; rfl), rfl⟩
  · go_enter Tryz.func27, Tryz.ntmps27
    go_wp2_with (go_at_call 24; refine (HM.out _).mono ?_; rintro e w' ⟨rfl, rfl⟩)
    go_ret
    exact ⟨ret_bool (by unfold atomI; rw [decide_eq_false (by omega)]; rfl), rfl⟩

theorem number_none {s : ByteArray} (w : World) (hl : s.size ≤ 9223372036854775807) (h : numSpec s.data.toList = none) :
    Calls Tryz.prog 67 #[.string s] w fun e w' => e = .returned (.tuple #[.int .i64 0, .bool false]) ∧ Below w.heap.size w w' :=
  (number_any s w hl).mono fun _ _ ⟨he, hw⟩ => ⟨by rw [he, h]; rfl, hw⟩
theorem number_some {s : ByteArray} (n : Nat) (w : World) (hl : s.size ≤ 9223372036854775807) (h : numSpec s.data.toList = some n) :
    Calls Tryz.prog 67 #[.string s] w fun e w' => e = .returned (.tuple #[.int .i64 n, .bool true]) ∧ Below w.heap.size w w' :=
  (number_any s w hl).mono fun _ _ ⟨he, hw⟩ => ⟨by rw [he, h]; rfl, hw⟩

end Go.Proofs.YtkkdplccneeaiaaGreatDoor
