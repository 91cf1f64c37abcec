/- Contracts of Trim and of the document's Trim. -/
import Derived.Test.YthcleaflhljdlaaGreatDoorChars2
import Derived.Test.YthcleaflhljdlaaGreatDoorCharsM
namespace Go.Proofs.YthcleaflhljdlaaGreatDoor
open Go Go.RowKit

theorem blk_true {b : UInt8} (h : (b.toNat : Int) = 32 ∨ (b.toNat : Int) = 9) : blk b = true := decide_eq_true h
theorem blk_false {b : UInt8} (h : ¬ ((b.toNat : Int) = 32 ∨ (b.toNat : Int) = 9)) : blk b = false := decide_eq_false h

/-- What the first loop of Trim has cut off is blank; what the second one has cut off, too. -/
theorem trim_step1 {s t : ByteArray} {a b : List UInt8} (h : s.data.toList = a ++ t.data.toList ++ b) (ha : a.all blk = true) (h0 : 0 < t.size) (hb : blk t[0] = true) :
    ∃ a', s.data.toList = a' ++ (t.extract 1 t.size).data.toList ++ b ∧ a'.all blk = true := by
  refine ⟨a ++ [t[0]], ?_, by rw [List.all_append, ha]; simp [hb]⟩
  rw [h, extract_toList]
  have e : t.data.toList = t[0] :: t.data.toList.drop 1 := by
    have h1 := bytes_get t 0 h0
    match hh : t.data.toList, h1 with
    | x :: r, h1 => simp at h1; simp [h1]
  have e2 : (t.data.toList.drop 1).take (t.size - 1) = t.data.toList.drop 1 := List.take_of_length_le (by simp)
  rw [e2]
  conv => lhs; rw [e]
  simp
theorem trim_step2 {s t : ByteArray} {a b : List UInt8} (h : s.data.toList = a ++ t.data.toList ++ b) (hb : b.all blk = true) (h0 : 0 < t.size) (hl : blk (t[t.size - 1]'(by omega)) = true) :
    ∃ b', s.data.toList = a ++ (t.extract 0 (t.size - 1)).data.toList ++ b' ∧ b'.all blk = true := by
  refine ⟨t[t.size - 1]'(by omega) :: b, ?_, by rw [List.all_cons, hl, hb]; rfl⟩
  rw [h, extract_toList]
  have e : t.data.toList = (t.data.toList.drop 0).take (t.size - 1 - 0) ++ [t[t.size - 1]'(by omega)] := by
    have h1 := take_snoc t (t.size - 1) (by omega)
    rw [Nat.sub_add_cancel h0, List.take_of_length_le (by simp)] at h1
    simpa using h1
  conv => lhs; rw [e]
  simp
theorem trim_end {s t : ByteArray} {a b : List UInt8} (h : s.data.toList = a ++ t.data.toList ++ b) (ha : a.all blk = true) (hb : b.all blk = true)
    (h1 : ∀ h0 : 0 < t.size, blk t[0] = false) (h2 : ∀ h0 : 0 < t.size, blk (t[t.size - 1]'(by omega)) = false) : t = ⟨(trimS s.data.toList).toArray⟩ := by
  apply bytes_eq
  rw [h, trim_of a t.data.toList b ha hb]
  · intro x hx
    have h0 : 0 < t.size := by
      rw [bytes_len]
      match t.data.toList, hx with
      | y :: r, _ => simp
    rw [head_at t h0] at hx
    rw [← Option.some.inj hx]
    exact h1 h0
  · intro x hx
    have h0 : 0 < t.size := by
      rw [bytes_len]
      match t.data.toList, hx with
      | y :: r, _ => simp
    rw [List.getLast?_eq_getElem?, ← bytes_len, bytes_get t (t.size - 1) (by omega)] at hx
    rw [← Option.some.inj hx]
    exact h2 h0

theorem extract_first (u : ByteArray) (n : Nat) (h : 0 < (u.extract 0 n).size) (h0 : 0 < u.size) : (u.extract 0 n)[0] = u[0] := by
  have h1 := bytes_get _ 0 h
  have h2 := bytes_get u 0 h0
  rw [extract_toList, List.getElem?_take] at h1
  split at h1
  · rw [List.drop_zero, h2] at h1
    exact (Option.some.inj h1).symm
  · cases h1

theorem cut_three (s : ByteArray) (k t : Nat) (h : k ≤ t) : s.data.toList = s.data.toList.take k ++ (s.extract k t).data.toList ++ s.data.toList.drop t := by
  rw [extract_toList]
  have e1 : s.data.toList.drop t = (s.data.toList.drop k).drop (t - k) := by rw [List.drop_drop]; congr 1; omega
  rw [e1, List.append_assoc, List.take_append_drop, List.take_append_drop]

theorem refTrim_end {s : ByteArray} {k t : Nat} (hkt : k ≤ t) (ht : t ≤ s.size) (ha : (s.data.toList.take k).all blk = true) (hb : (s.data.toList.drop t).all blk = true)
    (h1 : ∀ h0 : k < s.size, k < t → blk s[k] = false) (h2 : ∀ h0 : k < t, blk (s[t - 1]'(by omega)) = false) : s.extract k t = ⟨(trimS s.data.toList).toArray⟩ := by
  have hz := extract_size' s k t ht
  refine trim_end (cut_three s k t hkt) ha hb ?_ ?_
  · intro h0
    have h0' : k < s.size := by omega
    have := extract_at s k t 0 h0 h0'
    rw [this]
    exact h1 h0' (by omega)
  · intro h0
    have h0' : k < s.size := by omega
    have := extract_at s k t ((s.extract k t).size - 1) (by omega) (by omega)
    rw [this]
    have e : k + ((s.extract k t).size - 1) = t - 1 := by omega
    have := h2 (by omega)
    simpa only [e] using this

theorem all_take_step {s : ByteArray} {k : Nat} (h : k < s.size) (ha : (s.data.toList.take k).all blk = true) (hb : blk s[k] = true) : (s.data.toList.take (k + 1)).all blk = true := by
  rw [take_snoc s k h, List.all_append, ha]
  simp [hb]
theorem all_drop_step {s : ByteArray} {t : Nat} (h0 : 0 < t) (h : t ≤ s.size) (ha : (s.data.toList.drop t).all blk = true) (hb : blk (s[t - 1]'(by omega)) = true) : (s.data.toList.drop (t - 1)).all blk = true := by
  have hl : t - 1 < s.data.toList.length := by rw [← bytes_len]; omega
  rw [List.drop_eq_getElem_cons hl, List.all_cons, Nat.sub_add_cancel h0, ha]
  have : s.data.toList[t - 1] = s[t - 1]'(by omega) := rfl
  rw [this, hb]
  rfl

theorem not_blank_bools {c : Int} (h : ¬ (c = 32 ∨ c = 9)) : (c == 32) = false ∧ (c == 9) = false := by
  constructor
  · simp; omega
  · simp; omega

end Go.Proofs.YthcleaflhljdlaaGreatDoor
