/- Encoded words, plain. No program. -/
import Derived.Test.YtolkjaebhhbilaaDoorB64M
import Derived.Test.YtolkjaebhhbilaaDoorCsM
import Derived.Lib.Bytealg
namespace Go.Proofs.YtolkjaebhhbilaaDoor
open Go Go.RowKit

/-! ### Digits -/
def hexV (c : UInt8) : Option Nat :=
  if 48 ≤ c.toNat ∧ c.toNat ≤ 57 then some (c.toNat - 48) else if 97 ≤ c.toNat ∧ c.toNat ≤ 102 then some (c.toNat - 87) else if 65 ≤ c.toNat ∧ c.toNat ≤ 70 then some (c.toNat - 55) else none
def hexs : Nat → List UInt8 → Option Nat
  | n, [] => some n
  | n, c :: l => match hexV c with
    | some d => hexs (16 * n + d) l
    | none => none
theorem hexV_lt {c : UInt8} {d : Nat} (h : hexV c = some d) : d < 16 := by
  unfold hexV at h
  split at h
  · cases h; omega
  · split at h
    · cases h; omega
    · split at h
      · cases h; omega
      · cases h
theorem hexs_two (a b : UInt8) : hexs 0 [a, b] = (hexV a).bind (fun x => (hexV b).map (fun y => 16 * x + y)) := by
  unfold hexs
  cases hexV a with
  | none => rfl
  | some x =>
    show hexs (16 * 0 + x) [b] = _
    unfold hexs
    cases hexV b with
    | none => rfl
    | some y =>
      show hexs (16 * (16 * 0 + x) + y) [] = _
      unfold hexs
      rw [Nat.mul_zero, Nat.zero_add]
      rfl
theorem hexs_lt (a b : UInt8) (n : Nat) (h : hexs 0 [a, b] = some n) : n < 256 := by
  rw [hexs_two] at h
  cases ha : hexV a with
  | none => rw [ha] at h; cases h
  | some x =>
    cases hb : hexV b with
    | none => rw [ha, hb] at h; cases h
    | some y =>
      rw [ha, hb] at h
      have hx := hexV_lt ha
      have hy := hexV_lt hb
      have e : 16 * x + y = n := Option.some.inj h
      omega

/-! ### Quoted -/
def unders (c : UInt8) : UInt8 := if c = 95 then 32 else c
def qL : List UInt8 → Option (List UInt8)
  | [] => some []
  | [c] => if c = 61 then none else some [unders c]
  | [c, d] => if c = 61 then none else (qL [d]).map (unders c :: ·)
  | c :: a :: b :: r => if c = 61 then (match hexs 0 [a, b] with | none => none | some n => (qL r).map (byteN n :: ·)) else (qL (a :: b :: r)).map (unders c :: ·)
theorem qL_byte {c : UInt8} (l : List UInt8) (h : c ≠ 61) : qL (c :: l) = (qL l).map (unders c :: ·) := by
  match l with
  | [] => simp [qL, h]
  | [d] => simp [qL, h]
  | a :: b :: r => rw [qL, if_neg h]
theorem qL_short {l : List UInt8} (h : l.length < 2) : qL (61 :: l) = none := by
  match l, h with
  | [], _ => rfl
  | [d], _ => rfl
theorem qL_no {a b : UInt8} (r : List UInt8) (h : hexs 0 [a, b] = none) : qL (61 :: a :: b :: r) = none := by
  rw [qL, if_pos rfl, h]
theorem qL_code {a b : UInt8} {n : Nat} (r : List UInt8) (h : hexs 0 [a, b] = some n) : qL (61 :: a :: b :: r) = (qL r).map (byteN n :: ·) := by
  rw [qL, if_pos rfl, h]
theorem qL_len : ∀ (n : Nat) (l t : List UInt8), l.length ≤ n → qL l = some t → t.length ≤ l.length
  | _, [], t, _, h => by cases h; exact Nat.le_refl _
  | 0, c :: l, t, hn, _ => by simp at hn
  | n + 1, c :: l, t, hn, h => by
    simp only [List.length_cons] at hn ⊢
    by_cases hc : c = 61
    · subst hc
      match l, hn, h with
      | [], _, h => cases h
      | [d], _, h => cases h
      | a :: b :: r, hn, h =>
        cases hx : hexs 0 [a, b] with
        | none => rw [qL_no r hx] at h; cases h
        | some k =>
          rw [qL_code r hx] at h
          obtain ⟨u, hu, rfl⟩ := Option.map_eq_some_iff.1 h
          have := qL_len n r u (by simp at hn; omega) hu
          simp
          omega
    · rw [qL_byte l hc] at h
      obtain ⟨u, hu, rfl⟩ := Option.map_eq_some_iff.1 h
      have := qL_len n l u (by omega) hu
      simp
      omega

/-! ### What stands ahead of the first of a kind -/
def idxB (c : UInt8) (l : List UInt8) : Nat := l.findIdx (· == c)
theorem idxB_le (c : UInt8) (l : List UInt8) : idxB c l ≤ l.length := List.findIdx_le_length
theorem idxB_nil (c : UInt8) : idxB c [] = 0 := rfl
theorem idxB_cons (c x : UInt8) (l : List UInt8) : idxB c (x :: l) = if x = c then 0 else idxB c l + 1 := by
  unfold idxB
  rw [List.findIdx_cons]
  by_cases h : x = c
  · subst h; simp
  · have : (x == c) = false := by simpa using h
    rw [this, if_neg h]
    rfl
theorem indexByte_idx (c : UInt8) : ∀ l : List UInt8, Lib.indexByte l c = if idxB c l < l.length then (idxB c l : Int) else -1
  | [] => rfl
  | x :: l => by
    have ih := indexByte_idx c l
    unfold Lib.indexByte
    rw [idxB_cons]
    by_cases h : x = c
    · subst h
      simp
    · have hb : (x == c) = false := by simpa using h
      rw [hb, ih, if_neg h]
      simp only [Bool.false_eq_true, if_false, List.length_cons]
      by_cases h1 : idxB c l < l.length
      · rw [if_pos h1, if_neg (show ¬ ((idxB c l : Int) == -1) = true by simp), if_pos (show idxB c l + 1 < l.length + 1 by omega)]
        omega
      · rw [if_neg h1, if_neg (show ¬ idxB c l + 1 < l.length + 1 by omega)]
        rfl
theorem idxB_at {c : UInt8} {l : List UInt8} (h : idxB c l < l.length) : l[idxB c l] = c := by
  have h1 := List.findIdx_getElem (p := (· == c)) (w := h)
  exact eq_of_beq h1
theorem idxB_ahead {c : UInt8} {l : List UInt8} {j : Nat} (h : j < idxB c l) (hj : j < l.length) : l[j] ≠ c := by
  have h1 := List.not_of_lt_findIdx (p := (· == c)) h
  intro e
  rw [e] at h1
  simp at h1
/-- By a first one that was found. -/
theorem idxB_is {c : UInt8} {l : List UInt8} {i : Nat} (hi : i < l.length) (h : l[i] = c) (ha : ∀ j, (hj : j < l.length) → j < i → l[j] ≠ c) : idxB c l = i := by
  rcases Nat.lt_trichotomy (idxB c l) i with h1 | h1 | h1
  · exact absurd (idxB_at (by omega)) (ha _ (by omega) h1)
  · exact h1
  · exact absurd h (idxB_ahead h1 hi)
theorem idxB_none {c : UInt8} {l : List UInt8} (h : ∀ j, (hj : j < l.length) → l[j] ≠ c) : idxB c l = l.length := by
  rcases Nat.lt_or_ge (idxB c l) l.length with h1 | h1
  · exact absurd (idxB_at h1) (h _ h1)
  · have := idxB_le c l; omega
theorem idxB_app {c : UInt8} {a : List UInt8} (r : List UInt8) (h : c ∉ a) : idxB c (a ++ c :: r) = a.length := by
  induction a with
  | nil => rw [List.nil_append, idxB_cons, if_pos rfl]; rfl
  | cons x a ih =>
    have hx : x ≠ c := fun e => h (by rw [e]; exact List.mem_cons_self)
    rw [List.cons_append, idxB_cons, if_neg hx, ih (fun m => h (List.mem_cons_of_mem _ m)), List.length_cons]

/-! ### A word -/
def cutQ (l : List UInt8) : Option (List UInt8 × List UInt8) := if idxB 63 l < l.length then some (l.take (idxB 63 l), l.drop (idxB 63 l + 1)) else none
theorem cutQ_app {a : List UInt8} (r : List UInt8) (h : (63 : UInt8) ∉ a) : cutQ (a ++ 63 :: r) = some (a, r) := by
  unfold cutQ
  rw [idxB_app r h, if_pos (by simp), List.take_left' rfl]
  congr 2
  rw [List.drop_append]
  simp
def starL (l : List UInt8) : List UInt8 := l.take (idxB 42 l)
def readL (c : UInt8) (t : List UInt8) : Option (List UInt8) := if lowB c = 98 then decS (bareS t) else if lowB c = 113 then qL t else none
def textW (nm : List UInt8) (c : UInt8) (t : List UInt8) : Option (List UInt8) := (readL c t).bind (textK (kindL (starL nm)))
def endW (n : Nat) (nm lt tx l3 : List UInt8) : Option (List UInt8 × Nat) :=
  match l3, lt with
  | 61 :: r, [c] => if tx.any blk = true then none else (textW nm c tx).map (fun t => (t, n - r.length))
  | _, _ => none
def ewL (l : List UInt8) : Option (List UInt8 × Nat) :=
  match l with
  | 61 :: 63 :: l0 => (cutQ l0).bind (fun p => (cutQ p.2).bind (fun q => (cutQ q.2).bind (fun s => endW l.length p.1 q.1 s.1 s.2)))
  | _ => none
theorem ewL_one {c : UInt8} (l : List UInt8) (h : c ≠ 61) : ewL (c :: l) = none := by
  unfold ewL
  split
  · next heq => cases heq; exact absurd rfl h
  · rfl
theorem ewL_second {l : List UInt8} (h : l[1]? ≠ some 63) : ewL l = none := by
  match l with
  | [] => rfl
  | [_] => unfold ewL; split <;> simp_all
  | c :: d :: r =>
    unfold ewL
    split
    · next heq => cases heq; exact absurd rfl h
    · rfl
theorem ewL_nil : ewL [] = none := rfl
theorem cutQ_len {l a r : List UInt8} (h : cutQ l = some (a, r)) : a.length + r.length + 1 = l.length ∧ l = a ++ 63 :: r ∧ (63 : UInt8) ∉ a := by
  unfold cutQ at h
  split at h
  · next hi =>
    cases h
    refine ⟨?_, ?_, ?_⟩
    · rw [List.length_take, List.length_drop]; omega
    · have e := List.drop_eq_getElem_cons hi
      rw [idxB_at hi] at e
      rw [← e, List.take_append_drop]
    · intro hm
      obtain ⟨j, hj, e⟩ := List.getElem_of_mem hm
      rw [List.length_take] at hj
      rw [List.getElem_take] at e
      exact idxB_ahead (by omega) (by omega) e
  · cases h
theorem ewL_parts {l t : List UInt8} {n : Nat} (h : ewL l = some (t, n)) : ∃ nm c tx r, l = 61 :: 63 :: (nm ++ 63 :: c :: 63 :: (tx ++ 63 :: 61 :: r)) ∧ (63 : UInt8) ∉ nm ∧ c ≠ 63 ∧ (63 : UInt8) ∉ tx ∧ tx.any blk = false ∧ textW nm c tx = some t ∧ n + r.length = l.length := by
  unfold ewL at h
  split at h
  · next l0 h00 =>
    obtain ⟨⟨nm, l1⟩, h1, h⟩ := Option.bind_eq_some_iff.1 h
    obtain ⟨⟨lt, l2⟩, h2, h⟩ := Option.bind_eq_some_iff.1 h
    obtain ⟨⟨tx, l3⟩, h3, h⟩ := Option.bind_eq_some_iff.1 h
    obtain ⟨a1, b1, c1⟩ := cutQ_len h1
    obtain ⟨a2, b2, c2⟩ := cutQ_len h2
    obtain ⟨a3, b3, c3⟩ := cutQ_len h3
    simp only at h a1 b1 a2 b2 a3 b3
    unfold endW at h
    split at h
    · next r c h0 =>
      split at h
      · cases h
      · next hb =>
        obtain ⟨t', ht', e⟩ := Option.map_eq_some_iff.1 h
        cases e
        refine ⟨nm, c, tx, r, ?_, c1, ?_, c3, by simpa using hb, ht', ?_⟩
        · rw [b1, b2, b3]; simp
        · intro e; exact c2 (by rw [e]; exact List.mem_singleton_self _)
        · simp at a1 a2 a3 ⊢
          omega
    · cases h
  · cases h
theorem ewL_make {nm tx r t : List UInt8} {c : UInt8} (h1 : (63 : UInt8) ∉ nm) (h2 : c ≠ 63) (h3 : (63 : UInt8) ∉ tx) (h4 : tx.any blk = false) (h5 : textW nm c tx = some t) :
    ewL (61 :: 63 :: (nm ++ 63 :: c :: 63 :: (tx ++ 63 :: 61 :: r))) = some (t, nm.length + tx.length + 7) := by
  unfold ewL
  simp only
  rw [cutQ_app _ h1, Option.bind_some]
  have e2 : cutQ (c :: 63 :: (tx ++ 63 :: 61 :: r)) = some ([c], tx ++ 63 :: 61 :: r) := cutQ_app (a := [c]) _ (by simpa using fun e => h2 e.symm)
  simp only
  rw [e2, Option.bind_some]
  simp only
  rw [cutQ_app _ h3, Option.bind_some]
  simp only
  unfold endW
  simp only
  rw [if_neg (by rw [h4]; decide), h5, Option.map_some]
  congr 2
  simp
  omega
theorem ewL_len {l t : List UInt8} {n : Nat} (h : ewL l = some (t, n)) : 0 < n ∧ n ≤ l.length := by
  obtain ⟨nm, c, tx, r, e, _, _, _, _, _, hn⟩ := ewL_parts h
  rw [e] at hn ⊢
  simp at hn ⊢
  omega
end Go.Proofs.YtolkjaebhhbilaaDoor
