/- Layer 18 in plain words: commands out of bytes that come piece by piece. No program. -/
import Derived.Test.YtkkdplccneeaiaaGreatDoorKit2
import Derived.Test.YtkkdplccneeaiaaGreatDoorGbWiM
import Derived.Lib.ItoaLen
namespace Go.Proofs.YtkkdplccneeaiaaGreatDoor
open Go Go.RowKit

/-- A line's text, and what stands behind its end. -/
def lfL : List UInt8 → Option (List UInt8 × List UInt8)
  | [] => none
  | c :: r => if c = 10 then some ([], r) else (lfL r).map fun p => (c :: p.1, p.2)
theorem lfL_parts : ∀ {r t q : List UInt8}, lfL r = some (t, q) → r = t ++ 10 :: q ∧ (10 : UInt8) ∉ t
  | [], t, q, h => by cases h
  | c :: r, t, q, h => by
    unfold lfL at h
    split at h
    · next e => cases h; exact ⟨by rw [e]; rfl, by simp⟩
    · next e =>
      cases hr : lfL r with
      | none => rw [hr] at h; cases h
      | some p =>
        rw [hr] at h
        obtain ⟨t1, q1⟩ := p
        cases h
        obtain ⟨h1, h2⟩ := lfL_parts hr
        refine ⟨by rw [h1]; rfl, ?_⟩
        intro hm
        rcases List.mem_cons.1 hm with h | h
        · exact e h.symm
        · exact h2 h
theorem lfL_at : ∀ (t q : List UInt8), (10 : UInt8) ∉ t → lfL (t ++ 10 :: q) = some (t, q)
  | [], q, _ => by show lfL (10 :: q) = _; unfold lfL; rw [if_pos rfl]
  | c :: t, q, h => by
    have hc : ¬ c = 10 := fun e => h (by rw [e]; exact List.mem_cons_self)
    show lfL (c :: (t ++ 10 :: q)) = _
    unfold lfL
    rw [if_neg hc, lfL_at t q (fun hm => h (List.mem_cons_of_mem _ hm))]
    rfl
theorem lfL_no : ∀ {r : List UInt8}, (10 : UInt8) ∉ r → lfL r = none
  | [], _ => rfl
  | c :: r, h => by
    have hc : ¬ c = 10 := fun e => h (by rw [e]; exact List.mem_cons_self)
    unfold lfL
    rw [if_neg hc, lfL_no (fun hm => h (List.mem_cons_of_mem _ hm))]
    rfl
theorem lfL_none : ∀ {r : List UInt8}, lfL r = none → (10 : UInt8) ∉ r
  | [], _ => by simp
  | c :: r, h => by
    unfold lfL at h
    split at h
    · cases h
    · next e =>
      intro hm
      rcases List.mem_cons.1 hm with h1 | h1
      · exact e h1.symm
      · exact lfL_none (r := r) (by
          cases hr : lfL r with
          | none => rfl
          | some p => rw [hr] at h; cases h) h1
theorem lfL_app {r t q : List UInt8} (h : lfL r = some (t, q)) (c : List UInt8) : lfL (r ++ c) = some (t, q ++ c) := by
  obtain ⟨h1, h2⟩ := lfL_parts h
  rw [h1, List.append_assoc]
  exact lfL_at t (q ++ c) h2
theorem lfL_app_none {r : List UInt8} (h : lfL r = none) (c : List UInt8) : lfL (r ++ c) = (lfL c).map fun p => (r ++ p.1, p.2) := by
  have hr := lfL_none h
  cases hc : lfL c with
  | none =>
    refine lfL_no fun hm => ?_
    rcases List.mem_append.1 hm with h1 | h1
    · exact hr h1
    · exact lfL_none hc h1
  | some p =>
    obtain ⟨t, q⟩ := p
    obtain ⟨h1, h2⟩ := lfL_parts hc
    rw [h1, ← List.append_assoc]
    refine lfL_at (r ++ t) q fun hm => ?_
    rcases List.mem_append.1 hm with h3 | h3
    · exact hr h3
    · exact h2 h3
theorem lfL_len {r t q : List UInt8} (h : lfL r = some (t, q)) : r.length = t.length + 1 + q.length := by
  rw [(lfL_parts h).1, List.length_append, List.length_cons]
  omega
/-- A line's text without a carriage return at its end. -/
def bareE (t : List UInt8) : List UInt8 := if t.getLast? = some 13 then t.dropLast else t
/-- What the front of bytes is: nothing yet, a place to ask at, too much, or a command and what stands behind. -/
inductive Fst
  | more
  | ask (p : Nat)
  | bad
  | cmd (t q : List UInt8)
/-- The number of the head that a text ends in, and whether it waits. -/
def cmdL (H : List UInt8 → Option (Nat × Bool)) : Nat → List UInt8 → Nat → List UInt8 → Fst
  | 0, _, _, _ => .more
  | g + 1, pre, size, r => match lfL r with
    | none => if 65536 < size + r.length then .bad else .more
    | some (t, q) => if 65536 < size + (t.length + 1) then .bad else
      match H (bareE t) with
      | none => .cmd (pre ++ bareE t) q
      | some (n, w) => if 67108864 < n then .bad else
        if w = true ∧ q = [] then .ask (pre.length + (t.length + 1)) else
        if q.length < n then .more else cmdL H g (pre ++ (t ++ 10 :: q.take n)) (size + (t.length + 1)) (q.drop n)
theorem cmdL_fuel (H : List UInt8 → Option (Nat × Bool)) : ∀ (g h : Nat) (pre : List UInt8) (size : Nat) (r : List UInt8), r.length < g → r.length < h → cmdL H g pre size r = cmdL H h pre size r
  | 0, _, _, _, _, h1, _ => by omega
  | _, 0, _, _, _, _, h2 => by omega
  | g + 1, h + 1, pre, size, r, h1, h2 => by
    unfold cmdL
    cases hl : lfL r with
    | none => rfl
    | some p =>
      obtain ⟨t, q⟩ := p
      have hn := lfL_len hl
      simp only
      split
      · rfl
      · cases hh : H (bareE t) with
        | none => rfl
        | some p =>
          obtain ⟨n, w⟩ := p
          simp only
          split
          · rfl
          · split
            · rfl
            · split
              · rfl
              · exact cmdL_fuel H g h _ _ _ (by rw [List.length_drop]; omega) (by rw [List.length_drop]; omega)
/-- A command stays one, whatever comes behind; what is too much stays too much. -/
theorem cmdL_app (H : List UInt8 → Option (Nat × Bool)) (c : List UInt8) : ∀ (g h : Nat) (pre : List UInt8) (size : Nat) (r : List UInt8), r.length < g → (r ++ c).length < h →
    (∀ t q, cmdL H g pre size r = .cmd t q → cmdL H h pre size (r ++ c) = .cmd t (q ++ c)) ∧ (cmdL H g pre size r = .bad → cmdL H h pre size (r ++ c) = .bad)
  | 0, _, _, _, _, h1, _ => by omega
  | _, 0, _, _, _, _, h2 => by omega
  | g + 1, h + 1, pre, size, r, h1, h2 => by
    unfold cmdL
    cases hl : lfL r with
    | none =>
      refine ⟨fun t q hx => ?_, fun hx => ?_⟩
      · simp only at hx
        split at hx <;> cases hx
      · simp only at hx
        split at hx
        · next hs =>
          rw [lfL_app_none hl c]
          cases lfL c with
          | none =>
            simp only [Option.map_none]
            rw [if_pos (by rw [List.length_append]; omega)]
          | some p =>
            simp only [Option.map_some]
            rw [if_pos (by rw [List.length_append]; omega)]
        · cases hx
    | some p =>
      obtain ⟨t, q⟩ := p
      have hn := lfL_len hl
      rw [lfL_app hl c]
      simp only
      rw [List.length_append] at h2
      by_cases hs : 65536 < size + (t.length + 1)
      · rw [if_pos hs]
        exact ⟨fun _ _ hx => (by cases hx), fun _ => by rw [if_pos hs]⟩
      · rw [if_neg hs, if_neg hs]
        cases hh : H (bareE t) with
        | none => exact ⟨fun t1 q1 hx => (by cases hx; rfl), fun hx => (by cases hx)⟩
        | some p =>
          obtain ⟨n, w⟩ := p
          simp only
          by_cases hb : 67108864 < n
          · rw [if_pos hb]
            exact ⟨fun _ _ hx => (by cases hx), fun _ => by rw [if_pos hb]⟩
          · rw [if_neg hb, if_neg hb]
            by_cases hw : w = true ∧ q = []
            · rw [if_pos hw]
              exact ⟨fun _ _ hx => (by cases hx), fun hx => (by cases hx)⟩
            · rw [if_neg hw]
              by_cases hq : q.length < n
              · rw [if_pos hq]
                exact ⟨fun _ _ hx => (by cases hx), fun hx => (by cases hx)⟩
              · rw [if_neg hq]
                by_cases hw2 : w = true ∧ q ++ c = []
                · exact absurd ⟨hw2.1, (List.append_eq_nil_iff.1 hw2.2).1⟩ hw
                · rw [if_neg hw2, if_neg (by rw [List.length_append]; omega), List.take_append_of_le_length (by omega), List.drop_append_of_le_length (by omega)]
                  exact cmdL_app H c g h _ _ _ (by rw [List.length_drop]; omega) (by rw [List.length_append, List.length_drop]; omega)
theorem cmdL_less (H : List UInt8 → Option (Nat × Bool)) : ∀ (g : Nat) (pre : List UInt8) (size : Nat) (r t q : List UInt8), cmdL H g pre size r = .cmd t q → q.length < r.length
  | 0, _, _, _, _, _, h => by cases h
  | g + 1, pre, size, r, t1, q1, h => by
    unfold cmdL at h
    cases hl : lfL r with
    | none =>
      rw [hl] at h
      simp only at h
      split at h <;> cases h
    | some p =>
      obtain ⟨t, q⟩ := p
      have hn := lfL_len hl
      rw [hl] at h
      simp only at h
      split at h
      · cases h
      · cases hh : H (bareE t) with
        | none =>
          rw [hh] at h
          cases h
          omega
        | some p =>
          obtain ⟨n, w⟩ := p
          rw [hh] at h
          simp only at h
          split at h
          · cases h
          · split at h
            · cases h
            · split at h
              · cases h
              · have := cmdL_less H g _ _ _ _ _ h
                rw [List.length_drop] at this
                omega
/-- What comes first of bytes. -/
def firstL (H : List UInt8 → Option (Nat × Bool)) (b : List UInt8) : Fst := cmdL H (b.length + 1) [] 0 b
/-- The commands of bytes, what waits behind them, and whether none was too great. -/
def feedsL (H : List UInt8 → Option (Nat × Bool)) : Nat → List UInt8 → List (List UInt8) × List UInt8 × Bool
  | 0, b => ([], b, true)
  | g + 1, b => match firstL H b with
    | .cmd t q => let f := feedsL H g q; (t :: f.1, f.2)
    | .bad => ([], [], false)
    | _ => ([], b, true)
theorem feedsL_fuel (H : List UInt8 → Option (Nat × Bool)) : ∀ (g h : Nat) (b : List UInt8), b.length < g → b.length < h → feedsL H g b = feedsL H h b
  | 0, _, _, h1, _ => by omega
  | _, 0, _, _, h2 => by omega
  | g + 1, h + 1, b, h1, h2 => by
    unfold feedsL
    cases hf : firstL H b with
    | cmd t q =>
      have := cmdL_less H _ _ _ _ _ _ hf
      simp only
      rw [feedsL_fuel H g h q (by omega) (by omega)]
    | bad => rfl
    | more => rfl
    | ask p => rfl
def feeds (H : List UInt8 → Option (Nat × Bool)) (b : List UInt8) : List (List UInt8) × List UInt8 × Bool := feedsL H (b.length + 1) b
theorem feeds_step {H : List UInt8 → Option (Nat × Bool)} {b t q : List UInt8} (h : firstL H b = .cmd t q) : feeds H b = (t :: (feeds H q).1, (feeds H q).2) := by
  have hl := cmdL_less H _ _ _ _ _ _ h
  unfold feeds
  conv => lhs; unfold feedsL
  rw [h]
  simp only
  rw [feedsL_fuel H b.length (q.length + 1) q hl (by omega)]
theorem feeds_bad {H : List UInt8 → Option (Nat × Bool)} {b : List UInt8} (h : firstL H b = .bad) : feeds H b = ([], [], false) := by
  unfold feeds feedsL
  rw [h]
theorem feeds_more {H : List UInt8 → Option (Nat × Bool)} {b : List UInt8} (h : firstL H b = .more) : feeds H b = ([], b, true) := by
  unfold feeds feedsL
  rw [h]
theorem feeds_ask {H : List UInt8 → Option (Nat × Bool)} {b : List UInt8} {p : Nat} (h : firstL H b = .ask p) : feeds H b = ([], b, true) := by
  unfold feeds feedsL
  rw [h]
/-- However bytes are cut, the same commands come of them. -/
theorem feeds_app (H : List UInt8 → Option (Nat × Bool)) (c : List UInt8) : ∀ (n : Nat) (a : List UInt8), a.length ≤ n →
    ((feeds H a).2.2 = true → feeds H (a ++ c) = ((feeds H a).1 ++ (feeds H ((feeds H a).2.1 ++ c)).1, (feeds H ((feeds H a).2.1 ++ c)).2)) ∧ ((feeds H a).2.2 = false → (feeds H (a ++ c)).2.2 = false) := by
  intro n
  induction n with
  | zero =>
    intro a ha
    obtain rfl : a = [] := List.eq_nil_of_length_eq_zero (by omega)
    exact ⟨fun _ => rfl, fun h => (by cases h)⟩
  | succ n ih =>
    intro a ha
    have hap := cmdL_app H c (a.length + 1) ((a ++ c).length + 1) [] 0 a (by omega) (by omega)
    cases hf : firstL H a with
    | more => rw [feeds_more hf]; exact ⟨fun _ => rfl, fun h => (by cases h)⟩
    | ask p => rw [feeds_ask hf]; exact ⟨fun _ => rfl, fun h => (by cases h)⟩
    | bad =>
      rw [feeds_bad hf, feeds_bad (b := a ++ c) (hap.2 hf)]
      exact ⟨fun h => (by cases h), fun _ => rfl⟩
    | cmd t q =>
      have hl := cmdL_less H _ _ _ _ _ _ hf
      have hi := ih q (by omega)
      rw [feeds_step hf, feeds_step (b := a ++ c) (hap.1 t q hf)]
      refine ⟨fun h => ?_, fun h => ?_⟩
      · have := hi.1 h
        simp only
        rw [this]
        rfl
      · exact hi.2 h
end Go.Proofs.YtkkdplccneeaiaaGreatDoor

/- Layer 18 in plain words: heads at a line's end; what WireLeft and WireWords say. No program. -/
namespace Go.Proofs.YtkkdplccneeaiaaGreatDoor
open Go Go.RowKit

/-- What stands behind the last byte of a kind. -/
def lastW (c : UInt8) : List UInt8 → Option (List UInt8)
  | [] => none
  | d :: r => match lastW c r with
    | some t => some t
    | none => if d = c then some r else none
theorem lastW_no (c : UInt8) : ∀ {l : List UInt8}, c ∉ l → lastW c l = none
  | [], _ => rfl
  | d :: r, h => by
    unfold lastW
    rw [lastW_no c (fun hm => h (List.mem_cons_of_mem _ hm))]
    simp only
    rw [if_neg (fun e => h (by rw [e]; exact List.mem_cons_self))]
theorem lastW_at (c : UInt8) : ∀ (a b : List UInt8), c ∉ b → lastW c (a ++ c :: b) = some b
  | [], b, h => by
    show lastW c (c :: b) = _
    unfold lastW
    rw [lastW_no c h]
    simp
  | d :: a, b, h => by
    show lastW c (d :: (a ++ c :: b)) = _
    unfold lastW
    rw [lastW_at c a b h]
/-- The number of the head that a text ends in, and whether it waits. -/
def endH (t : List UInt8) : Option (Nat × Bool) := match lastW 123 t with
  | none => none
  | some b => match headB b with
    | some (n, w, []) => some (n, w)
    | _ => none
theorem endH_no {t : List UInt8} (h : (123 : UInt8) ∉ t) : endH t = none := by
  unfold endH
  rw [lastW_no 123 h]
theorem itoa_no {n : Nat} (c : UInt8) (hc : isDig c = false) : c ∉ Lib.itoa (n : Int) := by
  intro hm
  have hd : (Lib.itoa (n : Int)).all isDig = true := by
    have := decDigits_all n
    unfold Lib.itoa
    rw [if_neg (by omega)]
    simpa using this
  have := List.all_eq_true.1 hd c hm
  rw [hc] at this
  cases this
theorem endH_head (a : List UInt8) (n : Nat) (h : n ≤ 4294967295) : endH (a ++ 123 :: (Lib.itoa (n : Int) ++ [125])) = some (n, true) := by
  unfold endH
  rw [lastW_at 123 a _ (fun hm => by
    rcases List.mem_append.1 hm with h1 | h1
    · exact itoa_no 123 (by decide) h1
    · exact absurd h1 (by decide))]
  simp only
  rw [headB_itoa n h []]
theorem bareE_cr (t : List UInt8) : bareE (t ++ [13]) = t := by
  unfold bareE
  rw [if_pos (by simp), List.dropLast_concat]
theorem bareE_no {t : List UInt8} (h : (13 : UInt8) ∉ t) : bareE t = t := by
  unfold bareE
  rw [if_neg]
  intro e
  exact h (List.mem_of_getLast? e)
/-- Bytes without a line's end wait. -/
theorem first_wait {b : List UInt8} (h : (10 : UInt8) ∉ b) (hl : b.length ≤ 65536) : firstL endH b = .more := by
  unfold firstL cmdL
  rw [lfL_no h]
  simp only
  rw [if_neg (by omega)]
/-- A whole line is a command. -/
theorem first_line {t q : List UInt8} (h : (10 : UInt8) ∉ t) (h2 : (123 : UInt8) ∉ t) (hl : t.length ≤ 60000) : firstL endH (t ++ 13 :: 10 :: q) = .cmd t q := by
  have e : t ++ 13 :: 10 :: q = (t ++ [13]) ++ 10 :: q := by rw [List.append_assoc]; rfl
  unfold firstL cmdL
  rw [e, lfL_at (t ++ [13]) q (fun hm => by
    rcases List.mem_append.1 hm with h3 | h3
    · exact h h3
    · exact absurd h3 (by decide))]
  simp only
  rw [if_neg (by rw [List.length_append]; simp; omega), bareE_cr, endH_no h2]
  simp
/-- A head at a line's end is asked behind. -/
theorem first_ask {a : List UInt8} {n : Nat} (h : (10 : UInt8) ∉ a) (hn : n ≤ 60000) (hl : a.length ≤ 60000) : firstL endH (a ++ 123 :: (Lib.itoa (n : Int) ++ [125, 13, 10])) = .ask (a ++ 123 :: (Lib.itoa (n : Int) ++ [125, 13, 10])).length := by
  have hz : (Lib.itoa (n : Int)).length ≤ 21 := Lib.itoa_length_le (n : Int) (by omega) (by omega)
  have e : a ++ 123 :: (Lib.itoa (n : Int) ++ [125, 13, 10]) = ((a ++ 123 :: (Lib.itoa (n : Int) ++ [125])) ++ [13]) ++ 10 :: [] := by simp
  have hno : (10 : UInt8) ∉ (a ++ 123 :: (Lib.itoa (n : Int) ++ [125])) ++ [13] := by
    intro hm
    simp only [List.mem_append, List.mem_cons, List.not_mem_nil, or_false] at hm
    rcases hm with (h1 | h1 | h1 | h1) | h1
    · exact h h1
    · exact absurd h1 (by decide)
    · exact itoa_no 10 (by decide) h1
    · exact absurd h1 (by decide)
    · exact absurd h1 (by decide)
  unfold firstL cmdL
  rw [e, lfL_at _ [] hno]
  simp only
  rw [if_neg (by simp; omega), bareE_cr, endH_head a n (by omega)]
  simp only
  rw [if_neg (by omega), if_pos (by simp)]
  simp
  omega
/-- Behind a head all bytes wait till a line ends. -/
theorem first_lit {a z : List UInt8} {n : Nat} (h : (10 : UInt8) ∉ a) (hn : n ≤ 60000) (hl : a.length ≤ 60000) (hz : z.length = n) (hne : z ≠ []) : firstL endH (a ++ 123 :: (Lib.itoa (n : Int) ++ 125 :: 13 :: 10 :: z)) = .more := by
  have hz2 : (Lib.itoa (n : Int)).length ≤ 21 := Lib.itoa_length_le (n : Int) (by omega) (by omega)
  have e : a ++ 123 :: (Lib.itoa (n : Int) ++ 125 :: 13 :: 10 :: z) = ((a ++ 123 :: (Lib.itoa (n : Int) ++ [125])) ++ [13]) ++ 10 :: z := by simp
  have hno : (10 : UInt8) ∉ (a ++ 123 :: (Lib.itoa (n : Int) ++ [125])) ++ [13] := by
    intro hm
    simp only [List.mem_append, List.mem_cons, List.not_mem_nil, or_false] at hm
    rcases hm with (h1 | h1 | h1 | h1) | h1
    · exact h h1
    · exact absurd h1 (by decide)
    · exact itoa_no 10 (by decide) h1
    · exact absurd h1 (by decide)
    · exact absurd h1 (by decide)
  unfold firstL
  rw [e]
  conv => lhs; unfold cmdL
  rw [lfL_at _ z hno]
  simp only
  rw [if_neg (by simp; omega), bareE_cr, endH_head a n (by omega)]
  simp only
  rw [if_neg (by omega), if_neg (fun hh => hne hh.2), if_neg (by omega), List.drop_of_length_le (by omega)]
  cases hg : ((a ++ 123 :: (Lib.itoa (n : Int) ++ [125])) ++ [13] ++ 10 :: z).length with
  | zero => simp at hg
  | succ g =>
    unfold cmdL
    rw [lfL_no (by simp)]
    simp only
    rw [if_neg (by simp; omega)]
/-- And then the line behind it is the end of the command. -/
theorem first_lit_end {a z : List UInt8} {n : Nat} (h : (10 : UInt8) ∉ a) (hn : n ≤ 60000) (hl : a.length ≤ 60000) (hz : z.length = n) : firstL endH (a ++ 123 :: (Lib.itoa (n : Int) ++ 125 :: 13 :: 10 :: (z ++ [10]))) = .cmd (a ++ 123 :: (Lib.itoa (n : Int) ++ 125 :: 13 :: 10 :: z)) [] := by
  have hz2 : (Lib.itoa (n : Int)).length ≤ 21 := Lib.itoa_length_le (n : Int) (by omega) (by omega)
  have e : a ++ 123 :: (Lib.itoa (n : Int) ++ 125 :: 13 :: 10 :: (z ++ [10])) = ((a ++ 123 :: (Lib.itoa (n : Int) ++ [125])) ++ [13]) ++ 10 :: (z ++ [10]) := by simp
  have hno : (10 : UInt8) ∉ (a ++ 123 :: (Lib.itoa (n : Int) ++ [125])) ++ [13] := by
    intro hm
    simp only [List.mem_append, List.mem_cons, List.not_mem_nil, or_false] at hm
    rcases hm with (h1 | h1 | h1 | h1) | h1
    · exact h h1
    · exact absurd h1 (by decide)
    · exact itoa_no 10 (by decide) h1
    · exact absurd h1 (by decide)
    · exact absurd h1 (by decide)
  unfold firstL
  rw [e]
  conv => lhs; unfold cmdL
  rw [lfL_at _ (z ++ [10]) hno]
  simp only
  rw [if_neg (by simp; omega), bareE_cr, endH_head a n (by omega)]
  simp only
  rw [if_neg (by omega), if_neg (by simp), if_neg (by simp; omega), List.drop_append_of_le_length (by omega), List.drop_of_length_le (by omega), List.take_append_of_le_length (by omega), List.take_of_length_le (by omega)]
  cases hg : ((a ++ 123 :: (Lib.itoa (n : Int) ++ [125])) ++ [13] ++ 10 :: (z ++ [10])).length with
  | zero => simp at hg
  | succ g =>
    unfold cmdL
    rw [show ([] : List UInt8) ++ [10] = [] ++ 10 :: [] from rfl, lfL_at [] [] (by simp)]
    simp only
    rw [if_neg (by simp; omega)]
    have : endH (bareE []) = none := rfl
    rw [this]
    simp [bareE]
/-- Texts with spaces between, in brackets: their tokens. -/
def spW : List (List UInt8) → List UInt8
  | [] => []
  | [s] => astW s
  | s :: t :: r => astW s ++ 32 :: spW (t :: r)
def spT : List (List UInt8) → List (Nat × List UInt8)
  | [] => []
  | [s] => [(if isAst s = true then 1 else 2, s)]
  | s :: t :: r => (if isAst s = true then 1 else 2, s) :: (5, []) :: spT (t :: r)
theorem toks_sp : ∀ (l : List (List UInt8)), l ≠ [] → (∀ s ∈ l, s.length ≤ 4294967295) → ∀ g, toksW (g + 2 * l.length + 1) (spW l ++ [41]) = some (spT l ++ [(4, [])])
  | [], h, _, _ => absurd rfl h
  | [s], _, hl, g => by
    show toksW (g + 2 + 1) (astW s ++ [41]) = _
    rw [toks_step (tok_ast s (q := [41]) (hl s (List.mem_singleton.2 rfl)) rfl), toks_step (tok_close []), toks_nil]
    rfl
  | s :: t :: r, _, hl, g => by
    have ih := toks_sp (t :: r) (by simp) (fun x hx => hl x (List.mem_cons_of_mem _ hx)) g
    have e : g + 2 * (s :: t :: r).length + 1 = (g + 2 * (t :: r).length + 1) + 1 + 1 := by simp; omega
    rw [e]
    show toksW _ ((astW s ++ 32 :: spW (t :: r)) ++ [41]) = _
    rw [List.append_assoc, List.cons_append]
    rw [toks_step (tok_ast s (q := 32 :: (spW (t :: r) ++ [41])) (hl s List.mem_cons_self) rfl), toks_step (tok_space _), ih]
    rfl
theorem toks_words (l : List (List UInt8)) (h : l ≠ []) (hl : ∀ s ∈ l, s.length ≤ 4294967295) (g : Nat) : toksW (g + 2 * l.length + 2) (40 :: (spW l ++ [41])) = some ((3, []) :: (spT l ++ [(4, [])])) := by
  rw [toks_step (tok_open _), toks_sp l h hl g]
  rfl
theorem spT_len : ∀ (l : List (List UInt8)), l ≠ [] → (spT l).length = 2 * l.length - 1
  | [], h => absurd rfl h
  | [s], _ => rfl
  | s :: t :: r, _ => by
    have := spT_len (t :: r) (by simp)
    show (spT (t :: r)).length + 1 + 1 = _
    rw [this]
    simp
    omega
theorem spT_at : ∀ (l : List (List UInt8)) (i : Nat) (h : i < l.length), (spT l)[2 * i]? = some (if isAst l[i] = true then 1 else 2, l[i])
  | [], i, h => by simp at h
  | [s], i, h => by
    obtain rfl : i = 0 := by simpa using h
    rfl
  | s :: t :: r, 0, _ => rfl
  | s :: t :: r, i + 1, h => by
    have := spT_at (t :: r) i (by simpa using h)
    rw [show 2 * (i + 1) = 2 * i + 2 by omega]
    show (spT (t :: r))[2 * i]? = _
    rw [this]
    rfl
theorem spW_snoc (x : List UInt8) : ∀ (l : List (List UInt8)), spW (l ++ [x]) = spW l ++ ((if l = [] then [] else [32]) ++ astW x)
  | [] => rfl
  | [s] => by
    show astW s ++ 32 :: astW x = _
    rw [if_neg (by simp)]
    rfl
  | s :: t :: r => by
    have := spW_snoc x (t :: r)
    show astW s ++ 32 :: spW (t :: (r ++ [x])) = _
    rw [show t :: (r ++ [x]) = (t :: r) ++ [x] from rfl, this, if_neg (by simp), if_neg (by simp)]
    show _ = (astW s ++ 32 :: spW (t :: r)) ++ _
    rw [List.append_assoc]
    rfl
end Go.Proofs.YtkkdplccneeaiaaGreatDoor
