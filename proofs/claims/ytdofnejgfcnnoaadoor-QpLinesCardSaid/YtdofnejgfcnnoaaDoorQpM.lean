/- Quoted-printable in plain words: lines, texts, what bytes are encoded as. No program. -/
import Derived.Test.YtdofnejgfcnnoaaDoorKit2
namespace Go.Proofs.YtdofnejgfcnnoaaDoor
open Go Go.RowKit

def isBl (c : UInt8) : Bool := c == 32 || c == 9
def trimB (l : List UInt8) : List UInt8 := (l.reverse.dropWhile isBl).reverse
def hexV (c : UInt8) : Nat :=
  if 48 ≤ c.toNat ∧ c.toNat ≤ 57 then c.toNat - 48 else if 65 ≤ c.toNat ∧ c.toNat ≤ 70 then c.toNat - 55 else if 97 ≤ c.toNat ∧ c.toNat ≤ 102 then c.toNat - 87 else 16
def seenB (c : UInt8) : Bool := decide (33 ≤ c.toNat ∧ c.toNat ≤ 126)
def okB (c : UInt8) : Bool := seenB c || isBl c
/-- What a line's text tells. -/
def textS : List UInt8 → Option (List UInt8)
  | [] => some []
  | c :: r => if c = 61 then (match r with
      | a :: b :: r' => if hexV a < 16 ∧ hexV b < 16 then (textS r').map (byteN (hexV a * 16 + hexV b) :: ·) else none
      | _ => none)
    else if okB c = true then (textS r).map (c :: ·) else none

def feedI (l : List UInt8) : Nat := l.findIdx (· == 10)
def fromI (l : List UInt8) : Nat := if 0 < feedI l ∧ l.getD (feedI l - 1) 0 = 13 then feedI l - 1 else feedI l
def lineL (l : List UInt8) : List UInt8 := if feedI l < l.length then l.take (fromI l) else l
def endL (l : List UInt8) : List UInt8 := if feedI l < l.length then (l.drop (fromI l)).take (feedI l + 1 - fromI l) else []
def restL (l : List UInt8) : List UInt8 := l.drop (feedI l + 1)
def softL (l : List UInt8) : Bool := (trimB l).getLast? == some 61
def txtL (l : List UInt8) : List UInt8 := if softL l = true then (trimB l).dropLast else trimB l
def tailL (l : List UInt8) : List UInt8 := if softL (lineL l) = true then [] else endL l

def decF : Nat → List UInt8 → Option (List UInt8)
  | 0, _ => some []
  | n + 1, l => if l = [] then some [] else match textS (txtL (lineL l)) with
    | none => none
    | some p => (decF n (restL l)).map (p ++ tailL l ++ ·)
def decQ (l : List UInt8) : Option (List UInt8) := decF l.length l

def digB (n : Nat) : UInt8 := byteN (if n < 10 then n + 48 else n + 55)
def encB (c : UInt8) : List UInt8 := if seenB c = true ∧ c ≠ 61 then [c] else [61, digB (c.toNat / 16), digB (c.toNat % 16)]
def encQ (l : List UInt8) : List UInt8 := l.flatMap encB

theorem feedI_le (l : List UInt8) : feedI l ≤ l.length := List.findIdx_le_length
theorem fromI_le (l : List UInt8) : fromI l ≤ feedI l := by unfold fromI; split <;> omega
theorem restL_len (l : List UInt8) (h : l ≠ []) : (restL l).length < l.length := by
  have := List.length_pos_iff.2 h
  unfold restL
  rw [List.length_drop]
  omega
theorem decF_nil (n : Nat) : decF n [] = some [] := by cases n <;> rfl
theorem decF_fuel : ∀ (n m : Nat) (l : List UInt8), l.length ≤ n → l.length ≤ m → decF n l = decF m l
  | 0, m, l, h, _ => by
    obtain rfl : l = [] := List.eq_nil_of_length_eq_zero (by omega)
    rw [decF_nil, decF_nil]
  | n + 1, 0, l, _, h => by
    obtain rfl : l = [] := List.eq_nil_of_length_eq_zero (by omega)
    rw [decF_nil, decF_nil]
  | n + 1, m + 1, l, h1, h2 => by
    simp only [decF]
    by_cases h0 : l = []
    · rw [if_pos h0, if_pos h0]
    · have := restL_len l h0
      rw [if_neg h0, if_neg h0, decF_fuel n m (restL l) (by omega) (by omega)]
theorem decQ_nil : decQ [] = some [] := rfl
theorem decQ_step (l : List UInt8) (h : l ≠ []) : decQ l = match textS (txtL (lineL l)) with
    | none => none
    | some p => (decQ (restL l)).map (p ++ tailL l ++ ·) := by
  have hr := restL_len l h
  unfold decQ
  obtain ⟨n, hn⟩ : ∃ n, l.length = n + 1 := ⟨l.length - 1, by omega⟩
  rw [hn, decF, if_neg h, decF_fuel n (restL l).length (restL l) (by omega) (by omega)]
theorem decQ_none {l : List UInt8} (h : l ≠ []) (ht : textS (txtL (lineL l)) = none) : decQ l = none := by rw [decQ_step l h, ht]
theorem decQ_some {l p : List UInt8} (h : l ≠ []) (ht : textS (txtL (lineL l)) = some p) : decQ l = (decQ (restL l)).map (p ++ tailL l ++ ·) := by rw [decQ_step l h, ht]

theorem hexV_dig : ∀ n, n < 16 → hexV (digB n) = n := by decide
theorem digB_seen : ∀ n, n < 16 → seenB (digB n) = true ∧ digB n ≠ 61 := by decide
theorem seenB_iff (c : UInt8) : seenB c = true ↔ 33 ≤ c.toNat ∧ c.toNat ≤ 126 := by unfold seenB; simp
theorem encB_seen (c : UInt8) : ∀ x ∈ encB c, seenB x = true := by
  intro x hx
  unfold encB at hx
  have hc := c.toNat_lt
  split at hx
  · rename_i h
    simp at hx
    subst hx
    exact h.1
  · simp at hx
    rcases hx with rfl | rfl | rfl
    · decide
    · exact (digB_seen _ (by omega)).1
    · exact (digB_seen _ (by omega)).1
theorem encQ_seen (l : List UInt8) : ∀ x ∈ encQ l, seenB x = true := by
  intro x hx
  unfold encQ at hx
  obtain ⟨c, _, hx⟩ := List.mem_flatMap.1 hx
  exact encB_seen c x hx
theorem encQ_append (a b : List UInt8) : encQ (a ++ b) = encQ a ++ encQ b := by simp [encQ]
theorem encQ_cons (a : UInt8) (b : List UInt8) : encQ (a :: b) = encB a ++ encQ b := by simp [encQ]
theorem encB_len (c : UInt8) : 1 ≤ (encB c).length ∧ (encB c).length ≤ 3 := by unfold encB; split <;> simp
theorem encQ_len : ∀ l : List UInt8, (encQ l).length ≤ 3 * l.length
  | [] => by simp [encQ]
  | a :: r => by
    have := encQ_len r
    have := encB_len a
    rw [encQ_cons, List.length_append, List.length_cons]
    omega
theorem encB_last (c : UInt8) : ∃ t x, encB c = t ++ [x] ∧ x ≠ 61 := by
  have hc := c.toNat_lt
  unfold encB
  split
  · rename_i h
    exact ⟨[], c, rfl, h.2⟩
  · exact ⟨[61, digB (c.toNat / 16)], digB (c.toNat % 16), rfl, (digB_seen _ (by omega)).2⟩
theorem encQ_last (l : List UInt8) : (encQ l).getLast? ≠ some 61 := by
  rcases List.eq_nil_or_concat l with rfl | ⟨t, x, rfl⟩
  · simp [encQ]
  · obtain ⟨u, y, h1, h2⟩ := encB_last x
    rw [List.concat_eq_append, encQ_append]
    simp only [encQ, List.flatMap_cons, List.flatMap_nil, List.append_nil]
    rw [h1, ← List.append_assoc, List.getLast?_append]
    simp
    exact h2
theorem textS_other (c : UInt8) (r : List UInt8) (h1 : c ≠ 61) : textS (c :: r) = if okB c = true then (textS r).map (c :: ·) else none := by
  rw [textS.eq_def]
  simp only
  rw [if_neg h1]
theorem textS_seen (c : UInt8) (r : List UInt8) (h : okB c = true) (h1 : c ≠ 61) : textS (c :: r) = (textS r).map (c :: ·) := by
  rw [textS_other c r h1, if_pos h]
theorem textS_bad (c : UInt8) (r : List UInt8) (h : okB c = false) (h1 : c ≠ 61) : textS (c :: r) = none := by
  rw [textS_other c r h1, h]
  rfl
theorem textS_hex (a b : UInt8) (r : List UInt8) (h : hexV a < 16 ∧ hexV b < 16) : textS (61 :: a :: b :: r) = (textS r).map (byteN (hexV a * 16 + hexV b) :: ·) := by
  simp only [textS]
  rw [if_pos trivial, if_pos h]
theorem textS_nohex (a b : UInt8) (r : List UInt8) (h : ¬ (hexV a < 16 ∧ hexV b < 16)) : textS (61 :: a :: b :: r) = none := by
  simp only [textS]
  rw [if_pos trivial, if_neg h]
theorem textS_short (r : List UInt8) (h : r.length < 2) : textS (61 :: r) = none := by
  match r, h with
  | [], _ => rfl
  | [a], _ => rfl
  | a :: b :: r, h => simp only [List.length_cons] at h; omega
theorem textS_encB (c : UInt8) (r : List UInt8) : textS (encB c ++ r) = (textS r).map (c :: ·) := by
  have hc := c.toNat_lt
  unfold encB
  split
  · rename_i h
    exact textS_seen c r (by unfold okB; rw [h.1]; rfl) h.2
  · have h1 := hexV_dig (c.toNat / 16) (by omega)
    have h2 := hexV_dig (c.toNat % 16) (by omega)
    have := textS_hex (digB (c.toNat / 16)) (digB (c.toNat % 16)) r (by omega)
    rw [h1, h2] at this
    have e : byteN (c.toNat / 16 * 16 + c.toNat % 16) = c := by
      apply toNat_eq
      rw [byteN_toNat _ (by omega)]
      omega
    rw [e] at this
    exact this
theorem textS_encQ : ∀ (l r : List UInt8), textS (encQ l ++ r) = (textS r).map (l ++ ·)
  | [], r => by simp [encQ]
  | c :: l, r => by
    rw [encQ_cons, List.append_assoc, textS_encB, textS_encQ l r]
    simp [Function.comp_def]

theorem seen_noblank {c : UInt8} (h : seenB c = true) : isBl c = false := by
  rw [seenB_iff] at h
  unfold isBl
  have e1 : (c == 32) = false := by rw [beq_eq_false_iff_ne]; rintro rfl; simp at h
  have e2 : (c == 9) = false := by rw [beq_eq_false_iff_ne]; rintro rfl; simp at h
  rw [e1, e2]; rfl
theorem trimB_keep {l : List UInt8} (h : ∀ x, l.getLast? = some x → isBl x = false) : trimB l = l := by
  unfold trimB
  rcases List.eq_nil_or_concat l with rfl | ⟨t, x, rfl⟩
  · rfl
  · have := h x (by simp)
    simp [this]
theorem trimB_snoc {l : List UInt8} {c : UInt8} (h : isBl c = true) : trimB (l ++ [c]) = trimB l := by
  unfold trimB
  simp [h]
theorem trimB_blanks (l : List UInt8) : ∀ (n : Nat) (bl : List UInt8), bl.length = n → (∀ x ∈ bl, isBl x = true) → trimB (l ++ bl) = trimB l
  | 0, bl, h, _ => by
    obtain rfl : bl = [] := List.eq_nil_of_length_eq_zero h
    simp
  | n + 1, bl, h, hb => by
    rcases List.eq_nil_or_concat bl with rfl | ⟨t, x, rfl⟩
    · simp at h
    · rw [List.concat_eq_append] at h hb ⊢
      rw [← List.append_assoc, trimB_snoc (hb x (by simp)), trimB_blanks l n t (by simp at h; omega) (fun y hy => hb y (by simp [hy]))]
theorem feedI_no {l : List UInt8} (h : ∀ x ∈ l, x ≠ 10) : feedI l = l.length := by
  unfold feedI
  rw [List.findIdx_eq_length]
  intro x hx
  have := h x hx
  simpa using this
theorem feedI_at {l r : List UInt8} (h : ∀ x ∈ l, x ≠ 10) : feedI (l ++ 10 :: r) = l.length := by
  unfold feedI
  rw [List.findIdx_append]
  have h1 := feedI_no h
  unfold feedI at h1
  rw [h1, if_neg (by omega)]
  simp [List.findIdx_cons]
theorem restL_at {l r : List UInt8} (h : ∀ x ∈ l, x ≠ 10) : restL (l ++ 10 :: r) = r := by
  unfold restL
  rw [feedI_at h]
  simp
theorem line_no {l : List UInt8} (h : ∀ x ∈ l, x ≠ 10) : lineL l = l ∧ endL l = [] ∧ restL l = [] := by
  have h1 := feedI_no h
  unfold lineL endL restL
  rw [h1, if_neg (by omega), if_neg (by omega)]
  simp
theorem line_lf {l r : List UInt8} (h : ∀ x ∈ l, x ≠ 10) (h13 : l.getLast? ≠ some 13) : lineL (l ++ 10 :: r) = l ∧ endL (l ++ 10 :: r) = [10] := by
  have h1 := feedI_at (r := r) h
  have h2 : fromI (l ++ 10 :: r) = l.length := by
    unfold fromI
    rw [h1]
    rw [if_neg]
    rintro ⟨a, b⟩
    apply h13
    rw [List.getLast?_eq_getElem?]
    rw [List.getD_eq_getElem?_getD, List.getElem?_append_left (by omega), List.getElem?_eq_getElem (by omega)] at b
    rw [List.getElem?_eq_getElem (by omega)]
    simpa using b
  unfold lineL endL
  rw [h2, h1, if_pos (by simp), if_pos (by simp)]
  simp
theorem line_crlf {l r : List UInt8} (h : ∀ x ∈ l, x ≠ 10) : lineL (l ++ 13 :: 10 :: r) = l ∧ endL (l ++ 13 :: 10 :: r) = [13, 10] ∧ restL (l ++ 13 :: 10 :: r) = r := by
  have e : l ++ 13 :: 10 :: r = (l ++ [13]) ++ 10 :: r := by simp
  have hn : ∀ x ∈ l ++ [13], x ≠ (10 : UInt8) := by
    intro x hx
    rcases List.mem_append.1 hx with hx | hx
    · exact h x hx
    · simp at hx; subst hx; decide
  have h1 := feedI_at (r := r) hn
  have h2 : fromI ((l ++ [13]) ++ 10 :: r) = l.length := by
    unfold fromI
    rw [h1, if_pos]
    · simp
    · refine ⟨by simp, ?_⟩
      simp
  refine ⟨?_, ?_, ?_⟩
  · unfold lineL
    rw [e, h2, h1, if_pos (by simp)]
    simp
  · unfold endL
    rw [e, h2, h1, if_pos (by simp)]
    simp
    rw [show l.length + 1 + 1 - l.length = 2 by omega]
    rfl
  · rw [e]
    exact restL_at hn

/-- What stands ahead is told, whatever stands behind. -/
def Ahead (pre v : List UInt8) : Prop := ∀ r, decQ (pre ++ r) = (decQ r).map (v ++ ·)
theorem Ahead.nil : Ahead [] [] := fun r => by simp
theorem Ahead.append {p1 p2 v1 v2 : List UInt8} (h1 : Ahead p1 v1) (h2 : Ahead p2 v2) : Ahead (p1 ++ p2) (v1 ++ v2) := fun r => by
  rw [List.append_assoc, h1, h2]
  simp [Function.comp_def]
/-- A line that ends in a line feed: its blanks and its end. -/
theorem ahead_line {p bl : List UInt8} (cr : Bool) (h10 : ∀ x ∈ p, seenB x = true) (hb : ∀ x ∈ bl, isBl x = true) (hn : p.getLast? ≠ some 61) {v : List UInt8} (ht : textS p = some v) :
    Ahead (p ++ bl ++ ((if cr then [13] else []) ++ [10])) (v ++ ((if cr then [13] else []) ++ [10])) := by
  have hno : ∀ x ∈ p ++ bl, x ≠ (10 : UInt8) ∧ x ≠ 13 := by
    intro x hx
    rcases List.mem_append.1 hx with hx | hx
    · have := (seenB_iff x).1 (h10 x hx)
      constructor <;> rintro rfl <;> simp at this
    · have := hb x hx
      constructor <;> rintro rfl <;> simp [isBl] at this
  have htr : trimB (p ++ bl) = p := by
    rw [trimB_blanks p _ bl rfl hb]
    apply trimB_keep
    intro x hx
    exact seen_noblank (h10 x (List.mem_of_getLast? hx))
  have hs : softL (p ++ bl) = false := by
    unfold softL
    rw [htr]
    simpa using hn
  have hx : txtL (p ++ bl) = p := by unfold txtL; rw [hs, htr]; rfl
  intro r
  cases cr
  · have hl := line_lf (l := p ++ bl) (r := r) (fun x hx => (hno x hx).1) (fun h => (hno 13 (List.mem_of_getLast? h)).2 rfl)
    have e : p ++ bl ++ ((if false = true then [13] else []) ++ [10]) ++ r = (p ++ bl) ++ 10 :: r := by simp
    rw [e, decQ_some (p := v) (by simp) (by rw [hl.1, hx]; exact ht), restL_at (fun x hx => (hno x hx).1)]
    unfold tailL
    rw [hl.1, hs, hl.2]
    simp
  · have hl := line_crlf (l := p ++ bl) (r := r) (fun x hx => (hno x hx).1)
    have e : p ++ bl ++ ((if true = true then [13] else []) ++ [10]) ++ r = (p ++ bl) ++ 13 :: 10 :: r := by simp
    rw [e, decQ_some (p := v) (by simp) (by rw [hl.1, hx]; exact ht), hl.2.2]
    unfold tailL
    rw [hl.1, hs, hl.2.1]
    simp
/-- A soft line. -/
theorem ahead_soft {p bl : List UInt8} (cr : Bool) (h10 : ∀ x ∈ p, seenB x = true) (hb : ∀ x ∈ bl, isBl x = true) {v : List UInt8} (ht : textS p = some v) :
    Ahead (p ++ [61] ++ bl ++ ((if cr then [13] else []) ++ [10])) v := by
  have hno : ∀ x ∈ p ++ [61] ++ bl, x ≠ (10 : UInt8) ∧ x ≠ 13 := by
    intro x hx
    rcases List.mem_append.1 hx with hx | hx
    · rcases List.mem_append.1 hx with hx | hx
      · have := (seenB_iff x).1 (h10 x hx)
        constructor <;> rintro rfl <;> simp at this
      · simp at hx; subst hx; decide
    · have := hb x hx
      constructor <;> rintro rfl <;> simp [isBl] at this
  have htr : trimB (p ++ [61] ++ bl) = p ++ [61] := by
    rw [trimB_blanks (p ++ [61]) _ bl rfl hb]
    apply trimB_keep
    intro x hx
    simp at hx
    subst hx
    rfl
  have hs : softL (p ++ [61] ++ bl) = true := by
    unfold softL
    rw [htr]
    simp
  have hx : txtL (p ++ [61] ++ bl) = p := by unfold txtL; rw [hs, htr]; simp
  intro r
  cases cr
  · have hl := line_lf (l := p ++ [61] ++ bl) (r := r) (fun x hx => (hno x hx).1) (fun h => (hno 13 (List.mem_of_getLast? h)).2 rfl)
    have e : p ++ [61] ++ bl ++ ((if false = true then [13] else []) ++ [10]) ++ r = (p ++ [61] ++ bl) ++ 10 :: r := by simp
    rw [e, decQ_some (p := v) (by simp) (by rw [hl.1, hx]; exact ht), restL_at (fun x hx => (hno x hx).1)]
    unfold tailL
    rw [hl.1, hs]
    simp
  · have hl := line_crlf (l := p ++ [61] ++ bl) (r := r) (fun x hx => (hno x hx).1)
    have e : p ++ [61] ++ bl ++ ((if true = true then [13] else []) ++ [10]) ++ r = (p ++ [61] ++ bl) ++ 13 :: 10 :: r := by simp
    rw [e, decQ_some (p := v) (by simp) (by rw [hl.1, hx]; exact ht), hl.2.2]
    unfold tailL
    rw [hl.1, hs]
    simp
/-- A last line without an end. -/
theorem decQ_last {p : List UInt8} (h0 : p ≠ []) (h10 : ∀ x ∈ p, x ≠ 10) (hl : ∀ x, p.getLast? = some x → isBl x = false ∧ x ≠ 61) : decQ p = textS p := by
  have h1 := line_no h10
  have htr : trimB p = p := trimB_keep fun x hx => (hl x hx).1
  have hs : softL p = false := by
    unfold softL
    rw [htr]
    simp only [beq_eq_false_iff_ne]
    intro h
    exact (hl 61 h).2 rfl
  have hx : txtL p = p := by unfold txtL; rw [hs, htr]; rfl
  rw [decQ_step p h0, h1.1, hx, h1.2.2]
  have e : tailL p = [] := by unfold tailL; rw [h1.2.1]; simp
  rw [e, decQ_nil]
  cases textS p <;> simp
theorem seen_no10 {x : UInt8} (h : seenB x = true) : x ≠ 10 := by
  have := (seenB_iff x).1 h
  rintro rfl
  simp at this
theorem decQ_encQ (l : List UInt8) : decQ (encQ l) = some l := by
  by_cases h0 : encQ l = []
  · rw [h0]
    rcases l with _ | ⟨c, r⟩
    · rfl
    · have := encB_len c
      rw [encQ_cons] at h0
      have := congrArg List.length h0
      simp at this
      simp [this.1] at *
  · have := textS_encQ l []
    rw [decQ_last h0 (fun x hx => seen_no10 (encQ_seen l x hx)) (fun x hx => ⟨seen_noblank (encQ_seen l x (List.mem_of_getLast? hx)), fun h => encQ_last l (h ▸ hx)⟩)]
    simpa [textS] using this
end Go.Proofs.YtdofnejgfcnnoaaDoor
