/- Texts without their encoded words, and as encoded words, plain. No program. -/
import Derived.Test.YtolkjaebhhbilaaDoorWdM
namespace Go.Proofs.YtolkjaebhhbilaaDoor
open Go Go.RowKit

/-! ### Decode -/
/-- What is still told: none: no word stands ahead; some: the blanks behind the last one. -/
def decF : Nat → Option (List UInt8) → List UInt8 → List UInt8
  | 0, p, _ => p.getD []
  | _ + 1, p, [] => p.getD []
  | n + 1, p, c :: r => match ewL (c :: r) with
    | some (t, k) => t ++ decF n (some []) ((c :: r).drop k)
    | none => match p with
      | none => c :: decF n none r
      | some q => if blk c then decF n (some (q ++ [c])) r else q ++ c :: decF n none r
def decM (p : Option (List UInt8)) (l : List UInt8) : List UInt8 := decF l.length p l
theorem decF_nil (n : Nat) (p : Option (List UInt8)) : decF n p [] = p.getD [] := by cases n <;> rfl
theorem decF_same : ∀ (n m : Nat) (p : Option (List UInt8)) (l : List UInt8), l.length ≤ n → l.length ≤ m → decF n p l = decF m p l
  | n, m, p, [], _, _ => by rw [decF_nil, decF_nil]
  | 0, m, p, c :: r, h, _ => by simp at h
  | n + 1, 0, p, c :: r, _, h => by simp at h
  | n + 1, m + 1, p, c :: r, h, h' => by
    unfold decF
    simp only [List.length_cons] at h h'
    cases hw : ewL (c :: r) with
    | some x =>
      obtain ⟨t, k⟩ := x
      have hk := (ewL_len hw).1
      simp only
      rw [decF_same n m (some []) ((c :: r).drop k) (by simp; omega) (by simp; omega)]
    | none =>
      cases p with
      | none =>
        simp only
        rw [decF_same n m none r (by omega) (by omega)]
      | some q =>
        simp only
        rw [decF_same n m none r (by omega) (by omega), decF_same n m (some (q ++ [c])) r (by omega) (by omega)]
theorem decM_nil (p : Option (List UInt8)) : decM p [] = p.getD [] := rfl
theorem decM_word (p : Option (List UInt8)) {l t : List UInt8} {k : Nat} (h : ewL l = some (t, k)) : decM p l = t ++ decM (some []) (l.drop k) := by
  match l with
  | [] => rw [ewL_nil] at h; cases h
  | c :: r =>
    have hk := (ewL_len h).1
    show decF (r.length + 1) p (c :: r) = _
    unfold decF
    rw [h]
    simp only
    unfold decM
    rw [decF_same r.length ((c :: r).drop k).length _ _ (by simp; omega) (Nat.le_refl _)]
theorem decM_out {c : UInt8} {r : List UInt8} (h : ewL (c :: r) = none) : decM none (c :: r) = c :: decM none r := by
  show decF (r.length + 1) none (c :: r) = _
  unfold decF
  rw [h]
  rfl
theorem decM_blank (q : List UInt8) {c : UInt8} {r : List UInt8} (h : ewL (c :: r) = none) (hb : blk c = true) : decM (some q) (c :: r) = decM (some (q ++ [c])) r := by
  show decF (r.length + 1) (some q) (c :: r) = _
  unfold decF
  rw [h]
  simp only
  rw [if_pos hb]
  rfl
theorem decM_other (q : List UInt8) {c : UInt8} {r : List UInt8} (h : ewL (c :: r) = none) (hb : blk c = false) : decM (some q) (c :: r) = q ++ c :: decM none r := by
  show decF (r.length + 1) (some q) (c :: r) = _
  unfold decF
  rw [h]
  simp only
  rw [if_neg (by rw [hb]; decide)]
  rfl
theorem blk_ne {c : UInt8} (h : blk c = true) : c ≠ 61 := by
  rintro rfl
  revert h
  decide
/-- Blanks ahead: they wait. -/
theorem decM_blanks (X : List UInt8) : ∀ (g q : List UInt8), (∀ c ∈ g, blk c = true) → decM (some q) (g ++ X) = decM (some (q ++ g)) X
  | [], q, _ => by rw [List.nil_append, List.append_nil]
  | c :: g, q, h => by
    have hc := h c List.mem_cons_self
    rw [List.cons_append, decM_blank q (ewL_one _ (blk_ne hc)) hc, decM_blanks X g (q ++ [c]) (fun x hx => h x (List.mem_cons_of_mem _ hx)), List.append_assoc]
    rfl
/-- A text without the sign stays, whatever stands behind, if it begins otherwise. -/
theorem decM_stays (Y : List UInt8) (hY : Y[0]? ≠ some 63) : ∀ a : List UInt8, (63 : UInt8) ∉ a → decM none (a ++ Y) = a ++ decM none Y
  | [], _ => rfl
  | c :: a, h => by
    have ha : (63 : UInt8) ∉ a := fun m => h (List.mem_cons_of_mem _ m)
    have hs : ewL (c :: (a ++ Y)) = none := by
      refine ewL_second ?_
      rw [List.getElem?_cons_succ]
      match a, ha with
      | [], _ => exact hY
      | d :: a', ha => intro e; simp at e; exact ha (by rw [e]; exact List.mem_cons_self)
    rw [List.cons_append, decM_out hs, decM_stays Y hY a ha]
    rfl
theorem decM_id (a : List UInt8) (h : (63 : UInt8) ∉ a) : decM none a = a := by
  have := decM_stays [] (by simp) a h
  rw [List.append_nil, decM_nil] at this
  simpa using this

/-! ### Encode -/
def contB (c : UInt8) : Bool := decide (128 ≤ c.toNat ∧ c.toNat < 192)
def backL (l : List UInt8) : Nat → Nat
  | 0 => 0
  | k + 1 => if contB (l.getD (k + 1) 0) then backL l k else k + 1
theorem backL_le (l : List UInt8) : ∀ k, backL l k ≤ k
  | 0 => Nat.le_refl _
  | k + 1 => by
    unfold backL
    split
    · have := backL_le l k; omega
    · exact Nat.le_refl _
theorem backL_ge (l : List UInt8) {j : Nat} (hj : contB (l.getD j 0) = false) : ∀ k, j ≤ k → j ≤ backL l k
  | 0, h => h
  | k + 1, h => by
    unfold backL
    split
    · next hc =>
      have : j ≠ k + 1 := by rintro rfl; rw [hj] at hc; cases hc
      exact backL_ge l hj k (by omega)
    · exact h
theorem backL_at (l : List UInt8) : ∀ k, 0 < backL l k → contB (l.getD (backL l k) 0) = false
  | 0, h => by simp [backL] at h
  | k + 1, h => by
    unfold backL at h ⊢
    split
    · next hc => rw [if_pos hc] at h; exact backL_at l k h
    · next hc => simpa using hc
def takenN (l : List UInt8) : Nat := if l.length ≤ 45 then l.length else if backL l 45 = 0 then 45 else backL l 45
theorem takenN_le (l : List UInt8) : takenN l ≤ l.length ∧ takenN l ≤ 45 := by
  unfold takenN
  have := backL_le l 45
  split
  · omega
  · split <;> omega
theorem takenN_pos {l : List UInt8} (h : l ≠ []) : 0 < takenN l := by
  have := List.length_pos_iff.2 h
  unfold takenN
  split
  · exact this
  · split <;> omega
def openW : List UInt8 := [61, 63, 117, 116, 102, 45, 56, 63, 66, 63]
def pieceL (b : List UInt8) : List UInt8 := openW ++ (encS b ++ [63, 61])
def encF : Nat → List UInt8 → List UInt8
  | 0, _ => []
  | n + 1, l => if l = [] then [] else 32 :: (pieceL (l.take (takenN l)) ++ encF n (l.drop (takenN l)))
def encA (l : List UInt8) : List UInt8 := encF l.length l
def encodeL (l : List UInt8) : List UInt8 := (encA l).drop 1
theorem encF_nil (n : Nat) : encF n [] = [] := by cases n <;> rfl
theorem encF_same : ∀ (n m : Nat) (l : List UInt8), l.length ≤ n → l.length ≤ m → encF n l = encF m l
  | 0, m, l, h, _ => by rw [List.eq_nil_of_length_eq_zero (Nat.le_zero.1 h), encF_nil, encF_nil]
  | n + 1, 0, l, _, h => by rw [List.eq_nil_of_length_eq_zero (Nat.le_zero.1 h), encF_nil, encF_nil]
  | n + 1, m + 1, l, h, h' => by
    unfold encF
    by_cases hn : l = []
    · rw [if_pos hn, if_pos hn]
    · have := takenN_pos hn
      have h0 := List.length_pos_iff.2 hn
      rw [if_neg hn, if_neg hn, encF_same n m _ (by rw [List.length_drop]; omega) (by rw [List.length_drop]; omega)]
theorem encA_nil : encA [] = [] := rfl
theorem encA_step {l : List UInt8} (h : l ≠ []) : encA l = 32 :: (pieceL (l.take (takenN l)) ++ encA (l.drop (takenN l))) := by
  have h0 := List.length_pos_iff.2 h
  have hp := takenN_pos h
  obtain ⟨n, hn⟩ : ∃ n, l.length = n + 1 := ⟨l.length - 1, by omega⟩
  unfold encA
  rw [hn]
  show (if l = [] then [] else 32 :: (pieceL (l.take (takenN l)) ++ encF n (l.drop (takenN l)))) = _
  rw [if_neg h, encF_same n (l.drop (takenN l)).length _ (by rw [List.length_drop]; omega) (Nat.le_refl _)]
theorem encodeL_nil : encodeL [] = [] := rfl
theorem encodeL_step {l : List UInt8} (h : l ≠ []) : encodeL l = pieceL (l.take (takenN l)) ++ encA (l.drop (takenN l)) := by
  unfold encodeL
  rw [encA_step h]
  rfl
theorem pieceL_len (b : List UInt8) : (pieceL b).length = (b.length + 2) / 3 * 4 + 12 := by
  unfold pieceL openW
  rw [List.length_append, List.length_append, enc_len]
  simp
  omega
theorem encA_len : ∀ (n : Nat) (l : List UInt8), l.length ≤ n → (encA l).length ≤ 17 * l.length
  | 0, l, h => by rw [List.eq_nil_of_length_eq_zero (Nat.le_zero.1 h)]; exact Nat.zero_le _
  | n + 1, l, h => by
    by_cases hn : l = []
    · subst hn; exact Nat.zero_le _
    · have h0 := List.length_pos_iff.2 hn
      have hp := takenN_pos hn
      have hl := (takenN_le l).1
      have ih := encA_len n (l.drop (takenN l)) (by rw [List.length_drop]; omega)
      rw [encA_step hn, List.length_cons, List.length_append, pieceL_len, List.length_take]
      rw [List.length_drop] at ih
      omega
end Go.Proofs.YtolkjaebhhbilaaDoor
