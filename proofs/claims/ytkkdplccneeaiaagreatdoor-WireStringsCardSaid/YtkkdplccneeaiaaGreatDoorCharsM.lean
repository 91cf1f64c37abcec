/- Plain facts on lists of bytes: trimming, small letters, parts. Nothing of the program. -/
import Derived.Lib.Hide
namespace Go.Proofs.YtkkdplccneeaiaaGreatDoor

def blk (b : UInt8) : Bool := decide ((b.toNat : Int) = 32 ∨ (b.toNat : Int) = 9)
def trimS (l : List UInt8) : List UInt8 := ((l.dropWhile blk).reverse.dropWhile blk).reverse

theorem dropWhile_app {α : Type} (p : α → Bool) : ∀ (a m : List α), a.all p = true → (a ++ m).dropWhile p = m.dropWhile p
  | [], m, _ => rfl
  | x :: a, m, h => by
    rw [List.all_cons, Bool.and_eq_true] at h
    rw [List.cons_append, List.dropWhile_cons_of_pos h.1, dropWhile_app p a m h.2]
theorem dropWhile_head {α : Type} (p : α → Bool) (m b : List α) (h : ∀ x, m.head? = some x → p x = false) (hm : m ≠ []) : (m ++ b).dropWhile p = m ++ b := by
  match m with
  | [] => exact (hm rfl).elim
  | x :: m => rw [List.cons_append, List.dropWhile_cons_of_neg (by simp [h x rfl])]
theorem dropWhile_all {α : Type} (p : α → Bool) (a : List α) (h : a.all p = true) : a.dropWhile p = [] := by
  have := dropWhile_app p a [] h
  simpa using this

theorem trim_of (a m b : List UInt8) (ha : a.all blk = true) (hb : b.all blk = true) (h1 : ∀ x, m.head? = some x → blk x = false) (h2 : ∀ x, m.getLast? = some x → blk x = false) :
    trimS (a ++ m ++ b) = m := by
  unfold trimS
  rw [List.append_assoc, dropWhile_app blk a _ ha]
  by_cases hm : m = []
  · subst hm
    rw [List.nil_append, dropWhile_all blk b hb]
    rfl
  · rw [dropWhile_head blk m b h1 hm, List.reverse_append, dropWhile_app blk b.reverse _ (by simpa using hb)]
    have := dropWhile_head blk m.reverse [] (by simpa using h2) (by simpa using hm)
    rw [List.append_nil] at this
    rw [this, List.reverse_reverse]

/-- A text falls into blanks, what is left when it is trimmed, and blanks. -/
theorem takeWhile_all {α : Type} (p : α → Bool) : ∀ l : List α, (l.takeWhile p).all p = true
  | [] => rfl
  | x :: l => by
    by_cases h : p x = true
    · rw [List.takeWhile_cons_of_pos h, List.all_cons, h, takeWhile_all p l]; rfl
    · rw [List.takeWhile_cons_of_neg h]; rfl
theorem dropWhile_first {α : Type} (p : α → Bool) : ∀ (l : List α) x, (l.dropWhile p).head? = some x → p x = false
  | [], x, h => by simp at h
  | y :: l, x, h => by
    by_cases hp : p y = true
    · rw [List.dropWhile_cons_of_pos hp] at h; exact dropWhile_first p l x h
    · rw [List.dropWhile_cons_of_neg hp] at h
      simp at h; subst h; simpa using hp
theorem trim_parts (l : List UInt8) : ∃ a b, l = a ++ trimS l ++ b ∧ a.all blk = true ∧ b.all blk = true ∧ (∀ x, (trimS l).head? = some x → blk x = false) ∧ (∀ x, (trimS l).getLast? = some x → blk x = false) := by
  let m := l.dropWhile blk
  have e1 : l = l.takeWhile blk ++ m := (List.takeWhile_append_dropWhile).symm
  have e2 : m.reverse = m.reverse.takeWhile blk ++ m.reverse.dropWhile blk := (List.takeWhile_append_dropWhile).symm
  have e3 : m = (m.reverse.dropWhile blk).reverse ++ (m.reverse.takeWhile blk).reverse := by
    rw [← List.reverse_append, ← e2, List.reverse_reverse]
  have e4 : trimS l = (m.reverse.dropWhile blk).reverse := rfl
  refine ⟨l.takeWhile blk, (m.reverse.takeWhile blk).reverse, ?_, takeWhile_all _ _, by rw [List.all_reverse]; exact takeWhile_all _ _, ?_, ?_⟩
  · rw [e4, List.append_assoc, ← e3]; exact e1
  · rw [e4]
    intro x hx
    have hm : m.head? = some x := by
      rw [e3]
      match h : (m.reverse.dropWhile blk).reverse, hx with
      | y :: r, hx => simpa using hx
    exact dropWhile_first blk l x hm
  · rw [e4]
    intro x hx
    rw [List.getLast?_reverse] at hx
    exact dropWhile_first blk _ x hx

def lowB (b : UInt8) : UInt8 := if 65 ≤ b.toNat ∧ b.toNat ≤ 90 then b + 32 else b
theorem lowB_toNat (b : UInt8) : (lowB b).toNat = if 65 ≤ b.toNat ∧ b.toNat ≤ 90 then b.toNat + 32 else b.toNat := by
  unfold lowB
  split
  · rw [UInt8.toNat_add]; have : (32 : UInt8).toNat = 32 := rfl; omega
  · rfl
def foldS (l : List UInt8) : List UInt8 := l.map lowB

/-- The parts of a text between bytes of a kind: what is read so far of the part under way stands in 'cur'. -/
def splitAux (c : UInt8) : List UInt8 → List UInt8 → List (List UInt8)
  | [], cur => [cur]
  | b :: l, cur => if b = c then cur :: splitAux c l [] else splitAux c l (cur ++ [b])
def splitS (c : UInt8) (l : List UInt8) : List (List UInt8) := splitAux c l []

theorem splitAux_length (c : UInt8) : ∀ l cur, 1 ≤ (splitAux c l cur).length ∧ (splitAux c l cur).length ≤ l.length + 1
  | [], cur => by simp [splitAux]
  | b :: l, cur => by
    unfold splitAux
    split
    · have := splitAux_length c l []; simp; omega
    · have := splitAux_length c l (cur ++ [b]); simp; omega
end Go.Proofs.YtkkdplccneeaiaaGreatDoor
