/- Contracts of the document's layer 15: names. -/
import Derived.Test.YthcleaflhljdlaaGreatDoorSfE
import Derived.Test.YthcleaflhljdlaaGreatDoorAdT
import Derived.Deep.DeepCutAuto
import Derived.Deep.CutBlock
namespace Go.Proofs.YthcleaflhljdlaaGreatDoor
open Go Go.RowKit

/-- What 'names' answers. -/
def NmsRs (w : World) (o : Option (List (List UInt8))) (e : Ending) (w' : World) : Prop :=
  match o with
  | none => e = .returned (.tuple #[.slice none 0 0, .bool false]) ∧ Below w.heap.size w w'
  | some ns => ∃ ao c, e = .returned (.tuple #[.slice ao ns.length c, .bool true]) ∧ w'.ownsRow w.heap.size 9 1 (.slice ao ns.length c) ns.length (ns.map strV) ∧ Below w.heap.size w w'
theorem nmsR_no {n : Nat} {l : List UInt8} {acc : List (List UInt8)} (h : nameR l = none) : nmsR (n + 1) l acc = none := by
  unfold nmsR; rw [h]
theorem nmsR_end {n : Nat} {l a : List UInt8} {acc : List (List UInt8)} (h : nameR l = some (a, [])) : nmsR (n + 1) l acc = some (acc ++ [a]) := by
  unfold nmsR; rw [h]
theorem nmsR_more {n : Nat} {l a r : List UInt8} {acc : List (List UInt8)} (h : nameR l = some (a, 32 :: r)) : nmsR (n + 1) l acc = nmsR n r (acc ++ [a]) := by
  conv => lhs; unfold nmsR
  rw [h]
  simp
theorem nmsR_bad {n : Nat} {l a r : List UInt8} {x : UInt8} {acc : List (List UInt8)} (h : nameR l = some (a, x :: r)) (hx : x ≠ 32) : nmsR (n + 1) l acc = none := by
  unfold nmsR; rw [h]
  simp [hx]
theorem nameR_nil : nameR [] = none := rfl
theorem nameR_q {r : List UInt8} : nameR (34 :: r) = match unqL false [] r with
    | none => none
    | some (a, r') => if quoteL a ++ r' = 34 :: r then some (a, r') else none := by
  unfold nameR
  simp only
  rw [if_pos trivial]
  rcases unqL false [] r with _ | ⟨a, r'⟩ <;> rfl
theorem nameR_a {x : UInt8} {r : List UInt8} (h : x ≠ 34) : nameR (x :: r) = if (x :: r).takeWhile (· != 32) ≠ [] ∧ ((x :: r).takeWhile (· != 32)).all atomB = true then some ((x :: r).takeWhile (· != 32), (x :: r).dropWhile (· != 32)) else none := by
  unfold nameR
  simp only
  rw [if_neg h]
theorem unqL_end (N : List UInt8) : unqL false N [] = none := rfl
theorem unqL_stop (N r : List UInt8) : unqL false N (34 :: r) = some (N, r) := by simp [unqL]
theorem unqL_stroke (N r : List UInt8) (c : UInt8) : unqL false N (92 :: c :: r) = unqL false (N ++ [c]) r := by
  conv => lhs; unfold unqL
  rw [if_neg (by decide), if_pos rfl]
  rfl
theorem unqL_stroke_end (N : List UInt8) : unqL false N [92] = none := by
  unfold unqL
  rw [if_neg (by decide), if_pos rfl]
  rfl
theorem unqL_plain (N r : List UInt8) (c : UInt8) (h1 : c ≠ 34) (h2 : c ≠ 92) : unqL false N (c :: r) = unqL false (N ++ [c]) r := by
  conv => lhs; unfold unqL
  rw [if_neg h1, if_neg h2]
theorem escL_ge : ∀ a : List UInt8, a.length ≤ (escL a).length
  | [] => Nat.le_refl _
  | c :: a => by
    have h := escL_ge a
    have h1 : 1 ≤ (escB c).length := by unfold escB; split <;> simp
    unfold escL at h ⊢
    rw [List.flatMap_cons, List.length_append, List.length_cons]
    omega
theorem nameT_same (a : List UInt8) : nameT a = a ↔ (a ≠ [] ∧ a.all atomB = true) := by
  unfold nameT atomS
  constructor
  · intro h
    split at h
    · next h2 =>
      rw [Bool.and_eq_true] at h2
      refine ⟨?_, h2.1⟩
      rintro rfl
      exact absurd h2.2 (by decide)
    · exfalso
      have := congrArg List.length h
      have h3 := escL_ge a
      unfold quoteL at this
      simp only [List.length_append, List.length_cons, List.length_nil] at this
      omega
  · intro ⟨h1, h2⟩
    rw [if_pos]
    rw [h2, Bool.true_and]
    cases a with
    | nil => exact (h1 rfl).elim
    | cons c l => rfl
end Go.Proofs.YthcleaflhljdlaaGreatDoor
