/- Plain words of layer 11: names of months and zones. -/
import Derived.Test.YtpmjlhpbknppiaaDoorCharsM
import Derived.Test.YtpmjlhpbknppiaaDoorChars2
namespace Go.Proofs.YtpmjlhpbknppiaaDoor

/-- The months' names and days. -/
def monthsL : List (List UInt8 × Nat) := [([74, 97, 110], 31), ([70, 101, 98], 28), ([77, 97, 114], 31), ([65, 112, 114], 30), ([77, 97, 121], 31), ([74, 117, 110], 30), ([74, 117, 108], 31), ([65, 117, 103], 31), ([83, 101, 112], 30), ([79, 99, 116], 31), ([78, 111, 118], 30), ([68, 101, 99], 31)]
/-- The zones' names and hours. -/
def zonesL : List (List UInt8 × Int) := [([69, 83, 84], -5), ([69, 68, 84], -4), ([67, 83, 84], -6), ([67, 68, 84], -5), ([77, 83, 84], -7), ([77, 68, 84], -6), ([80, 83, 84], -8), ([80, 68, 84], -7)]
/-- Which month's name a text begins with. -/
def monI (l : List UInt8) : Nat := monthsL.findIdx (fun m => decide (3 ≤ l.length) && decide (foldS (l.take 3) = foldS m.1))
theorem monI_hit {l : List UInt8} {i : Nat} (h1 : i ≤ monI l) (h : i < monthsL.length) (h3 : 3 ≤ l.length) (he : foldS (l.take 3) = foldS monthsL[i].1) : monI l = i := by
  rcases Nat.lt_or_ge i (monI l) with h2 | h2
  · have := List.not_of_lt_findIdx (p := fun m : List UInt8 × Nat => decide (3 ≤ l.length) && decide (foldS (l.take 3) = foldS m.1)) h2
    simp [he, h3] at this
  · omega
theorem monI_step {l : List UInt8} {i : Nat} (h1 : i ≤ monI l) (h : i < monthsL.length) (hne : ¬ (3 ≤ l.length ∧ foldS (l.take 3) = foldS monthsL[i].1)) : i + 1 ≤ monI l := by
  rcases Nat.lt_or_ge i (monI l) with h2 | h2
  · exact h2
  · have e : monI l = i := by omega
    exfalso
    have h3 := List.findIdx_getElem (p := fun m : List UInt8 × Nat => decide (3 ≤ l.length) && decide (foldS (l.take 3) = foldS m.1)) (xs := monthsL) (w := by show monI l < _; omega)
    have h4 : (fun m : List UInt8 × Nat => decide (3 ≤ l.length) && decide (foldS (l.take 3) = foldS m.1)) monthsL[i] = true := by
      have : monthsL.findIdx (fun m : List UInt8 × Nat => decide (3 ≤ l.length) && decide (foldS (l.take 3) = foldS m.1)) = i := e
      simp only [this] at h3
      exact h3
    simp only [Bool.and_eq_true, decide_eq_true_eq] at h4
    exact hne h4
theorem monI_le (l : List UInt8) : monI l ≤ 12 := List.findIdx_le_length
/-- A letter. -/
def letB' (c : UInt8) : Bool := decide (97 ≤ (lowB c).toNat ∧ (lowB c).toNat ≤ 122)
/-- The hours of a zone's name, 0 of one that isn't known; the last one of the table. -/
def zonN (nm : List UInt8) : Nat → Option Int
  | 0 => none
  | n + 1 => match zonesL[n]? with
    | some z => if foldS nm = foldS z.1 then some z.2 else zonN nm n
    | none => zonN nm n
end Go.Proofs.YtpmjlhpbknppiaaDoor
