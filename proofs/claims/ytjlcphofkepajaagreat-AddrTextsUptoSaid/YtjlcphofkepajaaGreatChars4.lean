/- Contracts of Same, Fold and the document's Fold. -/
import Derived.Test.YtjlcphofkepajaaGreatChars3
import Derived.Laws.IdiomStrings
namespace Go.Proofs.YtjlcphofkepajaaGreat
open Go Go.RowKit

theorem lowI_nat (b : UInt8) : lowI (b.toNat : Int) = ((lowB b).toNat : Int) := by
  unfold lowI
  rw [lowB_toNat]
  by_cases h : 65 ≤ b.toNat ∧ b.toNat ≤ 90
  · rw [if_pos (by omega), if_pos h]; omega
  · rw [if_neg (by omega), if_neg h]
theorem fold_eq_of {a b : ByteArray} (hn : a.size = b.size) (h : ∀ j, (h1 : j < a.size) → (h2 : j < b.size) → lowB a[j] = lowB b[j]) : foldS a.data.toList = foldS b.data.toList := by
  unfold foldS
  apply List.ext_getElem
  · simpa using hn
  · intro i h1 h2
    simp only [List.getElem_map]
    exact h i (by simpa using h1) (by simpa using h2)
theorem fold_ne_of {a b : ByteArray} {j : Nat} (h1 : j < a.size) (h2 : j < b.size) (h : ¬ lowB a[j] = lowB b[j]) : ¬ foldS a.data.toList = foldS b.data.toList := by
  intro e
  apply h
  have := congrArg (fun l => l[j]?) e
  simp only [foldS, List.getElem?_map, bytes_get a j h1, bytes_get b j h2] at this
  exact Option.some.inj this
theorem fold_ne_len {a b : ByteArray} (h : ¬ a.size = b.size) : ¬ foldS a.data.toList = foldS b.data.toList := by
  intro e
  apply h
  have := congrArg List.length e
  simpa [foldS] using this

theorem foldS_set (l : List UInt8) (k : Nat) (h : k < l.length) : (foldS (l.take k) ++ l.drop k).set k (lowB l[k]) = foldS (l.take (k + 1)) ++ l.drop (k + 1) := by
  unfold foldS
  rw [List.set_append_right _ _ (by simp; omega), List.take_succ_eq_append_getElem h, List.drop_eq_getElem_cons h]
  have e : k - (l.take k |>.map lowB).length = 0 := by simp; omega
  rw [e, List.set_cons_zero, List.map_append, List.append_assoc]
  rfl

theorem Tryz.infoU8 : (Tryz.prog.info? 5).map (fun i => (i.zero, i.size, i.bytes)) = some (some (.int .u8 0), 1, 1) := by kernel_rfl

end Go.Proofs.YtjlcphofkepajaaGreat
