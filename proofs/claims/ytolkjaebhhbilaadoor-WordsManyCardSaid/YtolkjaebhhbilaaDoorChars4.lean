/- Contracts of Same, Fold and the document's Fold. -/
import Derived.Test.YtolkjaebhhbilaaDoorChars3
import Derived.Laws.IdiomStrings
namespace Go.Proofs.YtolkjaebhhbilaaDoor
open Go Go.RowKit

theorem lowI_nat (b : UInt8) : lowI (b.toNat : Int) = ((lowB b).toNat : Int) := by
  unfold lowI
  rw [lowB_toNat]
  by_cases h : 65 ≤ b.toNat ∧ b.toNat ≤ 90
  · rw [if_pos (by omega), if_pos h]; omega
  · rw [if_neg (by omega), if_neg h]
theorem lowerB_any (b : UInt8) (w : World) :
    Calls Tryd.prog 30 #[.int .u8 b.toNat] w fun e w' => e = .returned (.int .u8 (lowB b).toNat) ∧ w = w' := by
  have h := lower_any b.toNat w (by omega) (by have := b.toNat_lt; omega)
  rw [lowI_nat] at h
  exact h
theorem fold_eq_of {a b : ByteArray} (hn : a.size = b.size) (h : ∀ j, (h1 : j < a.size) → (h2 : j < b.size) → lowB a[j] = lowB b[j]) : foldS a.data.toList = foldS b.data.toList := by
  unfold foldS
  apply List.ext_getElem
  · simpa using hn
  · intro i h1 h2
    simp only [List.getElem_map]
    exact h i (by simpa using h1) (by simpa using h2)
theorem fold_ne_of {a b : ByteArray} {j : Nat} (h1 : j < a.size) (h2 : j < b.size) (h : ¬ lowB a[j] = lowB b[j]) : ¬ foldS a.data.toList = foldS b.data.toList := by
  intro e
  apply h
  have := congrArg (fun l => l[j]?) e
  simp only [foldS, List.getElem?_map, bytes_get a j h1, bytes_get b j h2] at this
  exact Option.some.inj this
theorem fold_ne_len {a b : ByteArray} (h : ¬ a.size = b.size) : ¬ foldS a.data.toList = foldS b.data.toList := by
  intro e
  apply h
  have := congrArg List.length e
  simpa [foldS] using this

theorem foldS_set (l : List UInt8) (k : Nat) (h : k < l.length) : (foldS (l.take k) ++ l.drop k).set k (lowB l[k]) = foldS (l.take (k + 1)) ++ l.drop (k + 1) := by
  unfold foldS
  rw [List.set_append_right _ _ (by simp; omega), List.take_succ_eq_append_getElem h, List.drop_eq_getElem_cons h]
  have e : k - (l.take k |>.map lowB).length = 0 := by simp; omega
  rw [e, List.set_cons_zero, List.map_append, List.append_assoc]
  rfl

theorem fold_any (s : ByteArray) (w : World) (hl : s.size ≤ 9223372036854775807) :
    Calls Tryd.prog 52 #[.string s] w fun e w' => e = .returned (.string ⟨(foldS s.data.toList).toArray⟩) ∧ Below w.heap.size w w' := by
  have hconv := fun w => run_bytes_of_string (P := Tryd.prog) w 9 26 5 s Tryd.underlying9 Tryd.underlying26 Tryd.underlying5
  have HR := Lib.hid (fun cap o => rowAt_bytes w.drew s cap 5 o)
  go_enter Tryd.func52, Tryd.ntmps52
  go_wp2
  go_loopg [10] s.size (fun g v wr => ∃ k : Nat, k ≤ s.size ∧ g = s.size - k ∧ v = .int .i64 k ∧ Hid (rowAt wr w.heap.size 5 ((foldS (s.data.toList.take k) ++ s.data.toList.drop k).map byteV)) ∧ Hid (Below w.heap.size w wr))
  case atStart => exact ⟨0, by omega, rfl, rfl, HR.out _ _, ((Below.refl _ _).alloc (Nat.le_refl _) _).drew⟩
  case round =>
    obtain ⟨k, hk, rfl, rfl, HA, HB⟩ := hrel
    clear HR
    by_cases hlt : k < s.size
    · have hk' : k < ((foldS (s.data.toList.take k) ++ s.data.toList.drop k).map byteV).length := by simp [foldS]; omega
      have hcell : wr.cell? ⟨w.heap.size, k, none⟩ = some (.int .u8 (s[k].toNat : Int)) := by
        rw [HA.out.cell k hk']
        simp [foldS, drop_cons s k hlt, byteV, Nat.min_eq_left hk]
      have hfr : wr.frozen? ⟨w.heap.size, k, none⟩ = false := HA.out.frozen k hk'
      clear hk'
      go_wp2_with (go_at_call 30; refine (lowerB_any _ _).mono ?_; rintro e w' ⟨rfl, rfl⟩)
      go_roundg (s.size - (k + 1))
      case measure => omega
      case rel =>
        refine ⟨k + 1, by omega, rfl, by go_num, ?_, HB.out.setCell (Nat.le_refl _) _⟩
        have := HA.out.set k (byteV (lowB s[k]))
        rw [← List.map_set] at this
        have e := foldS_set s.data.toList k (by simpa using hlt)
        rw [← e]
        exact this
    · have hA := HA.out
      rw [take_all s k hlt, List.drop_eq_nil_of_le (by simp; omega), List.append_nil] at hA
      have hst := fun cap => run_string_of_row (P := Tryd.prog) (cap := cap) (n := s.size) Tryd.underlying26 Tryd.underlying5 Tryd.underlying9 hA (by simp [foldS])
      have HB' := HB
      clear hA
      go_wp2
      go_ret
      exact ⟨rfl, HB'.out⟩
theorem Tryd.infoU8 : (Tryd.prog.info? 5).map (fun i => (i.zero, i.size, i.bytes)) = some (some (.int .u8 0), 1, 1) := by kernel_rfl

end Go.Proofs.YtolkjaebhhbilaaDoor
