/- Contracts of package lines, and of the document's: Within, Text. -/
import Derived.Test.YtjgbcfecgbkefaaDoorProg
import Derived.Test.YtjgbcfecgbkefaaDoorLinesM
import Derived.LoopN
import Derived.Outline
import Derived.BigQuiet
import Derived.Deep.QuietTactic
namespace Go.Proofs.YtjgbcfecgbkefaaDoor
open Go Go.RowKit

def withinB (f t n : Int) : Bool := decide (0 ≤ f ∧ f ≤ t ∧ t ≤ n)
theorem withinB_yes {f t n : Int} (h : 0 ≤ f ∧ f ≤ t ∧ t ≤ n) : withinB f t n = true := decide_eq_true h
theorem withinB_no {f t n : Int} (h : ¬ (0 ≤ f ∧ f ≤ t ∧ t ≤ n)) : withinB f t n = false := decide_eq_false h

theorem within_any (f t n : Int) (w : World) : Calls Tryd.prog 21 #[.agg #[.int .i64 f, .int .i64 t], .int .i64 n] w fun e w' => e = .returned (.bool (withinB f t n)) ∧ Below w.heap.size w w' := by
  by_cases h1 : 0 ≤ f
  · by_cases h2 : f ≤ t
    · by_cases h3 : t ≤ n
      · have HE : Hid (withinB f t n = true) := withinB_yes ⟨h1, h2, h3⟩
        go_enter Tryd.func21, Tryd.ntmps21
        go_wp2
        go_ret
        exact ⟨ret_bool (by rw [HE.out]), (Below.refl _ _).alloc (Nat.le_refl _) _⟩
      · have HE : Hid (withinB f t n = false) := withinB_no (fun h => h3 h.2.2)
        go_enter Tryd.func21, Tryd.ntmps21
        go_wp2
        go_ret
        exact ⟨ret_bool (by rw [HE.out]), (Below.refl _ _).alloc (Nat.le_refl _) _⟩
    · have HE : Hid (withinB f t n = false) := withinB_no (fun h => h2 h.2.1)
      go_enter Tryd.func21, Tryd.ntmps21
      go_wp2
      go_ret
      exact ⟨ret_bool (by rw [HE.out]), (Below.refl _ _).alloc (Nat.le_refl _) _⟩
  · have HE : Hid (withinB f t n = false) := withinB_no (fun h => h1 h.1)
    go_enter Tryd.func21, Tryd.ntmps21
    go_wp2
    go_ret
    exact ⟨ret_bool (by rw [HE.out]), (Below.refl _ _).alloc (Nat.le_refl _) _⟩

theorem box2_cells {W W' : World} {t : TypeId} {a b : Value} (h : Below (W.alloc (.cells #[a, b] t)).heap.size (W.alloc (.cells #[a, b] t)) W') :
    W'.cell? ⟨W.heap.size, 0, none⟩ = some a ∧ W'.cell? ⟨W.heap.size, 1, none⟩ = some b := by
  have e : W'.heap[W.heap.size]? = some (.cells #[a, b] t (0, 0)) := (h.block _ (by simp)).trans (heap_alloc_new W _)
  simp [World.cell?, e]
theorem box3_cells {W W' : World} {t : TypeId} {a b c : Value} (h : Below (W.alloc (.cells #[a, b, c] t)).heap.size (W.alloc (.cells #[a, b, c] t)) W') :
    W'.cell? ⟨W.heap.size, 0, none⟩ = some a ∧ W'.cell? ⟨W.heap.size, 1, none⟩ = some b ∧ W'.cell? ⟨W.heap.size, 2, none⟩ = some c := by
  have e : W'.heap[W.heap.size]? = some (.cells #[a, b, c] t (0, 0)) := (h.block _ (by simp)).trans (heap_alloc_new W _)
  simp [World.cell?, e]

/-- A cut of bytes that came in is what it says. -/
theorem sliceAt.cut {W : World} {ao : Option Addr} {l : List UInt8} (h : sliceAt W ao l) (F T : Nat) : sliceAt W (ao.map fun x => x.add F) (partS l F T) := by
  rcases h with rfl | ⟨b, off, rfl, hlt, hc⟩
  · exact .inl (by simp [partS])
  · show sliceAt W (some ((⟨b, off, none⟩ : Addr).add F)) _
    rw [Addr.add_lit]
    exact (sliceAt.drop (k := F) (.inr ⟨b, off, rfl, hlt, hc⟩)).take _
theorem cut_string {W : World} {ao : Option Addr} {l : List UInt8} {cap F T : Nat} (hs : sliceAt W ao l) (h1 : F ≤ T) (h2 : T ≤ l.length) (h3 : l.length ≤ cap) (h4 : cap ≤ maxLen) :
    (convert 22 9 (.slice (ao.map fun x => x.add F) (T - F) (cap - F))).run Tryd.prog W = .ok (.string ⟨(partS l F T).toArray⟩) W := by
  have := bytesArg_string (v := .slice (ao.map fun x => x.add F) (T - F) (cap - F)) (l := partS l F T) (W := W)
    ⟨_, cap - F, by rw [partS_len l h2], by rw [partS_len l h2]; omega, by omega, hs.cut F T⟩
  exact this
theorem cut_string0 {W : World} {ao : Option Addr} {l : List UInt8} {F T : Nat} (h1 : F ≤ T) (h2 : T ≤ l.length) (h3 : l.length ≤ F) :
    (convert 22 9 (.slice ao (T - F) 0)).run Tryd.prog W = .ok (.string ⟨(partS l F T).toArray⟩) W := by
  have e : partS l F T = [] := List.eq_nil_of_length_eq_zero (by rw [partS_len l h2]; omega)
  rw [e, show T - F = 0 by omega]
  exact bytesArg_string (v := .slice ao 0 0) (l := []) (W := W) ⟨_, 0, rfl, Nat.le_refl _, Nat.zero_le _, .inl rfl⟩
end Go.Proofs.YtjgbcfecgbkefaaDoor
