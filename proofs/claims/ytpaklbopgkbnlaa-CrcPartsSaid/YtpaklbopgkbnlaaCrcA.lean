/- Contracts of package crc: a bit more, eight at once. -/
import Derived.Test.YtpaklbopgkbnlaaProg
import Derived.Test.YtpaklbopgkbnlaaCrcM
import Derived.Test.YtpaklbopgkbnlaaRow
import Derived.LoopN
import Derived.Outline
import Derived.Laws.Tables
namespace Go.Proofs.Ytpaklbopgkbnlaa
open Go Go.RowKit

theorem bitMore_any (y : Nat) (hy : y < 4294967296) (w : World) : Calls Try.prog 14 #[.int .u32 (y : Int)] w fun e w' => e = .returned (.int .u32 (stepF y : Nat)) ∧ w = w' := by
  by_cases h : y % 2 = 1
  · have t : ((y : Int) % 2 == 1) = true := beq_yes (by omega)
    have HE : Hid (bits .xor .u32 ((y : Int) / 2) 3988292384 = (stepF y : Nat)) := by
      unfold Hid stepF
      rw [if_pos h]
      exact u32_xor_nat (y / 2) polyN (by omega) (by decide)
    clear h
    go_enter Try.func14, Try.ntmps14
    go_wp2
    go_ret
    exact ⟨ret_int HE.out, rfl⟩
  · have t : ((y : Int) % 2 == 1) = false := beq_no (by omega)
    have HE : Hid ((y : Int) / 2 = (stepF y : Nat)) := by
      unfold Hid stepF
      rw [if_neg h]
      omega
    clear h
    go_enter Try.func14, Try.ntmps14
    go_wp2
    go_ret
    exact ⟨ret_int HE.out, rfl⟩

/-- The table, its first k cells filled. -/
def tabE (k : Nat) : List Value := (List.range 256).map fun c => .int .u32 (if c < k then (stepK 8 c : Nat) else 0)
theorem tabE_len (k : Nat) : (tabE k).length = 256 := by simp [tabE]
theorem tabE_at (k c : Nat) (h : c < 256) : (tabE k)[c]? = some (.int .u32 (if c < k then (stepK 8 c : Nat) else 0)) := by
  simp [tabE, h]
theorem tabE_step (k : Nat) (h : k < 256) : tabE (k + 1) = (tabE k).set k (.int .u32 (stepK 8 k : Nat)) := by
  apply List.ext_getElem?
  intro j
  rw [List.getElem?_set]
  by_cases hj : j < 256
  · rw [tabE_at _ _ hj, tabE_at _ _ hj, tabE_len]
    by_cases e : k = j
    · subst e
      rw [if_pos rfl, if_pos hj, if_pos (by omega)]
    · rw [if_neg e]
      by_cases h3 : j < k
      · rw [if_pos h3, if_pos (by omega)]
      · rw [if_neg h3, if_neg (by omega)]
  · rw [List.getElem?_eq_none (by rw [tabE_len]; omega), List.getElem?_eq_none (by rw [tabE_len]; omega)]
    split
    · rw [if_neg (by rw [tabE_len]; omega)]
    · rfl
def z256 : Array Value := (List.replicate 256 (.int .u32 0)).toArray
theorem zero256 (w : World) : (zeroValue 36).run Try.prog w = .ok (.agg z256) w := by kernel_rfl
theorem tabE_nought : z256.toList = tabE 0 := by
  unfold z256 tabE
  rw [List.toList_toArray]
  apply List.ext_getElem?
  intro j
  by_cases hj : j < 256
  · have := tabE_at 0 j hj
    rw [if_neg (Nat.not_lt_zero _)] at this
    rw [List.getElem?_replicate, if_pos hj]
    exact this.symm
  · have := List.getElem?_eq_none (l := tabE 0) (i := j) (by rw [tabE_len]; omega)
    rw [List.getElem?_replicate, if_neg hj]
    exact this.symm
/-- A block that is a table whole: no more cells, none frozen. -/
def tabAt (w : World) (B k : Nat) : Prop := ∃ C t, w.heap[B]? = some (.cells C t (0, 0)) ∧ C.toList = tabE k
theorem tabAt.size {C : Array Value} {k : Nat} (h : C.toList = tabE k) : C.size = 256 := by
  have := congrArg List.length h
  rw [tabE_len] at this
  simpa using this
theorem tabAt.lt {w : World} {B k : Nat} (h : tabAt w B k) : B < w.heap.size := by
  obtain ⟨C, t, h1, _⟩ := h
  exact (Array.getElem?_eq_some_iff.1 h1).1
theorem tabAt.cell {w : World} {B k : Nat} (h : tabAt w B k) (c : Nat) (hc : c < 256) : w.cell? ⟨B, c, none⟩ = some (.int .u32 (if c < k then (stepK 8 c : Nat) else 0)) := by
  obtain ⟨C, t, h1, h2⟩ := h
  have := tabE_at k c hc
  rw [← h2] at this
  simp [World.cell?, h1]
  simpa using this
theorem tabAt.frozen {w : World} {B k : Nat} (h : tabAt w B k) (c : Nat) : w.frozen? ⟨B, c, none⟩ = false := by
  obtain ⟨C, t, h1, h2⟩ := h
  simp [World.frozen?, h1]
theorem tabAt.step {w : World} {B k : Nat} (h : tabAt w B k) (hk : k < 256) : tabAt (w.setCell ⟨B, k, none⟩ (.int .u32 (stepK 8 k : Nat))) B (k + 1) := by
  obtain ⟨C, t, h1, h2⟩ := h
  refine ⟨C.setIfInBounds k (.int .u32 (stepK 8 k : Nat)), t, ?_, ?_⟩
  · simp [World.setCell, Array.getElem?_modify, h1]
  · rw [Array.toList_setIfInBounds, h2, tabE_step k hk]
theorem tabAt.below {w w' : World} {B k : Nat} (h : tabAt w B k) (hb : w'.heap[B]? = w.heap[B]?) : tabAt w' B k := by
  obtain ⟨C, t, h1, h2⟩ := h
  exact ⟨C, t, hb.trans h1, h2⟩
theorem tabAt_new (w : World) (t : TypeId) : tabAt (w.alloc (.cells z256 t)) w.heap.size 0 := ⟨z256, t, heap_alloc_new w _, tabE_nought⟩
theorem tab_size {C : Array Value} {k : Nat} (h : C.toList = tabE k) : (Try.prog.info? 36).map (·.size) = some C.size := by
  rw [tabAt.size h]
  kernel_rfl
theorem tab_one {C : Array Value} {k : Nat} (h : C.toList = tabE k) : C.all (·.oneCell') = true := by
  rw [Array.all_eq_true_iff_forall_mem]
  intro x hx
  have : x ∈ tabE k := by rw [← h]; simpa using hx
  obtain ⟨c, _, rfl⟩ := List.mem_map.1 this
  rfl
def tabV : Array Value := (tabE 256).toArray
theorem tabV_of {C : Array Value} (h : C.toList = tabE 256) : C = tabV := by
  unfold tabV
  rw [← h]
end Go.Proofs.Ytpaklbopgkbnlaa
