/- Contracts of package b64: filled, what finds a letter. -/
import Derived.Test.YtolkjaebhhbilaaDoorB64D
import Derived.Outline
namespace Go.Proofs.YtolkjaebhhbilaaDoor
open Go Go.RowKit

def fillN (c d : UInt8) : Nat := if d = 61 then (if c = 61 then 2 else 3) else 4

set_option maxRecDepth 100000 in
theorem filled_any (a b c d : UInt8) (bl off cap : Nat) (w : World) (hs : sliceAt w (some ⟨bl, off, none⟩) [a, b, c, d]) :
    Calls Tryd.prog 44 #[.slice (some ⟨bl, off, none⟩) 4 cap] w fun e w' => e = .returned (.int .i64 (fillN c d : Nat)) ∧ w = w' := by
  rcases hs with hs | ⟨b', off', hs, hb, hcell⟩
  · cases hs
  cases hs
  have h2 : w.cell? ⟨bl, off + 2, none⟩ = some (.int .u8 (c.toNat : Int)) := hcell 2 (by simp)
  have h3 : w.cell? ⟨bl, off + 3, none⟩ = some (.int .u8 (d.toNat : Int)) := hcell 3 (by simp)
  clear hcell
  by_cases q3 : d = 61
  · by_cases q2 : c = 61
    · subst q2 q3
      go_enter Tryd.func44, Tryd.ntmps44
      go_wp2
      refine wp_loop_rounds 3 ?_
      rw [rounds_succ]; go_wp2
      rw [rounds_succ]; go_wp2
      rw [rounds_succ]; go_wp2
      go_ret
      exact ⟨rfl, rfl⟩
    · have t2 : ((c.toNat : Int) == 61) = false := by
        rw [beq_eq_false_iff_ne]
        intro h
        exact q2 (toNat_eq (by show c.toNat = 61; omega))
      have Q2 := Lib.hid q2
      subst q3
      clear q2
      go_enter Tryd.func44, Tryd.ntmps44
      go_wp2
      refine wp_loop_rounds 2 ?_
      rw [rounds_succ]; go_wp2
      rw [rounds_succ]; go_wp2
      go_ret
      exact ⟨ret_int (by unfold fillN; rw [if_pos rfl, if_neg Q2.out]; rfl), rfl⟩
  · have t3 : ((d.toNat : Int) == 61) = false := by
      rw [beq_eq_false_iff_ne]
      intro h
      exact q3 (toNat_eq (by show d.toNat = 61; omega))
    have Q3 := Lib.hid q3
    clear q3
    go_enter Tryd.func44, Tryd.ntmps44
    go_wp2
    refine wp_loop_rounds 1 ?_
    rw [rounds_succ]; go_wp2
    go_ret
    exact ⟨ret_int (by unfold fillN; rw [if_neg Q3.out]; rfl), rfl⟩

theorem find_no (c : UInt8) (B : Nat) (w : World) (hc : w.cell? ⟨B, c.toNat, none⟩ = some (.int .u32 0)) :
    Calls Tryd.prog 43 #[.int .u8 (c.toNat : Int), .pointer (some ⟨B, 0, none⟩)] w fun e w' => e = .returned (.tuple #[.int .u32 0, .bool false]) ∧ w = w' := by
  have hb := c.toNat_lt
  go_enter Tryd.func43, Tryd.ntmps43
  go_wp2
  go_ret2
  exact ⟨rfl, rfl⟩
theorem find_yes (c : UInt8) (n B : Nat) (w : World) (hn : n < 64) (hc : w.cell? ⟨B, c.toNat, none⟩ = some (.int .u32 ((n : Int) + 1))) :
    Calls Tryd.prog 43 #[.int .u8 (c.toNat : Int), .pointer (some ⟨B, 0, none⟩)] w fun e w' => e = .returned (.tuple #[.int .u32 n, .bool true]) ∧ w = w' := by
  have hb := c.toNat_lt
  have ht : (((n : Int) + 1) == 0) = false := by rw [beq_eq_false_iff_ne]; omega
  go_enter Tryd.func43, Tryd.ntmps43
  go_wp2
  go_ret2
  exact ⟨by simp, rfl⟩

theorem index_letters (w : World) (k : Nat) (hk : k < 64) : (Instr.index 59 (.agg letA) (.int .i64 (k : Int))).run Tryd.prog w = .ok (.int .u8 ((letB k).toNat : Int)) w := by
  have hn : 0 ≤ (k : Int) ∧ (k : Int) < 64 := by omega
  have hl := letA_at k hk
  obtain ⟨i0, hi, hz0, hz1, hz2⟩ := info_parts Tryd.infoB
  simp [Instr.index, run_underlying Tryd.underlying59, run_underlying Tryd.underlying5, asIntOf, hn, sizeOf, typeInfo, part, isAgg, hl, hi, hz1, go_sem]
  intro h
  omega

def bhL (k : Nat) : List Value := (List.range 256).map fun c => .int .u32 (if valB (byteN c) < k then (valB (byteN c) : Int) + 1 else 0)
theorem bhL_len (k : Nat) : (bhL k).length = 256 := by simp [bhL]
theorem bhL_at (k c : Nat) (h : c < 256) : (bhL k)[c]? = some (.int .u32 (if valB (byteN c) < k then (valB (byteN c) : Int) + 1 else 0)) := by
  simp [bhL, h]
theorem bhL_step (k : Nat) (h : k < 64) : bhL (k + 1) = (bhL k).set (letB k).toNat (.int .u32 ((k : Int) + 1)) := by
  apply List.ext_getElem?
  intro j
  rw [List.getElem?_set]
  by_cases hj : j < 256
  · rw [bhL_at _ _ hj, bhL_at _ _ hj, bhL_len]
    by_cases e : (letB k).toNat = j
    · have : byteN j = letB k := by apply toNat_eq; rw [byteN_toNat _ hj, e]
      rw [if_pos e, this, valB_let k h, if_pos (by omega), if_pos (by omega)]
    · rw [if_neg e]
      have hne : valB (byteN j) ≠ k := by
        intro h2
        apply e
        have := letB_val (c := byteN j) (by omega)
        rw [h2] at this
        rw [this, byteN_toNat _ hj]
      by_cases h3 : valB (byteN j) < k
      · rw [if_pos h3, if_pos (by omega)]
      · rw [if_neg h3, if_neg (by omega)]
  · rw [List.getElem?_eq_none (by rw [bhL_len]; omega), List.getElem?_eq_none (by rw [bhL_len]; omega)]
    split
    · rw [if_neg (by rw [bhL_len]; omega)]
    · rfl
def z256 : Array Value := (List.replicate 256 (.int .u32 0)).toArray
theorem zero256 (w : World) : (zeroValue 78).run Tryd.prog w = .ok (.agg z256) w := by kernel_rfl
theorem size64 : (Tryd.prog.info? 59).map (·.size) = some letA.size := by kernel_rfl
theorem bhL_nought : z256.toList = bhL 0 := by
  unfold z256 bhL
  rw [List.toList_toArray]
  apply List.ext_getElem?
  intro j
  by_cases hj : j < 256
  · have := bhL_at 0 j hj
    rw [if_neg (Nat.not_lt_zero _)] at this
    rw [List.getElem?_replicate, if_pos hj]
    exact this.symm
  · have := List.getElem?_eq_none (l := bhL 0) (i := j) (by rw [bhL_len]; omega)
    rw [List.getElem?_replicate, if_neg hj]
    exact this.symm
theorem rowAt_new (w : World) (t : TypeId) : rowAt (w.alloc (.cells z256 t)) w.heap.size t (bhL 0) := by
  refine ⟨z256, 0, 0, heap_alloc_new w _, fun j _ h => by omega, ?_⟩
  rw [← bhL_nought, List.take_length]

/-- What finds: the closure over block B. -/
def findV (B : Nat) : Value := .func (.func 43) #[] #[.pointer (some ⟨B, 0, none⟩)]
theorem bh_at {w : World} {B : Nat} {t : TypeId} (h : rowAt w B t (bhL 64)) (c : UInt8) : w.cell? ⟨B, c.toNat, none⟩ = some (.int .u32 (if valB c < 64 then (valB c : Int) + 1 else 0)) := by
  have hc := c.toNat_lt
  have hl : c.toNat < (bhL 64).length := by rw [bhL_len]; omega
  rw [h.cell _ hl]
  have := bhL_at 64 c.toNat (by omega)
  rw [List.getElem?_eq_getElem hl] at this
  rw [this]
  have e : byteN c.toNat = c := by apply toNat_eq; rw [byteN_toNat _ (by omega)]
  rw [e]

set_option maxRecDepth 100000 in
theorem finder_any (w : World) (ht : lets w) :
    Calls Tryd.prog 35 #[] w fun e w' => e = .returned (findV w.heap.size) ∧ rowAt w' w.heap.size 78 (bhL 64) ∧ Below w.heap.size w w' := by
  have HZ := Lib.hid (rowAt_new w 78)
  have hzero := zero256
  have hg0 := ht.lt
  obtain ⟨t, fr, hg⟩ := ht
  have hg' : (w.alloc (.cells z256 78)).heap[0]? = some (.cells letA t fr) := (((Below.refl w.heap.size w).alloc (Nat.le_refl _) _).block _ hg0).trans hg
  have HG := Lib.hid hg'
  have hind := index_letters
  clear hg hg'
  go_enter Tryd.func35, Tryd.ntmps35
  go_wp2_with (refine wpList_load_row rfl 59 (.global 0) rfl 0 rfl t letA fr (.array 64 5) HG.out Tryd.underlying59 rfl size64 ?_)
  clear hzero
  go_loopg [2, 3, 5] 64 (fun g x2 x3 v wr => ∃ k : Nat, k ≤ 64 ∧ g = 64 - k ∧ v = .int .i64 k ∧ Hid (rowAt wr w.heap.size 78 (bhL k)) ∧ Hid (Below w.heap.size w wr))
  case atStart => exact ⟨0, by omega, by omega, rfl, HZ.out, (Below.refl _ _).alloc (Nat.le_refl _) _⟩
  case round =>
    obtain ⟨k, hk, rfl, rfl, HR, HB⟩ := hrel
    by_cases hlt : k < 64
    · have hb := (letB k).toNat_lt
      have hi := hind wr k hlt
      clear hind
      have hlen : (letB k).toNat < (bhL k).length := by rw [bhL_len]; omega
      obtain ⟨x, hcell⟩ : ∃ x, wr.cell? ⟨w.heap.size, (letB k).toNat, none⟩ = some x := ⟨_, HR.out.cell _ hlen⟩
      have hfr := HR.out.frozen _ hlen
      clear hlen
      go_wp2
      go_roundg (64 - (k + 1))
      case measure => omega
      case rel =>
        refine ⟨k + 1, by omega, rfl, by go_num, ?_, HB.out.setCell (Nat.le_refl _) _⟩
        unfold Hid
        rw [bhL_step k hlt]
        exact HR.out.set _ _
    · clear hind
      go_wp2
      go_ret
      obtain rfl : k = 64 := by omega
      exact ⟨rfl, HR.out, HB.out⟩
end Go.Proofs.YtolkjaebhhbilaaDoor
