/- Contracts of package b64: filled, what finds a letter. -/
import Derived.Test.YteallnjbpikhhaaGreatDoorGbB64D
import Derived.Outline
namespace Go.Proofs.YteallnjbpikhhaaGreatDoor
open Go Go.RowKit

def fillN (c d : UInt8) : Nat := if d = 61 then (if c = 61 then 2 else 3) else 4

set_option maxRecDepth 100000 in
theorem filled_any (a b c d : UInt8) (bl off cap : Nat) (w : World) (hs : sliceAt w (some ⟨bl, off, none⟩) [a, b, c, d]) :
    Calls Tryz.prog 102 #[.slice (some ⟨bl, off, none⟩) 4 cap] w fun e w' => e = .returned (.int .i64 (fillN c d : Nat)) ∧ w = w' := by
  rcases hs with hs | ⟨b', off', hs, hb, hcell⟩
  · cases hs
  cases hs
  have h2 : w.cell? ⟨bl, off + 2, none⟩ = some (.int .u8 (c.toNat : Int)) := hcell 2 (by simp)
  have h3 : w.cell? ⟨bl, off + 3, none⟩ = some (.int .u8 (d.toNat : Int)) := hcell 3 (by simp)
  clear hcell
  by_cases q3 : d = 61
  · by_cases q2 : c = 61
    · subst q2 q3
      go_enter Tryz.func102, Tryz.ntmps102
      go_wp2
      refine wp_loop_rounds 3 ?_
      rw [rounds_succ]; go_wp2
      rw [rounds_succ]; go_wp2
      rw [rounds_succ]; go_wp2
      go_ret
      exact ⟨rfl, rfl⟩
    · have t2 : ((c.toNat : Int) == 61) = false := by
        rw [beq_eq_false_iff_ne]
        intro h
        exact q2 (toNat_eq (by show c.toNat = 61; omega))
      have Q2 := Lib.hid q2
      subst q3
      clear q2
      go_enter Tryz.func102, Tryz.ntmps102
      go_wp2
      refine wp_loop_rounds 2 ?_
      rw [rounds_succ]; go_wp2
      rw [rounds_succ]; go_wp2
      go_ret
      exact ⟨ret_int (by unfold fillN; rw [if_pos rfl, if_neg Q2.out]; rfl), rfl⟩
  · have t3 : ((d.toNat : Int) == 61) = false := by
      rw [beq_eq_false_iff_ne]
      intro h
      exact q3 (toNat_eq (by show d.toNat = 61; omega))
    have Q3 := Lib.hid q3
    clear q3
    go_enter Tryz.func102, Tryz.ntmps102
    go_wp2
    refine wp_loop_rounds 1 ?_
    rw [rounds_succ]; go_wp2
    go_ret
    exact ⟨ret_int (by unfold fillN; rw [if_neg Q3.out]; rfl), rfl⟩

theorem find_noG (c : UInt8) (B : Nat) (w : World) (hc : w.cell? ⟨B, c.toNat, none⟩ = some (.int .u32 0)) :
    Calls Tryz.prog 101 #[.int .u8 (c.toNat : Int), .pointer (some ⟨B, 0, none⟩)] w fun e w' => e = .returned (.tuple #[.int .u32 0, .bool false]) ∧ w = w' := by
  have hb := c.toNat_lt
  go_enter Tryz.func101, Tryz.ntmps101
  go_wp2
  go_ret2
  exact ⟨rfl, rfl⟩
theorem find_yesG (c : UInt8) (n B : Nat) (w : World) (hn : n < 64) (hc : w.cell? ⟨B, c.toNat, none⟩ = some (.int .u32 ((n : Int) + 1))) :
    Calls Tryz.prog 101 #[.int .u8 (c.toNat : Int), .pointer (some ⟨B, 0, none⟩)] w fun e w' => e = .returned (.tuple #[.int .u32 n, .bool true]) ∧ w = w' := by
  have hb := c.toNat_lt
  have ht : (((n : Int) + 1) == 0) = false := by rw [beq_eq_false_iff_ne]; omega
  go_enter Tryz.func101, Tryz.ntmps101
  go_wp2
  go_ret2
  exact ⟨by simp, rfl⟩

theorem index_letters (w : World) (k : Nat) (hk : k < 64) : (Instr.index 66 (.agg letA) (.int .i64 (k : Int))).run Tryz.prog w = .ok (.int .u8 ((letB k).toNat : Int)) w := by
  have hn : 0 ≤ (k : Int) ∧ (k : Int) < 64 := by omega
  have hl := letA_at k hk
  obtain ⟨i0, hi, hz0, hz1, hz2⟩ := info_parts Tryz.infoB
  simp [Instr.index, run_underlying Tryz.underlying66, run_underlying Tryz.underlying5, asIntOf, hn, sizeOf, typeInfo, part, isAgg, hl, hi, hz1, go_sem]
  intro h
  omega

def bhL (k : Nat) : List Value := (List.range 256).map fun c => .int .u32 (if valB (byteN c) < k then (valB (byteN c) : Int) + 1 else 0)
theorem bhL_len (k : Nat) : (bhL k).length = 256 := by simp [bhL]
theorem bhL_at (k c : Nat) (h : c < 256) : (bhL k)[c]? = some (.int .u32 (if valB (byteN c) < k then (valB (byteN c) : Int) + 1 else 0)) := by
  simp [bhL, h]
theorem bhL_step (k : Nat) (h : k < 64) : bhL (k + 1) = (bhL k).set (letB k).toNat (.int .u32 ((k : Int) + 1)) := by
  apply List.ext_getElem?
  intro j
  rw [List.getElem?_set]
  by_cases hj : j < 256
  · rw [bhL_at _ _ hj, bhL_at _ _ hj, bhL_len]
    by_cases e : (letB k).toNat = j
    · have : byteN j = letB k := by apply toNat_eq; rw [byteN_toNat _ hj, e]
      rw [if_pos e, this, valB_let k h, if_pos (by omega), if_pos (by omega)]
    · rw [if_neg e]
      have hne : valB (byteN j) ≠ k := by
        intro h2
        apply e
        have := letB_val (c := byteN j) (by omega)
        rw [h2] at this
        rw [this, byteN_toNat _ hj]
      by_cases h3 : valB (byteN j) < k
      · rw [if_pos h3, if_pos (by omega)]
      · rw [if_neg h3, if_neg (by omega)]
  · rw [List.getElem?_eq_none (by rw [bhL_len]; omega), List.getElem?_eq_none (by rw [bhL_len]; omega)]
    split
    · rw [if_neg (by rw [bhL_len]; omega)]
    · rfl
def z256 : Array Value := (List.replicate 256 (.int .u32 0)).toArray
theorem zero256 (w : World) : (zeroValue 170).run Tryz.prog w = .ok (.agg z256) w := by kernel_rfl
theorem size64 : (Tryz.prog.info? 66).map (·.size) = some letA.size := by kernel_rfl
theorem bhL_nought : z256.toList = bhL 0 := by
  unfold z256 bhL
  rw [List.toList_toArray]
  apply List.ext_getElem?
  intro j
  by_cases hj : j < 256
  · have := bhL_at 0 j hj
    rw [if_neg (Nat.not_lt_zero _)] at this
    rw [List.getElem?_replicate, if_pos hj]
    exact this.symm
  · have := List.getElem?_eq_none (l := bhL 0) (i := j) (by rw [bhL_len]; omega)
    rw [List.getElem?_replicate, if_neg hj]
    exact this.symm
theorem rowAt_new (w : World) (t : TypeId) : rowAt (w.alloc (.cells z256 t)) w.heap.size t (bhL 0) := by
  refine ⟨z256, 0, 0, heap_alloc_new w _, fun j _ h => by omega, ?_⟩
  rw [← bhL_nought, List.take_length]

/-- What finds: the closure over block B. -/
def findV (B : Nat) : Value := .func (.func 101) #[] #[.pointer (some ⟨B, 0, none⟩)]
theorem bh_at {w : World} {B : Nat} {t : TypeId} (h : rowAt w B t (bhL 64)) (c : UInt8) : w.cell? ⟨B, c.toNat, none⟩ = some (.int .u32 (if valB c < 64 then (valB c : Int) + 1 else 0)) := by
  have hc := c.toNat_lt
  have hl : c.toNat < (bhL 64).length := by rw [bhL_len]; omega
  rw [h.cell _ hl]
  have := bhL_at 64 c.toNat (by omega)
  rw [List.getElem?_eq_getElem hl] at this
  rw [this]
  have e : byteN c.toNat = c := by apply toNat_eq; rw [byteN_toNat _ (by omega)]
  rw [e]

set_option maxRecDepth 100000 in
theorem finder_any (w : World) (ht : lets w) :
    Calls Tryz.prog 77 #[] w fun e w' => e = .returned (findV w.heap.size) ∧ rowAt w' w.heap.size 170 (bhL 64) ∧ Below w.heap.size w w' := by
  have HZ := Lib.hid (rowAt_new w 170)
  have hzero := zero256
  have hg0 := ht.lt
  obtain ⟨t, fr, hg⟩ := ht
  have hg' : (w.alloc (.cells z256 170)).heap[0]? = some (.cells letA t fr) := (((Below.refl w.heap.size w).alloc (Nat.le_refl _) _).block _ hg0).trans hg
  have HG := Lib.hid hg'
  have hind := index_letters
  clear hg hg'
  go_enter Tryz.func77, Tryz.ntmps77
  go_wp2_with (refine wpList_load_row rfl 66 (.global 0) rfl 0 rfl t letA fr (.array 64 5) HG.out Tryz.underlying66 rfl size64 ?_)
  clear hzero
  go_loopg [2, 3, 5] 64 (fun g x2 x3 v wr => ∃ k : Nat, k ≤ 64 ∧ g = 64 - k ∧ v = .int .i64 k ∧ Hid (rowAt wr w.heap.size 170 (bhL k)) ∧ Hid (Below w.heap.size w wr))
  case atStart => exact ⟨0, by omega, by omega, rfl, HZ.out, (Below.refl _ _).alloc (Nat.le_refl _) _⟩
  case round =>
    obtain ⟨k, hk, rfl, rfl, HR, HB⟩ := hrel
    by_cases hlt : k < 64
    · have hb := (letB k).toNat_lt
      have hi := hind wr k hlt
      clear hind
      have hlen : (letB k).toNat < (bhL k).length := by rw [bhL_len]; omega
      obtain ⟨x, hcell⟩ : ∃ x, wr.cell? ⟨w.heap.size, (letB k).toNat, none⟩ = some x := ⟨_, HR.out.cell _ hlen⟩
      have hfr := HR.out.frozen _ hlen
      clear hlen
      go_wp2
      go_roundg (64 - (k + 1))
      case measure => omega
      case rel =>
        refine ⟨k + 1, by omega, rfl, by go_num, ?_, HB.out.setCell (Nat.le_refl _) _⟩
        unfold Hid
        rw [bhL_step k hlt]
        exact HR.out.set _ _
    · clear hind
      go_wp2
      go_ret
      obtain rfl : k = 64 := by omega
      exact ⟨rfl, HR.out, HB.out⟩
end Go.Proofs.YteallnjbpikhhaaGreatDoor

/- Contracts of package b64: what four letters are of. -/
namespace Go.Proofs.YteallnjbpikhhaaGreatDoor
open Go Go.RowKit

theorem filled_to (a b c d : UInt8) (bl off cap n : Nat) (w : World) (hs : sliceAt w (some ⟨bl, off, none⟩) [a, b, c, d]) (hf : fillN c d = n) :
    Calls Tryz.prog 102 #[.slice (some ⟨bl, off, none⟩) 4 cap] w fun e w' => e = .returned (.int .i64 (n : Nat)) ∧ w = w' :=
  (filled_any a b c d bl off cap w hs).mono fun _ _ ⟨he, hw⟩ => ⟨by rw [he, hf], hw⟩
theorem four_cells {a b c d : UInt8} {bl off : Nat} {w : World} (hs : sliceAt w (some ⟨bl, off, none⟩) [a, b, c, d]) :
    w.cell? ⟨bl, off, none⟩ = some (.int .u8 (a.toNat : Int)) ∧ w.cell? ⟨bl, off + 1, none⟩ = some (.int .u8 (b.toNat : Int)) ∧ w.cell? ⟨bl, off + 2, none⟩ = some (.int .u8 (c.toNat : Int)) ∧ w.cell? ⟨bl, off + 3, none⟩ = some (.int .u8 (d.toNat : Int)) := by
  rcases hs with hs | ⟨b', off', hs, hb, hcell⟩
  · cases hs
  cases hs
  exact ⟨hcell 0 (by simp), hcell 1 (by simp), hcell 2 (by simp), hcell 3 (by simp)⟩
theorem find_yes' {w : World} {B : Nat} {t : TypeId} (h : rowAt w B t (bhL 64)) {c : UInt8} {n : Nat} (hn : n < 64) (hv : n = valB c) :
    Calls Tryz.prog 101 #[.int .u8 (c.toNat : Int), .pointer (some ⟨B, 0, none⟩)] w fun e w' => e = .returned (.tuple #[.int .u32 n, .bool true]) ∧ w = w' :=
  find_yesG c n B w hn (by rw [bh_at h c, if_pos (by omega), hv])
theorem find_no' {w : World} {B : Nat} {t : TypeId} (h : rowAt w B t (bhL 64)) {c : UInt8} (hv : ¬ valB c < 64) :
    Calls Tryz.prog 101 #[.int .u8 (c.toNat : Int), .pointer (some ⟨B, 0, none⟩)] w fun e w' => e = .returned (.tuple #[.int .u32 0, .bool false]) ∧ w = w' :=
  find_noG c B w (by rw [bh_at h c, if_neg hv])

theorem bytes4 (n0 n1 n2 n3 : Nat) (h0 : n0 < 64) (h1 : n1 < 64) (h2 : n2 < 64) (h3 : n3 < 64) :
    bits .or .u32 (bits .or .u32 (bits .or .u32 (bits .or .u32 0 ((n0 : Int) * 262144)) ((n1 : Int) * 4096)) ((n2 : Int) * 64)) (n3 : Int) = ((n0 * 262144 + n1 * 4096 + n2 * 64 + n3 : Nat) : Int) := by
  have a1 := or_i32 (x := 0) (y := (n0 : Int) * 262144) 0 (n0 * 262144) rfl (by omega) (by omega) (by omega)
  rw [Nat.zero_or] at a1
  have a2 := or_i32 (x := ((n0 * 262144 : Nat) : Int)) (y := (n1 : Int) * 4096) (n0 * 262144) (n1 * 4096) rfl (by omega) (by omega) (by omega)
  have b2 := or_add 18 n0 (n1 * 4096) (by omega)
  rw [show (262144 : Nat) = 2 ^ 18 from rfl, b2] at a2
  have a3 := or_i32 (x := ((n0 * 2 ^ 18 + n1 * 4096 : Nat) : Int)) (y := (n2 : Int) * 64) (n0 * 2 ^ 18 + n1 * 4096) (n2 * 64) rfl (by omega) (by omega) (by omega)
  have b3 := or_add 12 (n0 * 64 + n1) (n2 * 64) (by omega)
  have c3 : (n0 * 64 + n1) * 2 ^ 12 = n0 * 2 ^ 18 + n1 * 4096 := by omega
  rw [c3] at b3
  rw [b3] at a3
  have a4 := or_i32 (x := ((n0 * 2 ^ 18 + n1 * 4096 + n2 * 64 : Nat) : Int)) (y := (n3 : Int)) (n0 * 2 ^ 18 + n1 * 4096 + n2 * 64) n3 rfl rfl (by omega) (by omega)
  have b4 := or_add 6 (n0 * 4096 + n1 * 64 + n2) n3 (by omega)
  have c4 : (n0 * 4096 + n1 * 64 + n2) * 2 ^ 6 = n0 * 2 ^ 18 + n1 * 4096 + n2 * 64 := by omega
  rw [c4] at b4
  rw [b4] at a4
  rw [a1, show (262144 : Nat) = 2 ^ 18 from rfl, a2, a3, a4]
theorem bytes3 (n0 n1 n2 : Nat) (h0 : n0 < 64) (h1 : n1 < 64) (h2 : n2 < 64) :
    bits .or .u32 (bits .or .u32 (bits .or .u32 0 ((n0 : Int) * 262144)) ((n1 : Int) * 4096)) ((n2 : Int) * 64) = ((n0 * 262144 + n1 * 4096 + n2 * 64 : Nat) : Int) := by
  have a1 := or_i32 (x := 0) (y := (n0 : Int) * 262144) 0 (n0 * 262144) rfl (by omega) (by omega) (by omega)
  rw [Nat.zero_or] at a1
  have a2 := or_i32 (x := ((n0 * 262144 : Nat) : Int)) (y := (n1 : Int) * 4096) (n0 * 262144) (n1 * 4096) rfl (by omega) (by omega) (by omega)
  have b2 := or_add 18 n0 (n1 * 4096) (by omega)
  rw [show (262144 : Nat) = 2 ^ 18 from rfl, b2] at a2
  have a3 := or_i32 (x := ((n0 * 2 ^ 18 + n1 * 4096 : Nat) : Int)) (y := (n2 : Int) * 64) (n0 * 2 ^ 18 + n1 * 4096) (n2 * 64) rfl (by omega) (by omega) (by omega)
  have b3 := or_add 12 (n0 * 64 + n1) (n2 * 64) (by omega)
  have c3 : (n0 * 64 + n1) * 2 ^ 12 = n0 * 2 ^ 18 + n1 * 4096 := by omega
  rw [c3] at b3
  rw [b3] at a3
  rw [a1, show (262144 : Nat) = 2 ^ 18 from rfl, a2, a3]
theorem bytes2 (n0 n1 : Nat) (h0 : n0 < 64) (h1 : n1 < 64) :
    bits .or .u32 (bits .or .u32 0 ((n0 : Int) * 262144)) ((n1 : Int) * 4096) = ((n0 * 262144 + n1 * 4096 : Nat) : Int) := by
  have a1 := or_i32 (x := 0) (y := (n0 : Int) * 262144) 0 (n0 * 262144) rfl (by omega) (by omega) (by omega)
  rw [Nat.zero_or] at a1
  have a2 := or_i32 (x := ((n0 * 262144 : Nat) : Int)) (y := (n1 : Int) * 4096) (n0 * 262144) (n1 * 4096) rfl (by omega) (by omega) (by omega)
  have b2 := or_add 18 n0 (n1 * 4096) (by omega)
  rw [show (262144 : Nat) = 2 ^ 18 from rfl, b2] at a2
  rw [a1, show (262144 : Nat) = 2 ^ 18 from rfl, a2]
theorem slice_three3 (w : World) (t : TypeId) {x0 x1 x2 : Int} {y0 y1 y2 : UInt8} (h0 : x0 = (y0.toNat : Int)) (h1 : x1 = (y1.toNat : Int)) (h2 : x2 = (y2.toNat : Int)) :
    sliceAt (w.alloc (.cells #[.int .u8 x0, .int .u8 x1, .int .u8 x2] t)) (some ⟨w.heap.size, 0, none⟩) [y0, y1, y2] := by
  subst h0 h1 h2
  refine .inr ⟨w.heap.size, 0, rfl, by simp, fun j hj => ?_⟩
  match j, hj with
  | 0, _ => simp only [World.cell?, heap_alloc_new]; simp [byteV]
  | 1, _ => simp only [World.cell?, heap_alloc_new]; simp [byteV]
  | 2, _ => simp only [World.cell?, heap_alloc_new]; simp [byteV]
  | j + 3, hj => change j + 3 < 3 at hj; omega
theorem slice_three2 (w : World) (t : TypeId) {x0 x1 x2 : Int} {y0 y1 : UInt8} (h0 : x0 = (y0.toNat : Int)) (h1 : x1 = (y1.toNat : Int)) :
    sliceAt (w.alloc (.cells #[.int .u8 x0, .int .u8 x1, .int .u8 x2] t)) (some ⟨w.heap.size, 0, none⟩) [y0, y1] := by
  subst h0 h1
  refine .inr ⟨w.heap.size, 0, rfl, by simp, fun j hj => ?_⟩
  match j, hj with
  | 0, _ => simp only [World.cell?, heap_alloc_new]; simp [byteV]
  | 1, _ => simp only [World.cell?, heap_alloc_new]; simp [byteV]
  | j + 2, hj => change j + 2 < 2 at hj; omega
theorem slice_three1 (w : World) (t : TypeId) {x0 x1 x2 : Int} {y0 : UInt8} (h0 : x0 = (y0.toNat : Int)) :
    sliceAt (w.alloc (.cells #[.int .u8 x0, .int .u8 x1, .int .u8 x2] t)) (some ⟨w.heap.size, 0, none⟩) [y0] := by
  subst h0
  refine .inr ⟨w.heap.size, 0, rfl, by simp, fun j hj => ?_⟩
  match j, hj with
  | 0, _ => simp only [World.cell?, heap_alloc_new]; simp [byteV]
  | j + 1, hj => change j + 1 < 1 at hj; omega

theorem bo_4_ok (a b c d : UInt8) (bl off cap B : Nat) (t : TypeId) (w : World) (hs : sliceAt w (some ⟨bl, off, none⟩) [a, b, c, d]) (hcap : 4 ≤ cap) (hrow : rowAt w B t (bhL 64)) (hf : fillN c d = 4) (v0 : valB a < 64) (v1 : valB b < 64) (v2 : valB c < 64) (v3 : valB d < 64) :
    Calls Tryz.prog 78 #[.slice (some ⟨bl, off, none⟩) 4 cap, .func (.func 101) #[] #[.pointer (some ⟨B, 0, none⟩)]] w fun e w' => e = .returned (.tuple #[.slice (some ⟨w.heap.size, 0, none⟩) 3 3, .bool true]) ∧ sliceAt w' (some ⟨w.heap.size, 0, none⟩) [byteN (valB a * 4 + valB b / 16), byteN (valB b % 16 * 16 + valB c / 4), byteN (valB c % 4 * 64 + valB d)] ∧ Below w.heap.size w w' := by
  have HF := Lib.hid (filled_to a b c d bl off cap 4 w hs hf)
  obtain ⟨c0, c1, c2, c3⟩ := four_cells hs
  obtain ⟨n0, e0⟩ : ∃ n, n = valB a := ⟨_, rfl⟩
  rw [← e0] at v0
  have H0 := Lib.hid (find_yes' hrow v0 e0)
  obtain ⟨n1, e1⟩ : ∃ n, n = valB b := ⟨_, rfl⟩
  rw [← e1] at v1
  have H1 := Lib.hid (find_yes' hrow v1 e1)
  obtain ⟨n2, e2⟩ : ∃ n, n = valB c := ⟨_, rfl⟩
  rw [← e2] at v2
  have H2 := Lib.hid (find_yes' hrow v2 e2)
  obtain ⟨n3, e3⟩ : ∃ n, n = valB d := ⟨_, rfl⟩
  rw [← e3] at v3
  have H3 := Lib.hid (find_yes' hrow v3 e3)
  obtain ⟨N, hN⟩ : ∃ N : Nat, N = n0 * 262144 + n1 * 4096 + n2 * 64 + n3 := ⟨_, rfl⟩
  have es : bits .or .u32 (bits .or .u32 (bits .or .u32 (bits .or .u32 0 ((n0 : Int) * 262144)) ((n1 : Int) * 4096)) ((n2 : Int) * 64)) (n3 : Int) = (N : Int) := by rw [hN]; exact bytes4 n0 n1 n2 n3 v0 v1 v2 v3
  have hn : N < 16777216 := by omega
  have HN := Lib.hid (And.intro hN (And.intro e0 (And.intro e1 (And.intro e2 e3))))
  clear hf hs hrow e0 e1 e2 e3 hN
  go_enter Tryz.func78, Tryz.ntmps78
  go_wp2_with fail
  refine HF.out.mono ?_
  rintro e w1 ⟨rfl, rfl⟩
  go_wp2_with fail
  refine wp_loop_rounds 5 ?_
  rw [rounds_succ]; go_wp2_with fail
  refine H0.out.mono ?_
  rintro e w1 ⟨rfl, rfl⟩
  go_wp2_with fail
  rw [rounds_succ]; go_wp2_with fail
  refine H1.out.mono ?_
  rintro e w1 ⟨rfl, rfl⟩
  go_wp2_with fail
  rw [rounds_succ]; go_wp2_with fail
  refine H2.out.mono ?_
  rintro e w1 ⟨rfl, rfl⟩
  go_wp2_with fail
  rw [rounds_succ]; go_wp2_with fail
  refine H3.out.mono ?_
  rintro e w1 ⟨rfl, rfl⟩
  go_wp2_with fail
  rw [rounds_succ]; go_wp2
  refine wp_loop_rounds 1 ?_
  rw [rounds_succ]; go_wp2
  go_ret2
  obtain ⟨hN, e0, e1, e2, e3⟩ := HN.out
  refine ⟨rfl, ?_, (Below.refl _ _).alloc (Nat.le_refl _) _⟩
  refine slice_three3 w _ ?_ ?_ ?_
  all_goals
    rw [byteN_toNat _ (by omega)]
    omega

theorem bo_3_ok (a b c d : UInt8) (bl off cap B : Nat) (t : TypeId) (w : World) (hs : sliceAt w (some ⟨bl, off, none⟩) [a, b, c, d]) (hcap : 4 ≤ cap) (hrow : rowAt w B t (bhL 64)) (hf : fillN c d = 3) (v0 : valB a < 64) (v1 : valB b < 64) (v2 : valB c < 64) (hz : valB c % 4 = 0) :
    Calls Tryz.prog 78 #[.slice (some ⟨bl, off, none⟩) 4 cap, .func (.func 101) #[] #[.pointer (some ⟨B, 0, none⟩)]] w fun e w' => e = .returned (.tuple #[.slice (some ⟨w.heap.size, 0, none⟩) 2 3, .bool true]) ∧ sliceAt w' (some ⟨w.heap.size, 0, none⟩) [byteN (valB a * 4 + valB b / 16), byteN (valB b % 16 * 16 + valB c / 4)] ∧ Below w.heap.size w w' := by
  have HF := Lib.hid (filled_to a b c d bl off cap 3 w hs hf)
  obtain ⟨c0, c1, c2, c3⟩ := four_cells hs
  obtain ⟨n0, e0⟩ : ∃ n, n = valB a := ⟨_, rfl⟩
  rw [← e0] at v0
  have H0 := Lib.hid (find_yes' hrow v0 e0)
  obtain ⟨n1, e1⟩ : ∃ n, n = valB b := ⟨_, rfl⟩
  rw [← e1] at v1
  have H1 := Lib.hid (find_yes' hrow v1 e1)
  obtain ⟨n2, e2⟩ : ∃ n, n = valB c := ⟨_, rfl⟩
  rw [← e2] at v2
  have H2 := Lib.hid (find_yes' hrow v2 e2)
  obtain ⟨N, hN⟩ : ∃ N : Nat, N = n0 * 262144 + n1 * 4096 + n2 * 64 := ⟨_, rfl⟩
  have es : bits .or .u32 (bits .or .u32 (bits .or .u32 0 ((n0 : Int) * 262144)) ((n1 : Int) * 4096)) ((n2 : Int) * 64) = (N : Int) := by rw [hN]; exact bytes3 n0 n1 n2 v0 v1 v2
  have hn : N < 16777216 := by omega
  have tz : (((N : Int) % 256) != 0) = false := by apply bne_no; omega
  have HN := Lib.hid (And.intro hN (And.intro e0 (And.intro e1 e2)))
  clear hf hs hrow e0 e1 e2 hN hz
  go_enter Tryz.func78, Tryz.ntmps78
  go_wp2_with fail
  refine HF.out.mono ?_
  rintro e w1 ⟨rfl, rfl⟩
  go_wp2_with fail
  refine wp_loop_rounds 4 ?_
  rw [rounds_succ]; go_wp2_with fail
  refine H0.out.mono ?_
  rintro e w1 ⟨rfl, rfl⟩
  go_wp2_with fail
  rw [rounds_succ]; go_wp2_with fail
  refine H1.out.mono ?_
  rintro e w1 ⟨rfl, rfl⟩
  go_wp2_with fail
  rw [rounds_succ]; go_wp2_with fail
  refine H2.out.mono ?_
  rintro e w1 ⟨rfl, rfl⟩
  go_wp2_with fail
  rw [rounds_succ]; go_wp2
  refine wp_loop_rounds 2 ?_
  rw [rounds_succ]; go_wp2
  rw [rounds_succ]; go_wp2
  go_ret2
  obtain ⟨hN, e0, e1, e2⟩ := HN.out
  refine ⟨rfl, ?_, (Below.refl _ _).alloc (Nat.le_refl _) _⟩
  refine slice_three2 w _ ?_ ?_
  all_goals
    rw [byteN_toNat _ (by omega)]
    omega

theorem bo_3_bad (a b c d : UInt8) (bl off cap B : Nat) (t : TypeId) (w : World) (hs : sliceAt w (some ⟨bl, off, none⟩) [a, b, c, d]) (hcap : 4 ≤ cap) (hrow : rowAt w B t (bhL 64)) (hf : fillN c d = 3) (v0 : valB a < 64) (v1 : valB b < 64) (v2 : valB c < 64) (hz : ¬ valB c % 4 = 0) :
    Calls Tryz.prog 78 #[.slice (some ⟨bl, off, none⟩) 4 cap, .func (.func 101) #[] #[.pointer (some ⟨B, 0, none⟩)]] w fun e w' => e = .returned (.tuple #[.slice none 0 0, .bool false]) ∧ Below w.heap.size w w' := by
  have HF := Lib.hid (filled_to a b c d bl off cap 3 w hs hf)
  obtain ⟨c0, c1, c2, c3⟩ := four_cells hs
  obtain ⟨n0, e0⟩ : ∃ n, n = valB a := ⟨_, rfl⟩
  rw [← e0] at v0
  have H0 := Lib.hid (find_yes' hrow v0 e0)
  obtain ⟨n1, e1⟩ : ∃ n, n = valB b := ⟨_, rfl⟩
  rw [← e1] at v1
  have H1 := Lib.hid (find_yes' hrow v1 e1)
  obtain ⟨n2, e2⟩ : ∃ n, n = valB c := ⟨_, rfl⟩
  rw [← e2] at v2
  have H2 := Lib.hid (find_yes' hrow v2 e2)
  obtain ⟨N, hN⟩ : ∃ N : Nat, N = n0 * 262144 + n1 * 4096 + n2 * 64 := ⟨_, rfl⟩
  have es : bits .or .u32 (bits .or .u32 (bits .or .u32 0 ((n0 : Int) * 262144)) ((n1 : Int) * 4096)) ((n2 : Int) * 64) = (N : Int) := by rw [hN]; exact bytes3 n0 n1 n2 v0 v1 v2
  have hn : N < 16777216 := by omega
  have tz : (((N : Int) % 256) != 0) = true := by apply bne_yes; omega
  have HN := Lib.hid (And.intro hN (And.intro e0 (And.intro e1 e2)))
  clear hf hs hrow e0 e1 e2 hN hz
  go_enter Tryz.func78, Tryz.ntmps78
  go_wp2_with fail
  refine HF.out.mono ?_
  rintro e w1 ⟨rfl, rfl⟩
  go_wp2_with fail
  refine wp_loop_rounds 4 ?_
  rw [rounds_succ]; go_wp2_with fail
  refine H0.out.mono ?_
  rintro e w1 ⟨rfl, rfl⟩
  go_wp2_with fail
  rw [rounds_succ]; go_wp2_with fail
  refine H1.out.mono ?_
  rintro e w1 ⟨rfl, rfl⟩
  go_wp2_with fail
  rw [rounds_succ]; go_wp2_with fail
  refine H2.out.mono ?_
  rintro e w1 ⟨rfl, rfl⟩
  go_wp2_with fail
  rw [rounds_succ]; go_wp2
  refine wp_loop_rounds 1 ?_
  rw [rounds_succ]; go_wp2
  go_ret2
  exact ⟨rfl, (Below.refl _ _).alloc (Nat.le_refl _) _⟩

theorem bo_2_ok (a b c d : UInt8) (bl off cap B : Nat) (t : TypeId) (w : World) (hs : sliceAt w (some ⟨bl, off, none⟩) [a, b, c, d]) (hcap : 4 ≤ cap) (hrow : rowAt w B t (bhL 64)) (hf : fillN c d = 2) (v0 : valB a < 64) (v1 : valB b < 64) (hz : valB b % 16 = 0) :
    Calls Tryz.prog 78 #[.slice (some ⟨bl, off, none⟩) 4 cap, .func (.func 101) #[] #[.pointer (some ⟨B, 0, none⟩)]] w fun e w' => e = .returned (.tuple #[.slice (some ⟨w.heap.size, 0, none⟩) 1 3, .bool true]) ∧ sliceAt w' (some ⟨w.heap.size, 0, none⟩) [byteN (valB a * 4 + valB b / 16)] ∧ Below w.heap.size w w' := by
  have HF := Lib.hid (filled_to a b c d bl off cap 2 w hs hf)
  obtain ⟨c0, c1, c2, c3⟩ := four_cells hs
  obtain ⟨n0, e0⟩ : ∃ n, n = valB a := ⟨_, rfl⟩
  rw [← e0] at v0
  have H0 := Lib.hid (find_yes' hrow v0 e0)
  obtain ⟨n1, e1⟩ : ∃ n, n = valB b := ⟨_, rfl⟩
  rw [← e1] at v1
  have H1 := Lib.hid (find_yes' hrow v1 e1)
  obtain ⟨N, hN⟩ : ∃ N : Nat, N = n0 * 262144 + n1 * 4096 := ⟨_, rfl⟩
  have es : bits .or .u32 (bits .or .u32 0 ((n0 : Int) * 262144)) ((n1 : Int) * 4096) = (N : Int) := by rw [hN]; exact bytes2 n0 n1 v0 v1
  have hn : N < 16777216 := by omega
  have tz : (((N : Int) / 256 % 256) != 0) = false := by apply bne_no; omega
  have tz2 : (((N : Int) % 256) != 0) = false := by apply bne_no; omega
  have HN := Lib.hid (And.intro hN (And.intro e0 e1))
  clear hf hs hrow e0 e1 hN hz
  go_enter Tryz.func78, Tryz.ntmps78
  go_wp2_with fail
  refine HF.out.mono ?_
  rintro e w1 ⟨rfl, rfl⟩
  go_wp2_with fail
  refine wp_loop_rounds 3 ?_
  rw [rounds_succ]; go_wp2_with fail
  refine H0.out.mono ?_
  rintro e w1 ⟨rfl, rfl⟩
  go_wp2_with fail
  rw [rounds_succ]; go_wp2_with fail
  refine H1.out.mono ?_
  rintro e w1 ⟨rfl, rfl⟩
  go_wp2_with fail
  rw [rounds_succ]; go_wp2
  refine wp_loop_rounds 3 ?_
  rw [rounds_succ]; go_wp2
  rw [rounds_succ]; go_wp2
  rw [rounds_succ]; go_wp2
  go_ret2
  obtain ⟨hN, e0, e1⟩ := HN.out
  refine ⟨rfl, ?_, (Below.refl _ _).alloc (Nat.le_refl _) _⟩
  refine slice_three1 w _ ?_ 
  all_goals
    rw [byteN_toNat _ (by omega)]
    omega

theorem bo_2_bad (a b c d : UInt8) (bl off cap B : Nat) (t : TypeId) (w : World) (hs : sliceAt w (some ⟨bl, off, none⟩) [a, b, c, d]) (hcap : 4 ≤ cap) (hrow : rowAt w B t (bhL 64)) (hf : fillN c d = 2) (v0 : valB a < 64) (v1 : valB b < 64) (hz : ¬ valB b % 16 = 0) :
    Calls Tryz.prog 78 #[.slice (some ⟨bl, off, none⟩) 4 cap, .func (.func 101) #[] #[.pointer (some ⟨B, 0, none⟩)]] w fun e w' => e = .returned (.tuple #[.slice none 0 0, .bool false]) ∧ Below w.heap.size w w' := by
  have HF := Lib.hid (filled_to a b c d bl off cap 2 w hs hf)
  obtain ⟨c0, c1, c2, c3⟩ := four_cells hs
  obtain ⟨n0, e0⟩ : ∃ n, n = valB a := ⟨_, rfl⟩
  rw [← e0] at v0
  have H0 := Lib.hid (find_yes' hrow v0 e0)
  obtain ⟨n1, e1⟩ : ∃ n, n = valB b := ⟨_, rfl⟩
  rw [← e1] at v1
  have H1 := Lib.hid (find_yes' hrow v1 e1)
  obtain ⟨N, hN⟩ : ∃ N : Nat, N = n0 * 262144 + n1 * 4096 := ⟨_, rfl⟩
  have es : bits .or .u32 (bits .or .u32 0 ((n0 : Int) * 262144)) ((n1 : Int) * 4096) = (N : Int) := by rw [hN]; exact bytes2 n0 n1 v0 v1
  have hn : N < 16777216 := by omega
  have tz : (((N : Int) / 256 % 256) != 0) = true := by apply bne_yes; omega
  have tz2 : (((N : Int) % 256) != 0) = false := by apply bne_no; omega
  have HN := Lib.hid (And.intro hN (And.intro e0 e1))
  clear hf hs hrow e0 e1 hN hz
  go_enter Tryz.func78, Tryz.ntmps78
  go_wp2_with fail
  refine HF.out.mono ?_
  rintro e w1 ⟨rfl, rfl⟩
  go_wp2_with fail
  refine wp_loop_rounds 3 ?_
  rw [rounds_succ]; go_wp2_with fail
  refine H0.out.mono ?_
  rintro e w1 ⟨rfl, rfl⟩
  go_wp2_with fail
  rw [rounds_succ]; go_wp2_with fail
  refine H1.out.mono ?_
  rintro e w1 ⟨rfl, rfl⟩
  go_wp2_with fail
  rw [rounds_succ]; go_wp2
  refine wp_loop_rounds 1 ?_
  rw [rounds_succ]; go_wp2
  go_ret2
  exact ⟨rfl, (Below.refl _ _).alloc (Nat.le_refl _) _⟩

end Go.Proofs.YteallnjbpikhhaaGreatDoor
