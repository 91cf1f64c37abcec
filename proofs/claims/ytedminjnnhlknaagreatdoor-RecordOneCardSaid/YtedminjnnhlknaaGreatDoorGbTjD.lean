/- Contracts of package tiles: isUncut, isFormed, of a part of any make. -/
import Derived.Test.YtedminjnnhlknaaGreatDoorGbTiG
import Derived.Test.YtedminjnnhlknaaGreatDoorGbTjB
namespace Go.Proofs.YtedminjnnhlknaaGreatDoor
open Go Go.RowKit

theorem span_bool {a b c d : Int} {B : Bool} (h : (a == c && b == d) = B) (w : World) : (binOp .eql 27 (.agg #[.int .i64 a, .int .i64 b]) (.agg #[.int .i64 c, .int .i64 d])).run Tryz.prog w = .ok (.bool B) w := by
  rw [span_eql, h]
set_option maxHeartbeats 1000000 in
theorem uncutB_any (kd h1 h2 b1 b2 e1 e2 : Int) (ka ca : Option Addr) (kn kc cn cc : Nat) (B : Bool) (hB : (decide (cn = 0) && (e1 == 0 && e2 == 0)) = B) (w : World) :
    Calls Tryz.prog 97 #[.agg #[.int .i64 kd, .int .i64 h1, .int .i64 h2, .int .i64 b1, .int .i64 b2, .slice ka kn kc, .slice ca cn cc, .int .i64 e1, .int .i64 e2]] w
      fun e w' => e = .returned (.bool B) ∧ Below w.heap.size w w' := by
  have HB := Lib.hid (below_new w (.cells #[.int .i64 kd, .int .i64 h1, .int .i64 h2, .int .i64 b1, .int .i64 b2, .slice ka kn kc, .slice ca cn cc, .int .i64 e1, .int .i64 e2] 31))
  by_cases hc : cn = 0
  · subst hc
    have hB2 : (e1 == 0 && e2 == 0) = B := by simpa using hB
    have ks := span_bool hB2
    clear hB hB2
    go_enter Tryz.func97, Tryz.ntmps97
    go_wp2
    go_ret
    exact ⟨rfl, HB.out⟩
  · have hB2 : B = false := by rw [← hB]; simp [hc]
    subst hB2
    have t1 : ((cn : Int) == 0) = false := beq_no (by omega)
    clear hB
    go_enter Tryz.func97, Tryz.ntmps97
    go_wp2
    go_ret
    exact ⟨rfl, HB.out⟩
set_option maxHeartbeats 2000000 in
theorem formedB_off1 (kd h1 h2 b1 b2 e1 e2 : Nat) (hne : h2 ≠ b1) (ka ca : Option Addr) (kn kc cn cc : Nat) (w : World) :
    Calls Tryz.prog 66 #[.agg #[.int .i64 (kd : Int), .int .i64 (h1 : Int), .int .i64 (h2 : Int), .int .i64 (b1 : Int), .int .i64 (b2 : Int), .slice ka kn kc, .slice ca cn cc, .int .i64 (e1 : Int), .int .i64 (e2 : Int)]] w
      fun e w' => e = .returned (.bool false) ∧ Below w.heap.size w w' := by
  have HB := Lib.hid (below_new w (.cells #[.int .i64 (kd : Int), .int .i64 (h1 : Int), .int .i64 (h2 : Int), .int .i64 (b1 : Int), .int .i64 (b2 : Int), .slice ka kn kc, .slice ca cn cc, .int .i64 (e1 : Int), .int .i64 (e2 : Int)] 31))
  have t1 : ((h2 : Int) != (b1 : Int)) = true := by simp; omega
  go_enter Tryz.func66, Tryz.ntmps66
  go_wp2_with fail
  go_ret
  exact ⟨rfl, HB.out⟩
set_option maxHeartbeats 2000000 in
theorem formedB_off2 (kd h1 b1 b2 e1 e2 : Nat) (hlt : b2 < b1) (ka ca : Option Addr) (kn kc cn cc : Nat) (w : World) :
    Calls Tryz.prog 66 #[.agg #[.int .i64 (kd : Int), .int .i64 (h1 : Int), .int .i64 (b1 : Int), .int .i64 (b1 : Int), .int .i64 (b2 : Int), .slice ka kn kc, .slice ca cn cc, .int .i64 (e1 : Int), .int .i64 (e2 : Int)]] w
      fun e w' => e = .returned (.bool false) ∧ Below w.heap.size w w' := by
  have HB := Lib.hid (below_new w (.cells #[.int .i64 (kd : Int), .int .i64 (h1 : Int), .int .i64 (b1 : Int), .int .i64 (b1 : Int), .int .i64 (b2 : Int), .slice ka kn kc, .slice ca cn cc, .int .i64 (e1 : Int), .int .i64 (e2 : Int)] 31))
  have t1 : ((b1 : Int) != (b1 : Int)) = false := bne_no rfl
  have n2 : decide (b2 < b1) = true := decide_eq_true (by omega)
  have t2 : decide ((b2 : Int) < (b1 : Int)) = true := decide_eq_true (by omega)
  go_enter Tryz.func66, Tryz.ntmps66
  go_wp2_with fail
  go_ret
  exact ⟨rfl, HB.out⟩
set_option maxHeartbeats 2000000 in
theorem formedB_other (kd h1 b1 b2 e1 e2 : Nat) (hb : b1 ≤ b2) (hk : 2 < kd) (ka ca : Option Addr) (kn kc cn cc : Nat) (w : World) :
    Calls Tryz.prog 66 #[.agg #[.int .i64 (kd : Int), .int .i64 (h1 : Int), .int .i64 (b1 : Int), .int .i64 (b1 : Int), .int .i64 (b2 : Int), .slice ka kn kc, .slice ca cn cc, .int .i64 (e1 : Int), .int .i64 (e2 : Int)]] w
      fun e w' => e = .returned (.bool false) ∧ Below w.heap.size w w' := by
  have HB := Lib.hid (below_new w (.cells #[.int .i64 (kd : Int), .int .i64 (h1 : Int), .int .i64 (b1 : Int), .int .i64 (b1 : Int), .int .i64 (b2 : Int), .slice ka kn kc, .slice ca cn cc, .int .i64 (e1 : Int), .int .i64 (e2 : Int)] 31))
  have t1 : ((b1 : Int) != (b1 : Int)) = false := bne_no rfl
  have n2 : decide (b2 < b1) = false := decide_eq_false (by omega)
  have t2 : decide ((b2 : Int) < (b1 : Int)) = false := decide_eq_false (by omega)
  have k0 : ((kd : Int) == 0) = false := beq_no (by omega)
  have k1 : ((kd : Int) == 1) = false := beq_no (by omega)
  have k2 : ((kd : Int) == 2) = false := beq_no (by omega)
  go_enter Tryz.func66, Tryz.ntmps66
  go_wp2_with fail
  go_ret
  exact ⟨rfl, HB.out⟩
set_option maxHeartbeats 2000000 in
theorem formedB_leafno (h1 b1 b2 e1 e2 : Nat) (hb : b1 ≤ b2) (ka ca : Option Addr) (kn kc cn cc : Nat) (hK : kn ≠ 0) (w : World) :
    Calls Tryz.prog 66 #[.agg #[.int .i64 0, .int .i64 (h1 : Int), .int .i64 (b1 : Int), .int .i64 (b1 : Int), .int .i64 (b2 : Int), .slice ka kn kc, .slice ca cn cc, .int .i64 (e1 : Int), .int .i64 (e2 : Int)]] w
      fun e w' => e = .returned (.bool false) ∧ Below w.heap.size w w' := by
  have HB := Lib.hid (below_new w (.cells #[.int .i64 0, .int .i64 (h1 : Int), .int .i64 (b1 : Int), .int .i64 (b1 : Int), .int .i64 (b2 : Int), .slice ka kn kc, .slice ca cn cc, .int .i64 (e1 : Int), .int .i64 (e2 : Int)] 31))
  have t1 : ((b1 : Int) != (b1 : Int)) = false := bne_no rfl
  have n2 : decide (b2 < b1) = false := decide_eq_false (by omega)
  have t2 : decide ((b2 : Int) < (b1 : Int)) = false := decide_eq_false (by omega)
  have t3 : ((kn : Int) == 0) = false := beq_no (by omega)
  go_enter Tryz.func66, Tryz.ntmps66
  go_wp2_with fail
  go_ret
  exact ⟨rfl, HB.out⟩
set_option maxHeartbeats 2000000 in
theorem formedB_leaf (h1 b1 b2 e1 e2 : Nat) (hb : b1 ≤ b2) (ka ca : Option Addr) (kc cn cc : Nat) (B : Bool) (hB : (decide (cn = 0) && ((e1 : Int) == 0 && (e2 : Int) == 0)) = B) (w : World) :
    Calls Tryz.prog 66 #[.agg #[.int .i64 0, .int .i64 (h1 : Int), .int .i64 (b1 : Int), .int .i64 (b1 : Int), .int .i64 (b2 : Int), .slice ka 0 kc, .slice ca cn cc, .int .i64 (e1 : Int), .int .i64 (e2 : Int)]] w
      fun e w' => e = .returned (.bool B) ∧ Below w.heap.size w w' := by
  have HB := Lib.hid (below_new w (.cells #[.int .i64 0, .int .i64 (h1 : Int), .int .i64 (b1 : Int), .int .i64 (b1 : Int), .int .i64 (b2 : Int), .slice ka 0 kc, .slice ca cn cc, .int .i64 (e1 : Int), .int .i64 (e2 : Int)] 31))
  have HU := Lib.hid (fun W => uncutB_any 0 (h1 : Int) (b1 : Int) (b1 : Int) (b2 : Int) (e1 : Int) (e2 : Int) ka ca 0 kc cn cc B hB W)
  have t1 : ((b1 : Int) != (b1 : Int)) = false := bne_no rfl
  have n2 : decide (b2 < b1) = false := decide_eq_false (by omega)
  have t2 : decide ((b2 : Int) < (b1 : Int)) = false := decide_eq_false (by omega)
  clear hB
  go_enter Tryz.func66, Tryz.ntmps66
  go_wp2_with fail
  with_reducible refine (HU.out _).mono ?_
  rintro e w2 ⟨rfl, hb2⟩
  have HB2 := Lib.hid (HB.out.trans (hb2.mono HB.out.size))
  clear hb2
  go_wp2_with fail
  go_ret
  exact ⟨rfl, HB2.out⟩
set_option maxHeartbeats 2000000 in
theorem formedB_multi0 (h1 b1 b2 e1 e2 : Nat) (hb : b1 ≤ b2) (ka ca : Option Addr) (kc cn cc : Nat) (w : World) :
    Calls Tryz.prog 66 #[.agg #[.int .i64 1, .int .i64 (h1 : Int), .int .i64 (b1 : Int), .int .i64 (b1 : Int), .int .i64 (b2 : Int), .slice ka 0 kc, .slice ca cn cc, .int .i64 (e1 : Int), .int .i64 (e2 : Int)]] w
      fun e w' => e = .returned (.bool false) ∧ Below w.heap.size w w' := by
  have HB := Lib.hid (below_new w (.cells #[.int .i64 1, .int .i64 (h1 : Int), .int .i64 (b1 : Int), .int .i64 (b1 : Int), .int .i64 (b2 : Int), .slice ka 0 kc, .slice ca cn cc, .int .i64 (e1 : Int), .int .i64 (e2 : Int)] 31))
  have t1 : ((b1 : Int) != (b1 : Int)) = false := bne_no rfl
  have n2 : decide (b2 < b1) = false := decide_eq_false (by omega)
  have t2 : decide ((b2 : Int) < (b1 : Int)) = false := decide_eq_false (by omega)
  go_enter Tryz.func66, Tryz.ntmps66
  go_wp2_with fail
  go_ret
  exact ⟨rfl, HB.out⟩
set_option maxHeartbeats 2000000 in
theorem formedB_multi1 (h1 b1 b2 e1 e2 : Nat) (hb : b1 ≤ b2) (ka ca : Option Addr) (kn kc cn cc : Nat) (hK : 0 < kn) (B : Bool) (hB : ((kn : Int) == (cn : Int)) = B) (w : World) :
    Calls Tryz.prog 66 #[.agg #[.int .i64 1, .int .i64 (h1 : Int), .int .i64 (b1 : Int), .int .i64 (b1 : Int), .int .i64 (b2 : Int), .slice ka kn kc, .slice ca cn cc, .int .i64 (e1 : Int), .int .i64 (e2 : Int)]] w
      fun e w' => e = .returned (.bool B) ∧ Below w.heap.size w w' := by
  have HB := Lib.hid (below_new w (.cells #[.int .i64 1, .int .i64 (h1 : Int), .int .i64 (b1 : Int), .int .i64 (b1 : Int), .int .i64 (b2 : Int), .slice ka kn kc, .slice ca cn cc, .int .i64 (e1 : Int), .int .i64 (e2 : Int)] 31))
  have t1 : ((b1 : Int) != (b1 : Int)) = false := bne_no rfl
  have n2 : decide (b2 < b1) = false := decide_eq_false (by omega)
  have t2 : decide ((b2 : Int) < (b1 : Int)) = false := decide_eq_false (by omega)
  have k3 : decide (0 < kn) = true := decide_eq_true hK
  have k4 : decide ((0 : Int) < (kn : Int)) = true := decide_eq_true (by omega)
  go_enter Tryz.func66, Tryz.ntmps66
  go_wp2_with fail
  go_ret
  exact ⟨rfl, HB.out⟩
set_option maxHeartbeats 2000000 in
theorem formedB_msgno (h1 b1 b2 e1 e2 : Nat) (hb : b1 ≤ b2) (ka ca : Option Addr) (kn kc cn cc : Nat) (hK : kn ≠ 1) (w : World) :
    Calls Tryz.prog 66 #[.agg #[.int .i64 2, .int .i64 (h1 : Int), .int .i64 (b1 : Int), .int .i64 (b1 : Int), .int .i64 (b2 : Int), .slice ka kn kc, .slice ca cn cc, .int .i64 (e1 : Int), .int .i64 (e2 : Int)]] w
      fun e w' => e = .returned (.bool false) ∧ Below w.heap.size w w' := by
  have HB := Lib.hid (below_new w (.cells #[.int .i64 2, .int .i64 (h1 : Int), .int .i64 (b1 : Int), .int .i64 (b1 : Int), .int .i64 (b2 : Int), .slice ka kn kc, .slice ca cn cc, .int .i64 (e1 : Int), .int .i64 (e2 : Int)] 31))
  have t1 : ((b1 : Int) != (b1 : Int)) = false := bne_no rfl
  have n2 : decide (b2 < b1) = false := decide_eq_false (by omega)
  have t2 : decide ((b2 : Int) < (b1 : Int)) = false := decide_eq_false (by omega)
  have t3 : ((kn : Int) == 1) = false := beq_no (by omega)
  have hB := HB.out
  have hl := heap_alloc_new w (.cells #[.int .i64 2, .int .i64 (h1 : Int), .int .i64 (b1 : Int), .int .i64 (b1 : Int), .int .i64 (b2 : Int), .slice ka kn kc, .slice ca cn cc, .int .i64 (e1 : Int), .int .i64 (e2 : Int)] 31)
  obtain ⟨X, hX⟩ : ∃ X, X = w.alloc (.cells #[.int .i64 2, .int .i64 (h1 : Int), .int .i64 (b1 : Int), .int .i64 (b1 : Int), .int .i64 (b2 : Int), .slice ka kn kc, .slice ca cn cc, .int .i64 (e1 : Int), .int .i64 (e2 : Int)] 31) := ⟨_, rfl⟩
  rw [← hX] at hB hl
  have s0 : ∀ z : BW X, z.v.cell? ⟨w.heap.size, 0, none⟩ = some (.int .i64 2) := BW.cell (by simp [World.cell?, hl])
  have s1 : ∀ z : BW X, z.v.cell? ⟨w.heap.size, 1, none⟩ = some (.int .i64 (h1 : Int)) := BW.cell (by simp [World.cell?, hl])
  have s2 : ∀ z : BW X, z.v.cell? ⟨w.heap.size, 2, none⟩ = some (.int .i64 (b1 : Int)) := BW.cell (by simp [World.cell?, hl])
  have s3 : ∀ z : BW X, z.v.cell? ⟨w.heap.size, 3, none⟩ = some (.int .i64 (b1 : Int)) := BW.cell (by simp [World.cell?, hl])
  have s4 : ∀ z : BW X, z.v.cell? ⟨w.heap.size, 4, none⟩ = some (.int .i64 (b2 : Int)) := BW.cell (by simp [World.cell?, hl])
  have s5 : ∀ z : BW X, z.v.cell? ⟨w.heap.size, 5, none⟩ = some (.slice ka kn kc) := BW.cell (by simp [World.cell?, hl])
  have s6 : ∀ z : BW X, z.v.cell? ⟨w.heap.size, 6, none⟩ = some (.slice ca cn cc) := BW.cell (by simp [World.cell?, hl])
  have s7 : ∀ z : BW X, z.v.cell? ⟨w.heap.size, 7, none⟩ = some (.int .i64 (e1 : Int)) := BW.cell (by simp [World.cell?, hl])
  have s8 : ∀ z : BW X, z.v.cell? ⟨w.heap.size, 8, none⟩ = some (.int .i64 (e2 : Int)) := BW.cell (by simp [World.cell?, hl])
  have HX := Lib.hid hX
  have HBX := Lib.hid hB
  clear hl hB hX
  go_enter Tryz.func66, Tryz.ntmps66
  go_wp2_with fail
  rw [← HX.out]
  refine wp_region_below (by kernel_rfl) (by kernel_rfl) ?_
  repeat (go_big_quiet_step (fail))
  refine wpQuiet_nil ?_
  rintro _ ⟨z, rfl⟩
  have HZ := Lib.hid (HBX.out.trans (z.h.mono HBX.out.size))
  go_wp2_with fail
  go_ret
  exact ⟨rfl, HZ.out⟩
set_option maxRecDepth 100000 in
set_option maxHeartbeats 4000000 in
theorem formedB_msgyes (h1 b1 b2 e1 e2 : Nat) (hb : b1 ≤ b2) (g : Nat) (q : Tr) (hq1 : q.hd.1 = b1) (hq2 : q.bd.2 = b2) (ga gn gc ga2 gn2 gc2) (ca : Option Addr) (kc cn cc : Nat) (B : Bool) (hBB : (decide (cn = 0) && ((e1 : Int) == 0 && (e2 : Int) == 0)) = B) (w : World) (h9 : nineAt w g 0 q (.slice ga gn gc) (.slice ga2 gn2 gc2)) (hg : g < w.heap.size) :
    Calls Tryz.prog 66 #[.agg #[.int .i64 2, .int .i64 (h1 : Int), .int .i64 (b1 : Int), .int .i64 (b1 : Int), .int .i64 (b2 : Int), .slice (some ⟨g, 0, none⟩) 1 kc, .slice ca cn cc, .int .i64 (e1 : Int), .int .i64 (e2 : Int)]] w
      fun e w' => e = .returned (.bool B) ∧ Below w.heap.size w w' := by
  have hB := below_new w (.cells #[.int .i64 2, .int .i64 (h1 : Int), .int .i64 (b1 : Int), .int .i64 (b1 : Int), .int .i64 (b2 : Int), .slice (some ⟨g, 0, none⟩) 1 kc, .slice ca cn cc, .int .i64 (e1 : Int), .int .i64 (e2 : Int)] 31)
  have hl := heap_alloc_new w (.cells #[.int .i64 2, .int .i64 (h1 : Int), .int .i64 (b1 : Int), .int .i64 (b1 : Int), .int .i64 (b2 : Int), .slice (some ⟨g, 0, none⟩) 1 kc, .slice ca cn cc, .int .i64 (e1 : Int), .int .i64 (e2 : Int)] 31)
  have h9' := h9.block (hB.block g hg)
  obtain ⟨X, hX⟩ : ∃ X, X = w.alloc (.cells #[.int .i64 2, .int .i64 (h1 : Int), .int .i64 (b1 : Int), .int .i64 (b1 : Int), .int .i64 (b2 : Int), .slice (some ⟨g, 0, none⟩) 1 kc, .slice ca cn cc, .int .i64 (e1 : Int), .int .i64 (e2 : Int)] 31) := ⟨_, rfl⟩
  rw [← hX] at hB hl h9'
  unfold nineAt at h9'
  simp only [Nat.zero_mul, Nat.zero_add] at h9'
  rw [hq1, hq2] at h9'
  obtain ⟨p0, p1, p2, p3, p4, p5, p6, p7, p8⟩ := h9'
  have r0 := BW.cell p0
  have r1 := BW.cell p1
  have r2 := BW.cell p2
  have r3 := BW.cell p3
  have r4 := BW.cell p4
  have r5 := BW.cell p5
  have r6 := BW.cell p6
  have r7 := BW.cell p7
  have r8 := BW.cell p8
  have s0 : ∀ z : BW X, z.v.cell? ⟨w.heap.size, 0, none⟩ = some (.int .i64 2) := BW.cell (by simp [World.cell?, hl])
  have s1 : ∀ z : BW X, z.v.cell? ⟨w.heap.size, 1, none⟩ = some (.int .i64 (h1 : Int)) := BW.cell (by simp [World.cell?, hl])
  have s2 : ∀ z : BW X, z.v.cell? ⟨w.heap.size, 2, none⟩ = some (.int .i64 (b1 : Int)) := BW.cell (by simp [World.cell?, hl])
  have s3 : ∀ z : BW X, z.v.cell? ⟨w.heap.size, 3, none⟩ = some (.int .i64 (b1 : Int)) := BW.cell (by simp [World.cell?, hl])
  have s4 : ∀ z : BW X, z.v.cell? ⟨w.heap.size, 4, none⟩ = some (.int .i64 (b2 : Int)) := BW.cell (by simp [World.cell?, hl])
  have s5 : ∀ z : BW X, z.v.cell? ⟨w.heap.size, 5, none⟩ = some (.slice (some ⟨g, 0, none⟩) 1 kc) := BW.cell (by simp [World.cell?, hl])
  have s6 : ∀ z : BW X, z.v.cell? ⟨w.heap.size, 6, none⟩ = some (.slice ca cn cc) := BW.cell (by simp [World.cell?, hl])
  have s7 : ∀ z : BW X, z.v.cell? ⟨w.heap.size, 7, none⟩ = some (.int .i64 (e1 : Int)) := BW.cell (by simp [World.cell?, hl])
  have s8 : ∀ z : BW X, z.v.cell? ⟨w.heap.size, 8, none⟩ = some (.int .i64 (e2 : Int)) := BW.cell (by simp [World.cell?, hl])
  have HX := Lib.hid hX
  have HB := Lib.hid hB
  have HU := Lib.hid (fun W => uncutB_any 2 (h1 : Int) (b1 : Int) (b1 : Int) (b2 : Int) (e1 : Int) (e2 : Int) (some ⟨g, 0, none⟩) ca 1 kc cn cc B hBB W)
  clear hBB
  have HT := Lib.hid (fun W => tbytes_any q.kind q.hd.1 q.hd.2 q.bd.1 q.bd.2 q.e.1 q.e.2 ga ga2 gn gc gn2 gc2 W)
  rw [hq1, hq2] at HT
  have t1 : ((b1 : Int) != (b1 : Int)) = false := bne_no rfl
  have n2 : decide (b2 < b1) = false := decide_eq_false (by omega)
  have t2 : decide ((b2 : Int) < (b1 : Int)) = false := decide_eq_false (by omega)
  clear hq1 hq2 p0 p1 p2 p3 p4 p5 p6 p7 p8 hl hB hX h9
  go_enter Tryz.func66, Tryz.ntmps66
  go_wp2_with fail
  rw [← HX.out]
  refine wp_region_below (by kernel_rfl) (by kernel_rfl) ?_
  repeat (go_big_quiet_step (first
    | (go_at_call 38; exact BW.calls (HT.out _))
    | (go_at_call 97; exact BW.calls (HU.out _))))
  refine wpQuiet_nil ?_
  rintro _ ⟨z, rfl⟩
  have HZ := Lib.hid (HB.out.trans (z.h.mono HB.out.size))
  go_wp2_with fail
  go_ret
  exact ⟨rfl, HZ.out⟩
set_option maxRecDepth 100000 in
set_option maxHeartbeats 4000000 in
theorem formedB_msgoff1 (h1 b1 b2 e1 e2 : Nat) (hb : b1 ≤ b2) (g : Nat) (q : Tr) (hne : q.hd.1 ≠ b1) (ga gn gc ga2 gn2 gc2) (ca : Option Addr) (kc cn cc : Nat) (w : World) (h9 : nineAt w g 0 q (.slice ga gn gc) (.slice ga2 gn2 gc2)) (hg : g < w.heap.size) :
    Calls Tryz.prog 66 #[.agg #[.int .i64 2, .int .i64 (h1 : Int), .int .i64 (b1 : Int), .int .i64 (b1 : Int), .int .i64 (b2 : Int), .slice (some ⟨g, 0, none⟩) 1 kc, .slice ca cn cc, .int .i64 (e1 : Int), .int .i64 (e2 : Int)]] w
      fun e w' => e = .returned (.bool false) ∧ Below w.heap.size w w' := by
  have hB := below_new w (.cells #[.int .i64 2, .int .i64 (h1 : Int), .int .i64 (b1 : Int), .int .i64 (b1 : Int), .int .i64 (b2 : Int), .slice (some ⟨g, 0, none⟩) 1 kc, .slice ca cn cc, .int .i64 (e1 : Int), .int .i64 (e2 : Int)] 31)
  have hl := heap_alloc_new w (.cells #[.int .i64 2, .int .i64 (h1 : Int), .int .i64 (b1 : Int), .int .i64 (b1 : Int), .int .i64 (b2 : Int), .slice (some ⟨g, 0, none⟩) 1 kc, .slice ca cn cc, .int .i64 (e1 : Int), .int .i64 (e2 : Int)] 31)
  have h9' := h9.block (hB.block g hg)
  obtain ⟨X, hX⟩ : ∃ X, X = w.alloc (.cells #[.int .i64 2, .int .i64 (h1 : Int), .int .i64 (b1 : Int), .int .i64 (b1 : Int), .int .i64 (b2 : Int), .slice (some ⟨g, 0, none⟩) 1 kc, .slice ca cn cc, .int .i64 (e1 : Int), .int .i64 (e2 : Int)] 31) := ⟨_, rfl⟩
  rw [← hX] at hB hl h9'
  unfold nineAt at h9'
  simp only [Nat.zero_mul, Nat.zero_add] at h9'
  obtain ⟨Q1, hq1⟩ : ∃ Q1, q.hd.1 = Q1 := ⟨_, rfl⟩
  obtain ⟨Q2, hq2⟩ : ∃ Q2, q.bd.2 = Q2 := ⟨_, rfl⟩
  rw [hq1] at hne
  rw [hq1, hq2] at h9'
  obtain ⟨p0, p1, p2, p3, p4, p5, p6, p7, p8⟩ := h9'
  have r0 := BW.cell p0
  have r1 := BW.cell p1
  have r2 := BW.cell p2
  have r3 := BW.cell p3
  have r4 := BW.cell p4
  have r5 := BW.cell p5
  have r6 := BW.cell p6
  have r7 := BW.cell p7
  have r8 := BW.cell p8
  have s0 : ∀ z : BW X, z.v.cell? ⟨w.heap.size, 0, none⟩ = some (.int .i64 2) := BW.cell (by simp [World.cell?, hl])
  have s1 : ∀ z : BW X, z.v.cell? ⟨w.heap.size, 1, none⟩ = some (.int .i64 (h1 : Int)) := BW.cell (by simp [World.cell?, hl])
  have s2 : ∀ z : BW X, z.v.cell? ⟨w.heap.size, 2, none⟩ = some (.int .i64 (b1 : Int)) := BW.cell (by simp [World.cell?, hl])
  have s3 : ∀ z : BW X, z.v.cell? ⟨w.heap.size, 3, none⟩ = some (.int .i64 (b1 : Int)) := BW.cell (by simp [World.cell?, hl])
  have s4 : ∀ z : BW X, z.v.cell? ⟨w.heap.size, 4, none⟩ = some (.int .i64 (b2 : Int)) := BW.cell (by simp [World.cell?, hl])
  have s5 : ∀ z : BW X, z.v.cell? ⟨w.heap.size, 5, none⟩ = some (.slice (some ⟨g, 0, none⟩) 1 kc) := BW.cell (by simp [World.cell?, hl])
  have s6 : ∀ z : BW X, z.v.cell? ⟨w.heap.size, 6, none⟩ = some (.slice ca cn cc) := BW.cell (by simp [World.cell?, hl])
  have s7 : ∀ z : BW X, z.v.cell? ⟨w.heap.size, 7, none⟩ = some (.int .i64 (e1 : Int)) := BW.cell (by simp [World.cell?, hl])
  have s8 : ∀ z : BW X, z.v.cell? ⟨w.heap.size, 8, none⟩ = some (.int .i64 (e2 : Int)) := BW.cell (by simp [World.cell?, hl])
  have HX := Lib.hid hX
  have HB := Lib.hid hB
  have HT := Lib.hid (fun W => tbytes_any q.kind q.hd.1 q.hd.2 q.bd.1 q.bd.2 q.e.1 q.e.2 ga ga2 gn gc gn2 gc2 W)
  rw [hq1, hq2] at HT
  have n1 : ¬ Q1 = b1 := hne
  have n3 : ¬ (Q1 : Int) = (b1 : Int) := by omega
  clear hne
  have t1 : ((b1 : Int) != (b1 : Int)) = false := bne_no rfl
  have n2 : decide (b2 < b1) = false := decide_eq_false (by omega)
  have t2 : decide ((b2 : Int) < (b1 : Int)) = false := decide_eq_false (by omega)
  clear hq1 hq2 p0 p1 p2 p3 p4 p5 p6 p7 p8 hl hB hX h9
  go_enter Tryz.func66, Tryz.ntmps66
  go_wp2_with fail
  rw [← HX.out]
  refine wp_region_below (by kernel_rfl) (by kernel_rfl) ?_
  repeat (go_big_quiet_step ((go_at_call 38; exact BW.calls (HT.out _))))
  refine wpQuiet_nil ?_
  rintro _ ⟨z, rfl⟩
  have HZ := Lib.hid (HB.out.trans (z.h.mono HB.out.size))
  go_wp2_with fail
  go_ret
  exact ⟨rfl, HZ.out⟩
set_option maxRecDepth 100000 in
set_option maxHeartbeats 4000000 in
theorem formedB_msgoff2 (h1 b1 b2 e1 e2 : Nat) (hb : b1 ≤ b2) (g : Nat) (q : Tr) (hq1 : q.hd.1 = b1) (hne : q.bd.2 ≠ b2) (ga gn gc ga2 gn2 gc2) (ca : Option Addr) (kc cn cc : Nat) (w : World) (h9 : nineAt w g 0 q (.slice ga gn gc) (.slice ga2 gn2 gc2)) (hg : g < w.heap.size) :
    Calls Tryz.prog 66 #[.agg #[.int .i64 2, .int .i64 (h1 : Int), .int .i64 (b1 : Int), .int .i64 (b1 : Int), .int .i64 (b2 : Int), .slice (some ⟨g, 0, none⟩) 1 kc, .slice ca cn cc, .int .i64 (e1 : Int), .int .i64 (e2 : Int)]] w
      fun e w' => e = .returned (.bool false) ∧ Below w.heap.size w w' := by
  have hB := below_new w (.cells #[.int .i64 2, .int .i64 (h1 : Int), .int .i64 (b1 : Int), .int .i64 (b1 : Int), .int .i64 (b2 : Int), .slice (some ⟨g, 0, none⟩) 1 kc, .slice ca cn cc, .int .i64 (e1 : Int), .int .i64 (e2 : Int)] 31)
  have hl := heap_alloc_new w (.cells #[.int .i64 2, .int .i64 (h1 : Int), .int .i64 (b1 : Int), .int .i64 (b1 : Int), .int .i64 (b2 : Int), .slice (some ⟨g, 0, none⟩) 1 kc, .slice ca cn cc, .int .i64 (e1 : Int), .int .i64 (e2 : Int)] 31)
  have h9' := h9.block (hB.block g hg)
  obtain ⟨X, hX⟩ : ∃ X, X = w.alloc (.cells #[.int .i64 2, .int .i64 (h1 : Int), .int .i64 (b1 : Int), .int .i64 (b1 : Int), .int .i64 (b2 : Int), .slice (some ⟨g, 0, none⟩) 1 kc, .slice ca cn cc, .int .i64 (e1 : Int), .int .i64 (e2 : Int)] 31) := ⟨_, rfl⟩
  rw [← hX] at hB hl h9'
  unfold nineAt at h9'
  simp only [Nat.zero_mul, Nat.zero_add] at h9'
  obtain ⟨Q2, hq2⟩ : ∃ Q2, q.bd.2 = Q2 := ⟨_, rfl⟩
  rw [hq2] at hne
  rw [hq1, hq2] at h9'
  obtain ⟨p0, p1, p2, p3, p4, p5, p6, p7, p8⟩ := h9'
  have r0 := BW.cell p0
  have r1 := BW.cell p1
  have r2 := BW.cell p2
  have r3 := BW.cell p3
  have r4 := BW.cell p4
  have r5 := BW.cell p5
  have r6 := BW.cell p6
  have r7 := BW.cell p7
  have r8 := BW.cell p8
  have s0 : ∀ z : BW X, z.v.cell? ⟨w.heap.size, 0, none⟩ = some (.int .i64 2) := BW.cell (by simp [World.cell?, hl])
  have s1 : ∀ z : BW X, z.v.cell? ⟨w.heap.size, 1, none⟩ = some (.int .i64 (h1 : Int)) := BW.cell (by simp [World.cell?, hl])
  have s2 : ∀ z : BW X, z.v.cell? ⟨w.heap.size, 2, none⟩ = some (.int .i64 (b1 : Int)) := BW.cell (by simp [World.cell?, hl])
  have s3 : ∀ z : BW X, z.v.cell? ⟨w.heap.size, 3, none⟩ = some (.int .i64 (b1 : Int)) := BW.cell (by simp [World.cell?, hl])
  have s4 : ∀ z : BW X, z.v.cell? ⟨w.heap.size, 4, none⟩ = some (.int .i64 (b2 : Int)) := BW.cell (by simp [World.cell?, hl])
  have s5 : ∀ z : BW X, z.v.cell? ⟨w.heap.size, 5, none⟩ = some (.slice (some ⟨g, 0, none⟩) 1 kc) := BW.cell (by simp [World.cell?, hl])
  have s6 : ∀ z : BW X, z.v.cell? ⟨w.heap.size, 6, none⟩ = some (.slice ca cn cc) := BW.cell (by simp [World.cell?, hl])
  have s7 : ∀ z : BW X, z.v.cell? ⟨w.heap.size, 7, none⟩ = some (.int .i64 (e1 : Int)) := BW.cell (by simp [World.cell?, hl])
  have s8 : ∀ z : BW X, z.v.cell? ⟨w.heap.size, 8, none⟩ = some (.int .i64 (e2 : Int)) := BW.cell (by simp [World.cell?, hl])
  have HX := Lib.hid hX
  have HB := Lib.hid hB
  have HT := Lib.hid (fun W => tbytes_any q.kind q.hd.1 q.hd.2 q.bd.1 q.bd.2 q.e.1 q.e.2 ga ga2 gn gc gn2 gc2 W)
  rw [hq1, hq2] at HT
  have n1 : ¬ Q2 = b2 := hne
  have n3 : ¬ (Q2 : Int) = (b2 : Int) := by omega
  clear hne
  have t1 : ((b1 : Int) != (b1 : Int)) = false := bne_no rfl
  have n2 : decide (b2 < b1) = false := decide_eq_false (by omega)
  have t2 : decide ((b2 : Int) < (b1 : Int)) = false := decide_eq_false (by omega)
  clear hq1 hq2 p0 p1 p2 p3 p4 p5 p6 p7 p8 hl hB hX h9
  go_enter Tryz.func66, Tryz.ntmps66
  go_wp2_with fail
  rw [← HX.out]
  refine wp_region_below (by kernel_rfl) (by kernel_rfl) ?_
  repeat (go_big_quiet_step ((go_at_call 38; exact BW.calls (HT.out _))))
  refine wpQuiet_nil ?_
  rintro _ ⟨z, rfl⟩
  have HZ := Lib.hid (HB.out.trans (z.h.mono HB.out.size))
  go_wp2_with fail
  go_ret
  exact ⟨rfl, HZ.out⟩
/-- A part of any make. -/
theorem tformedB_any {S : Nat → Prop} (wb : World) (t : Tr) (u : Value) (hu : treeAt S wb t u) (w : World) (hb : Below wb.heap.size wb w) (hsz : wb.heap.size ≤ w.heap.size) :
    Calls Tryz.prog 66 #[u] w fun e w' => ∃ bb : Bool, e = .returned (.bool bb) ∧ (bb = true ↔ formed t) ∧ Below w.heap.size w w' := by
  obtain ⟨ka, kn, kc, ca, cn, cc, us, rfl, hcs, ho, hkd⟩ := treeAt_open hu
  obtain ⟨rfl, hk1, hk2, hkat⟩ := kids_at ho hkd
  obtain ⟨rfl, hc1, hc2, hcat⟩ := spans_at hcs
  have go : ∀ (B : Bool), (Calls Tryz.prog 66 #[.agg #[.int .i64 (t.kind : Int), .int .i64 (t.hd.1 : Int), .int .i64 (t.hd.2 : Int), .int .i64 (t.bd.1 : Int), .int .i64 (t.bd.2 : Int), .slice ka t.kids.length kc, .slice ca t.cuts.length cc, .int .i64 (t.e.1 : Int), .int .i64 (t.e.2 : Int)]] w fun e w' => e = .returned (.bool B) ∧ Below w.heap.size w w') → (B = true ↔ formed t) →
      Calls Tryz.prog 66 #[.agg #[.int .i64 (t.kind : Int), .int .i64 (t.hd.1 : Int), .int .i64 (t.hd.2 : Int), .int .i64 (t.bd.1 : Int), .int .i64 (t.bd.2 : Int), .slice ka t.kids.length kc, .slice ca t.cuts.length cc, .int .i64 (t.e.1 : Int), .int .i64 (t.e.2 : Int)]] w fun e w' => ∃ bb : Bool, e = .returned (.bool bb) ∧ (bb = true ↔ formed t) ∧ Below w.heap.size w w' :=
    fun B h k => h.mono (by rintro e w' ⟨rfl, hb'⟩; exact ⟨B, rfl, k, hb'⟩)
  have no : ∀ {p : Prop}, ¬ p → ((false = true) ↔ p) := fun h => ⟨fun h' => (by cases h'), fun h' => absurd h' h⟩
  have hkl : t.kids = [] ↔ t.kids.length = 0 := ⟨fun h => by rw [h]; rfl, fun h => List.eq_nil_of_length_eq_zero h⟩
  have hcl : t.cuts = [] ↔ t.cuts.length = 0 := ⟨fun h => by rw [h]; rfl, fun h => List.eq_nil_of_length_eq_zero h⟩
  have hel : t.e = (0, 0) ↔ (t.e.1 = 0 ∧ t.e.2 = 0) := ⟨fun h => by rw [h]; exact ⟨rfl, rfl⟩, fun h => Prod.ext h.1 h.2⟩
  have hun : ∀ B, (decide (t.cuts.length = 0) && ((t.e.1 : Int) == 0 && (t.e.2 : Int) == 0)) = B → (B = true ↔ (t.cuts = [] ∧ t.e = (0, 0))) := fun B h => by
    rw [← h, hcl, hel]
    simp only [Bool.and_eq_true, decide_eq_true_eq, beq_iff_eq]
    omega
  by_cases f1 : t.hd.2 = t.bd.1
  · by_cases f2 : t.bd.1 ≤ t.bd.2
    · by_cases k0 : t.kind = 0
      · by_cases hk : t.kids.length = 0
        · obtain ⟨B, hB⟩ : ∃ B, (decide (t.cuts.length = 0) && ((t.e.1 : Int) == 0 && (t.e.2 : Int) == 0)) = B := ⟨_, rfl⟩
          refine go B ?_ ?_
          · rw [f1, k0, hk]
            exact formedB_leaf _ _ _ _ _ f2 ka ca kc _ cc B hB w
          · rw [hun B hB]
            refine ⟨fun h => ⟨f1, f2, .inl ⟨k0, hkl.2 hk, h.1, h.2⟩⟩, fun h => ?_⟩
            rcases h.2.2 with h | h | h
            · exact h.2.2
            · exact absurd (k0.symm.trans h.1) (by decide)
            · exact absurd (k0.symm.trans h.1) (by decide)
        · refine go false ?_ (no fun h => ?_)
          · rw [f1, k0]
            exact formedB_leafno _ _ _ _ _ f2 ka ca _ kc _ cc hk w
          · rcases h.2.2 with h | h | h
            · exact hk (hkl.1 h.2.1)
            · exact absurd (k0.symm.trans h.1) (by decide)
            · exact absurd (k0.symm.trans h.1) (by decide)
      · by_cases k1 : t.kind = 1
        · by_cases hk : t.kids.length = 0
          · refine go false ?_ (no fun h => ?_)
            · rw [f1, k1, hk]
              exact formedB_multi0 _ _ _ _ _ f2 ka ca kc _ cc w
            · rcases h.2.2 with h | h | h
              · exact absurd h.1 k0
              · exact h.2.1 (hkl.2 hk)
              · exact absurd (k1.symm.trans h.1) (by decide)
          · obtain ⟨B, hB⟩ : ∃ B, ((t.kids.length : Int) == (t.cuts.length : Int)) = B := ⟨_, rfl⟩
            refine go B ?_ ?_
            · rw [f1, k1]
              exact formedB_multi1 _ _ _ _ _ f2 ka ca _ kc _ cc (by omega) B hB w
            · rw [← hB, beq_iff_eq]
              refine ⟨fun h => ⟨f1, f2, .inr (.inl ⟨k1, fun e => hk (hkl.1 e), by omega⟩)⟩, fun h => ?_⟩
              rcases h.2.2 with h | h | h
              · exact absurd h.1 k0
              · omega
              · exact absurd (k1.symm.trans h.1) (by decide)
        · by_cases k2 : t.kind = 2
          · by_cases hk : t.kids.length = 1
            · obtain ⟨g, a, m, c, a2, n2, c2, rfl, hg1, _, h9, htr⟩ := hkat 0 (by omega)
              obtain ⟨q, hq⟩ : ∃ q, t.kids = [q] := by
                match hh : t.kids, hk with
                | [q], _ => exact ⟨q, rfl⟩
              have hq' : t.kids[0]'(by omega) = q := by simp [hq]
              rw [hq'] at h9
              have h9' := h9.block (hb.block g hg1)
              have hgw := Nat.lt_of_lt_of_le hg1 hsz
              by_cases hQ1 : q.hd.1 = t.bd.1
              · by_cases hQ2 : q.bd.2 = t.bd.2
                · obtain ⟨B, hB⟩ : ∃ B, (decide (t.cuts.length = 0) && ((t.e.1 : Int) == 0 && (t.e.2 : Int) == 0)) = B := ⟨_, rfl⟩
                  refine go B ?_ ?_
                  · rw [f1, k2, hk]
                    exact formedB_msgyes _ _ _ _ _ f2 g q hQ1 hQ2 _ _ _ _ _ _ ca kc _ cc B hB w h9' hgw
                  · rw [hun B hB]
                    refine ⟨fun h => ⟨f1, f2, .inr (.inr ⟨k2, h.1, h.2, q, hq, hQ1, hQ2⟩)⟩, fun h => ?_⟩
                    rcases h.2.2 with h | h | h
                    · exact absurd h.1 k0
                    · exact absurd h.1 k1
                    · exact ⟨h.2.1, h.2.2.1⟩
                · refine go false ?_ (no fun h => ?_)
                  · rw [f1, k2, hk]
                    exact formedB_msgoff2 _ _ _ _ _ f2 g q hQ1 hQ2 _ _ _ _ _ _ ca kc _ cc w h9' hgw
                  · rcases h.2.2 with h | h | h
                    · exact absurd h.1 k0
                    · exact absurd h.1 k1
                    · obtain ⟨_, _, _, q', e1, e2, e3⟩ := h
                      rw [hq] at e1
                      cases e1
                      exact hQ2 e3
              · refine go false ?_ (no fun h => ?_)
                · rw [f1, k2, hk]
                  exact formedB_msgoff1 _ _ _ _ _ f2 g q hQ1 _ _ _ _ _ _ ca kc _ cc w h9' hgw
                · rcases h.2.2 with h | h | h
                  · exact absurd h.1 k0
                  · exact absurd h.1 k1
                  · obtain ⟨_, _, _, q', e1, e2, e3⟩ := h
                    rw [hq] at e1
                    cases e1
                    exact hQ1 e2
            · refine go false ?_ (no fun h => ?_)
              · rw [f1, k2]
                exact formedB_msgno _ _ _ _ _ f2 ka ca _ kc _ cc hk w
              · rcases h.2.2 with h | h | h
                · exact absurd h.1 k0
                · exact absurd h.1 k1
                · obtain ⟨_, _, _, q', e1, _⟩ := h
                  exact hk (by rw [e1]; rfl)
          · refine go false ?_ (no fun h => ?_)
            · rw [f1]
              exact formedB_other _ _ _ _ _ _ f2 (by omega) ka ca _ kc _ cc w
            · rcases h.2.2 with h | h | h
              · exact absurd h.1 k0
              · exact absurd h.1 k1
              · exact absurd h.1 k2
    · refine go false ?_ (no fun h => f2 h.2.1)
      rw [f1]
      exact formedB_off2 _ _ _ _ _ _ (by omega) ka ca _ kc _ cc w
  · exact go false (formedB_off1 _ _ _ _ _ _ _ f1 ka ca _ kc _ cc w) (no fun h => f1 h.1)
end Go.Proofs.YtedminjnnhlknaaGreatDoor

/- Contracts of package tiles: areFormed, of a tree of any make. -/
namespace Go.Proofs.YtedminjnnhlknaaGreatDoor
open Go Go.RowKit Go.Shelf
attribute [local go_sem] Oper.semAt_some

set_option maxRecDepth 100000 in
set_option maxHeartbeats 4000000 in
theorem areFormedB_any {S : Nat → Prop} (t : Tr) (hcb : countT t ≤ 1000000) (hd : deepT t ≤ 32) (kd h1 h2 b1 b2 e1 e2 : Int) (ka ca : Option Addr) (kn kc cn cc : Nat) (w : World) (hu : treeAt S w t (.agg #[.int .i64 kd, .int .i64 h1, .int .i64 h2, .int .i64 b1, .int .i64 b2, .slice ka kn kc, .slice ca cn cc, .int .i64 e1, .int .i64 e2])) :
    Calls Tryz.prog 39 #[.agg #[.int .i64 kd, .int .i64 h1, .int .i64 h2, .int .i64 b1, .int .i64 b2, .slice ka kn kc, .slice ca cn cc, .int .i64 e1, .int .i64 e2]] w fun e w' => ∃ bb : Bool, e = .returned (.bool bb) ∧ (bb = true ↔ goodT t) ∧ Below w.heap.size w w' := by
  have HU := Lib.hid hu
  clear hu
  have HE := Lib.hid (fun W => tpartsI_any kd h1 h2 b1 b2 e1 e2 ka ca kn kc cn cc W)
  refine (callsIn_wide (n := 3)).1 ?_
  refine callsIn_of_wp_marks Tryz.func39 rfl trivial ?_ rfl
  simp only [Tryz.ntmps39, List.size_toArray, List.length_cons, List.length_nil, Nat.reduceAdd, Nat.reduceSub, Array.replicate_succ, Array.replicate_zero, List.push_toArray, List.append_toArray, List.nil_append, List.cons_append]
  gi_wp2
  refine ⟨trivial, ?_⟩
  with_reducible refine (callsIn_wide.2 (HE.out _)).mono ?_
  rintro e w1 ⟨rfl, rfl⟩
  gi_wp2
  have HSe := Lib.hid (on_new w (.cells #[.int .i64 kd, .int .i64 h1, .int .i64 h2, .int .i64 b1, .int .i64 b2, .slice ka kn kc, .slice ca cn cc, .int .i64 e1, .int .i64 e2] 31) (.cells #[.int .i64 kd, .int .i64 h1, .int .i64 h2, .int .i64 b1, .int .i64 b2, .slice ka kn kc, .slice ca cn cc, .int .i64 e1, .int .i64 e2] 31) (.bool false) 4 rfl)
  have bR := (Boxed.new (w.alloc (.cells #[.int .i64 kd, .int .i64 h1, .int .i64 h2, .int .i64 b1, .int .i64 b2, .slice ka kn kc, .slice ca cn cc, .int .i64 e1, .int .i64 e2] 31)) 4 (.bool false)).alloc (.cells #[.int .i64 kd, .int .i64 h1, .int .i64 h2, .int .i64 b1, .int .i64 b2, .slice ka kn kc, .slice ca cn cc, .int .i64 e1, .int .i64 e2] 31)
  have hp := heap_alloc_new ((w.alloc (.cells #[.int .i64 kd, .int .i64 h1, .int .i64 h2, .int .i64 b1, .int .i64 b2, .slice ka kn kc, .slice ca cn cc, .int .i64 e1, .int .i64 e2] 31)).alloc (.cells #[.bool false] 4)) (.cells #[.int .i64 kd, .int .i64 h1, .int .i64 h2, .int .i64 b1, .int .i64 b2, .slice ka kn kc, .slice ca cn cc, .int .i64 e1, .int .i64 e2] 31)
  obtain ⟨W0, hW0⟩ : ∃ W0, ((w.alloc (.cells #[.int .i64 kd, .int .i64 h1, .int .i64 h2, .int .i64 b1, .int .i64 b2, .slice ka kn kc, .slice ca cn cc, .int .i64 e1, .int .i64 e2] 31)).alloc (.cells #[.bool false] 4)).alloc (.cells #[.int .i64 kd, .int .i64 h1, .int .i64 h2, .int .i64 b1, .int .i64 b2, .slice ka kn kc, .slice ca cn cc, .int .i64 e1, .int .i64 e2] 31) = W0 := ⟨_, rfl⟩
  have hsz : W0.heap.size = w.heap.size + 3 := by rw [← hW0]; simp
  simp only [World.size_alloc] at bR hp
  rw [hW0] at HSe bR hp ⊢
  clear hW0
  refine wpIn_rangeFunc_ownH rfl (by omega) (gf := 95) (lb := #[.pointer (some ⟨w.heap.size + 1 + 1, 0, none⟩)]) rfl trivial (enters_of Tryz.func95 (by kernel_rfl) rfl)
    (tpartsB_stops 2 (w.heap.size + 1) (w.heap.size + 1 + 1) w W0 t hcb hd kd h1 h2 b1 b2 e1 e2 ka ca kn kc cn cc HU.out hp HSe.out) (fun h k => h.trans k) (KeepK.turn (by omega) (by omega)) (Below.refl _ _) (fun _ => rfl)
    (fun pre W => Boxed W (w.heap.size + 1) 4 (.bool false) ∧ Below w.heap.size w W ∧ ∀ y ∈ pre, formed y.1.2.1)
    (fun c pre W => c = .ret ∧ Boxed W (w.heap.size + 1) 4 (.bool false) ∧ Below w.heap.size w W ∧ ∃ y ∈ pre, ¬ formed y.1.2.1)
    (OwnFrom.and (Own.from (boxed_own _ _ _) _) (OwnFrom.and (ownFrom_below (Nat.le_refl _) (by omega)) (fun _ _ _ _ hs _ _ => hs)))
    (fun _ => OwnFrom.and (fun _ _ _ _ hs _ _ => hs) (OwnFrom.and (Own.from (boxed_own _ _ _) _) (OwnFrom.and (ownFrom_below (Nat.le_refl _) (by omega)) (fun _ _ _ _ hs _ _ => hs))))
    ⟨bR, HSe.out.below, fun y hy => (by cases hy)⟩
    (fun x a' W => ∃ Bx cs, x.1.2.2 = .agg cs ∧ W.heap[Bx]? = some (.cells cs 31 (0, 0)) ∧ a' = Act.mk #[.agg #[.int .i64 kd, .int .i64 h1, .int .i64 h2, .int .i64 b1, .int .i64 b2, .slice ka kn kc, .slice ca cn cc, .int .i64 e1, .int .i64 e2], .pointer (some ⟨w.heap.size, 0, none⟩), .pointer (some ⟨w.heap.size + 1, 0, none⟩), undef, .pointer (some ⟨Bx, 0, none⟩), .agg #[.int .i64 kd, .int .i64 h1, .int .i64 h2, .int .i64 b1, .int .i64 b2, .slice ka kn kc, .slice ca cn cc, .int .i64 e1, .int .i64 e2],
        .func (.func 95) #[] #[.pointer (some ⟨w.heap.size + 1 + 1, 0, none⟩)], .int .i64 (x.1.1 : Int), .agg cs, undef, undef, undef] [])
    (fun x a' _ X Y row hs hg hr => by
      obtain ⟨Bx, cs, h1, h2, h3⟩ := hs
      refine ⟨Bx, cs, h1, (hg.block Bx (Array.getElem?_eq_some_iff.1 h2).1 (fun e => ?_)).trans h2, h3⟩
      obtain ⟨_, o, ho, hc⟩ := hr Bx e.symm
      rw [h2] at ho
      cases ho
      cases hc)
    ?assign ?body ?done ?stop
  case assign =>
    rintro lp pre ⟨⟨dd, tt, uu⟩, htr, hdd⟩ W K ⟨hb, hB, hall⟩ hK
    have htr2 : treeAt S w tt uu := htr
    obtain ⟨ka', kn', kc', ca', cn', cc', us, rfl, _, _, _⟩ := treeAt_open htr2
    simp only [encB]
    gi_wp2
    refine hK _ _ ((KeepsOthers.alloc _ _).from _) (KeepK.grow hB.size hb.lt (below_new _ _)) ⟨hb.alloc _, hB.alloc hB.size _, hall⟩ ⟨W.heap.size, _, rfl, heap_alloc_new W _, ?_⟩
    simp
  case body =>
    rintro lp pre ⟨⟨dd, tt, uu⟩, htr, hdd⟩ a' W _ _ ⟨hb, hB, hall⟩ ⟨Bx, cs, hcs, hBx, rfl⟩ hlt
    have HAll : Hid (formed tt → ∀ y ∈ pre ++ [(⟨(dd, tt, uu), htr, hdd⟩ : PtB S w)], formed y.1.2.1) := fun hh y hy => by
      rcases List.mem_append.1 hy with h | h
      · exact hall y h
      · cases List.mem_singleton.1 h
        exact hh
    have HNo : Hid (¬ formed tt → ∃ y ∈ pre ++ [(⟨(dd, tt, uu), htr, hdd⟩ : PtB S w)], ¬ formed y.1.2.1) := fun hh => ⟨_, List.mem_append_right _ (List.mem_singleton.2 rfl), hh⟩
    have htr2 : treeAt S w tt uu := htr
    obtain ⟨ka', kn', kc', ca', cn', cc', us, rfl, _, _, _⟩ := treeAt_open htr2
    cases hcs
    have HF := Lib.hid (tformedB_any w tt _ htr2 W hB hB.size)
    have x0 : W.cell? ⟨Bx, 0, none⟩ = some (.int .i64 (tt.kind : Int)) := by simp [World.cell?, hBx]
    have x1 : W.cell? ⟨Bx, 1, none⟩ = some (.int .i64 (tt.hd.1 : Int)) := by simp [World.cell?, hBx]
    have x2 : W.cell? ⟨Bx, 2, none⟩ = some (.int .i64 (tt.hd.2 : Int)) := by simp [World.cell?, hBx]
    have x3 : W.cell? ⟨Bx, 3, none⟩ = some (.int .i64 (tt.bd.1 : Int)) := by simp [World.cell?, hBx]
    have x4 : W.cell? ⟨Bx, 4, none⟩ = some (.int .i64 (tt.bd.2 : Int)) := by simp [World.cell?, hBx]
    have x5 : W.cell? ⟨Bx, 5, none⟩ = some (.slice ka' kn' kc') := by simp [World.cell?, hBx]
    have x6 : W.cell? ⟨Bx, 6, none⟩ = some (.slice ca' cn' cc') := by simp [World.cell?, hBx]
    have x7 : W.cell? ⟨Bx, 7, none⟩ = some (.int .i64 (tt.e.1 : Int)) := by simp [World.cell?, hBx]
    have x8 : W.cell? ⟨Bx, 8, none⟩ = some (.int .i64 (tt.e.2 : Int)) := by simp [World.cell?, hBx]
    have HB := Lib.hid hB
    have hbl := hb.lt
    clear hBx htr2 hB
    gi_wp2
    refine ⟨trivial, ?_⟩
    refine (CallsIn.inRound lp (callsIn_wide.2 HF.out)).mono ?_
    rintro e w5 ⟨bb, rfl, hbb, hb5⟩
    have HBB := Lib.hid hbb
    have HQ : Hid (KeepsOthers W w5) := .of_grownBy (below_grown hb5) (fun _ _ e => by cases e)
    have HK5 : Hid (KeepK w.heap.size (w.heap.size + 1) W w5) := KeepK.grow HB.out.size hbl hb5
    have HR5 : Hid (Boxed w5 (w.heap.size + 1) 4 (.bool false)) := hb.kept (below_grown hb5) (by simp)
    have HB5 : Hid (Below w.heap.size w w5) := HB.out.trans (hb5.mono HB.out.size)
    have hc5 := HR5.out.cell
    have hf5 := HR5.out.frozen
    clear hb5 x0 x1 x2 x3 x4 x5 x6 x7 x8 hbb
    cases bb with
    | true =>
      have HF5 : Hid (formed tt) := HBB.out.1 rfl
      clear HBB
      gi_wp2
      exact ⟨HQ.out.from _, HK5.out, HR5.out, HB5.out, HAll.out HF5.out⟩
    | false =>
      have HF5 : Hid (¬ formed tt) := fun h => Bool.noConfusion (HBB.out.2 h)
      clear HBB
      gi_wp2
      exact ⟨(HQ.out.trans (KeepsOthers.setCell _ _ _)).from _, rfl, HR5.out.set _, HB5.out.setCell (p := ⟨w.heap.size + 1, 0, none⟩) (by simp) _, HNo.out HF5.out⟩
  case done =>
    rintro D ys W hD hys ⟨hr, hB, hall⟩ hK
    have hgt : goodT t := good_of 0 t (fun x hx => by
      rw [← hys] at hx
      obtain ⟨y, hy, rfl⟩ := List.mem_map.1 hx
      exact hall y hy)
    have hc1 := hr.cell
    have hf1 := hr.frozen
    have hr2 := hr.set (.bool true)
    have hK2 := (KeepsOthers.setCell W (⟨w.heap.size + 1, 0, none⟩ : Addr) (.bool true)).same D _ hK rfl
    gi_wp2
    refine ⟨by simp, .inl ⟨_, _, rfl, run_takeDeferred hK2, ?_⟩⟩
    refine ⟨_, results_cell_bool rfl _ _ (w.heap.size + 1) true rfl (boxed_put hr2 _ hK2), true, rfl, ⟨fun _ => hgt, fun _ => rfl⟩, ?_⟩
    exact (hB.setCell (p := ⟨w.heap.size + 1, 0, none⟩) (by simp) _).trans (belowK_b (w := w) (Nat.le_refl _) _ D _ _ (by omega) hK2 rfl rfl)
  case stop =>
    rintro D c pre W hD ⟨r, hr0⟩ ⟨rfl, hr, hB, y, hy, hny⟩ hK
    have hgt : ¬ goodT t := fun h => hny (partsT_good 0 t h (prB y) (by rw [← hr0]; exact List.mem_append_left _ (List.mem_map.2 ⟨y, hy, rfl⟩)))
    gi_wp2
    refine ⟨by simp, .inl ⟨_, _, rfl, run_takeDeferred hK, ?_⟩⟩
    refine ⟨_, results_cell_bool rfl _ _ (w.heap.size + 1) false rfl (boxed_put hr _ hK), false, rfl, ⟨fun h => (by cases h), fun h => absurd h hgt⟩, ?_⟩
    exact hB.trans (belowK_b (w := w) (Nat.le_refl _) _ D _ _ (by omega) hK rfl rfl)
end Go.Proofs.YtedminjnnhlknaaGreatDoor
