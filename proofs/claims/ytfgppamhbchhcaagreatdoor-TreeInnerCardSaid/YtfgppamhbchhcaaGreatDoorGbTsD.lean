/- The law's own moved. -/
import Derived.Test.YtfgppamhbchhcaaGreatDoorGb35
import Derived.Test.YtfgppamhbchhcaaGreatDoorGb36
import Derived.Test.YtfgppamhbchhcaaGreatDoorGb33
namespace Go.Proofs.YtfgppamhbchhcaaGreatDoor
open Go Go.RowKit

theorem Tryz.infoSpn : (Tryz.prog.info? 26).map (fun i => (i.zero, i.size, i.bytes)) = some (some (.agg #[.int .i64 0, .int .i64 0]), 2, 16) := by kernel_rfl
theorem mvK_app (n : Nat) : ∀ (a : List Tr) (t : Tr), mvK n (a ++ [t]) = mvK n a ++ [mvT n t]
  | [], t => by simp only [List.nil_append, mvK]
  | x :: r, t => by
    have ih := mvK_app n r t
    simp only [List.cons_append, mvK, ih]
def cutsIn0 (n0 : Nat) (w : World) (ca : Option Addr) (cs : List Sp) : Prop := ∀ i, i < cs.length → ∃ g x y, ca = some ⟨g, 0, none⟩ ∧ g < n0 ∧ cs[i]? = some (x, y) ∧ w.cell? ⟨g, i * 2, none⟩ = some (.int .i64 (x : Int)) ∧ w.cell? ⟨g, i * 2 + 1, none⟩ = some (.int .i64 (y : Int))
def mvPost (N : Nat) (t : Tr) (w : World) (e : Ending) (w' : World) : Prop := ∃ u, e = .returned u ∧ refAt (fun q => w.heap.size ≤ q) w' (mvT N t) u ∧ Below w.heap.size w w'
def kidMv (n0 N : Nat) (w : World) (ka : Option Addr) (ts : List Tr) : Prop := ∀ i, (h : i < ts.length) → ∃ g a n c a2 n2 c2, ka = some ⟨g, 0, none⟩ ∧ g < n0 ∧ nineAt w g i ts[i] (.slice a n c) (.slice a2 n2 c2) ∧
  ∀ W', (∀ q, q < n0 → W'.heap[q]? = w.heap[q]?) → n0 ≤ W'.heap.size → Calls Tryz.prog 14 #[.agg #[.int .i64 (ts[i].kind : Int), .int .i64 (ts[i].hd.1 : Int), .int .i64 (ts[i].hd.2 : Int), .int .i64 (ts[i].bd.1 : Int), .int .i64 (ts[i].bd.2 : Int), .slice a n c, .slice a2 n2 c2, .int .i64 (ts[i].e.1 : Int), .int .i64 (ts[i].e.2 : Int)], .int .i64 (N : Int)] W'
    (mvPost N ts[i] W')
set_option maxRecDepth 100000 in
set_option maxHeartbeats 16000000 in
theorem moved_step1 (n0 N : Nat) (hN : N ≤ 1000000) (ts : List Tr) (cs : List Sp) (h1 h2 b1 b2 e1 e2 : Nat) (hh1 : h1 ≤ 1000000) (hh2 : h2 ≤ 1000000) (hb1 : b1 ≤ 1000000) (hb2 : b2 ≤ 1000000) (he1 : e1 ≤ 1000000) (he2 : e2 ≤ 1000000) (hcb : ∀ c ∈ cs, c.1 ≤ 1000000 ∧ c.2 ≤ 1000000) (ka ca : Option Addr) (kc cc : Nat) (w : World) (hn0 : n0 ≤ w.heap.size) (hln : ts.length ≤ 1000000) (hcn : cs.length ≤ 1000000) (hca : cutsIn0 n0 w ca cs) (hat : kidMv n0 N w ka ts) :
    Calls Tryz.prog 14 #[.agg #[.int .i64 1, .int .i64 (h1 : Int), .int .i64 (h2 : Int), .int .i64 (b1 : Int), .int .i64 (b2 : Int), .slice ka ts.length kc, .slice ca cs.length cc, .int .i64 (e1 : Int), .int .i64 (e2 : Int)], .int .i64 (N : Int)] w
      fun e w' => ∃ pa pn pc da dn dc us, e = .returned (.agg #[.int .i64 1, .int .i64 ((h1 : Int) + (N : Int)), .int .i64 ((h2 : Int) + (N : Int)), .int .i64 ((b1 : Int) + (N : Int)), .int .i64 ((b2 : Int) + (N : Int)), .slice pa pn pc, .slice da dn dc, .int .i64 ((e1 : Int) + (N : Int)), .int .i64 ((e2 : Int) + (N : Int))]) ∧
        ownS (fun q => w.heap.size ≤ q) w' 26 2 (.slice da dn dc) (cs.map (shP N)).length (spCells (cs.map (shP N))) ∧
        ownS (fun q => w.heap.size ≤ q) w' 39 9 (.slice pa pn pc) us.length (us.flatMap partCells) ∧ refKs (fun q => w.heap.size ≤ q) w' (mvK N ts) us ∧ Below w.heap.size w w' := by
  have HA := Lib.hid hat
  have HCa := Lib.hid hca
  have HCb := Lib.hid hcb
  obtain ⟨i0, hi0, hz0, hz1, hz2⟩ := info_parts Tryz.infoRp
  have HI0 := Lib.hid hi0
  have HZ0 := Lib.hid hz0
  have HZ1 := Lib.hid hz1
  have HZ2 := Lib.hid hz2
  obtain ⟨j0, gi0, gz0, gz1, gz2⟩ := info_parts Tryz.infoSpn
  have GI0 := Lib.hid gi0
  have GZ0 := Lib.hid gz0
  have GZ1 := Lib.hid gz1
  have GZ2 := Lib.hid gz2
  obtain ⟨X, hX⟩ : ∃ X, X = ((w.alloc (rfO 1 h1 h2 b1 b2 (.slice ka ts.length kc) (.slice ca cs.length cc) e1 e2)).alloc (rfO 0 0 0 0 0 (.slice none 0 0) (.slice none 0 0) 0 0)).alloc (rfO 1 ((h1 : Int) + (N : Int)) ((h2 : Int) + (N : Int)) ((b1 : Int) + (N : Int)) ((b2 : Int) + (N : Int)) (.slice none 0 0) (.slice none 0 0) (0) (0)) := ⟨_, rfl⟩
  have HzX : Hid (X.heap.size = w.heap.size + 3) := by unfold Hid; rw [hX]; simp
  have HBX : Hid (Below w.heap.size w X) := by unfold Hid; rw [hX]; exact (((Below.refl _ _).alloc (Nat.le_refl _) _).alloc (by simp) _).alloc (by simp; omega) _
  have HX0 : Hid (X.heap[w.heap.size]? = some (rfO 1 h1 h2 b1 b2 (.slice ka ts.length kc) (.slice ca cs.length cc) e1 e2)) := by
    unfold Hid
    rw [hX]
    exact (Below.heap_alloc _ _ _ (by simp; omega)).trans (heap_alloc2_old w _ _)
  have HX1 : Hid (X.heap[w.heap.size + 1]? = some (rfO 0 0 0 0 0 (.slice none 0 0) (.slice none 0 0) 0 0)) := by
    unfold Hid
    rw [hX]
    exact (Below.heap_alloc _ _ _ (by simp)).trans (heap_alloc2_new w _ _)
  have HX2 : Hid (X.heap[w.heap.size + 1 + 1]? = some (rfO 1 ((h1 : Int) + (N : Int)) ((h2 : Int) + (N : Int)) ((b1 : Int) + (N : Int)) ((b2 : Int) + (N : Int)) (.slice none 0 0) (.slice none 0 0) (0) (0))) := by
    unfold Hid
    rw [hX]
    have := heap_alloc_new ((w.alloc (rfO 1 h1 h2 b1 b2 (.slice ka ts.length kc) (.slice ca cs.length cc) e1 e2)).alloc (rfO 0 0 0 0 0 (.slice none 0 0) (.slice none 0 0) 0 0)) (rfO 1 ((h1 : Int) + (N : Int)) ((h2 : Int) + (N : Int)) ((b1 : Int) + (N : Int)) ((b2 : Int) + (N : Int)) (.slice none 0 0) (.slice none 0 0) (0) (0))
    simp only [World.size_alloc] at this
    exact this
  unfold rfO at hX
  clear hat hca hcb hi0 hz0 hz1 hz2 gi0 gz0 gz1 gz2
  go_enter Tryz.func14, Tryz.ntmps14
  go_upto_region 2 with fail
  rw [← hX]
  clear hX
  go_wp2_with fail
  go_loopg [6] cs.length (fun q x6 wr => ∃ (k : Nat) (da : Option Addr) (dn dc : Nat), k ≤ cs.length ∧ q = cs.length - k ∧ x6 = .int .i64 (k : Int) ∧ Hid (dn = k) ∧ Hid (wr.heap[w.heap.size + 1 + 1]? = some (rfO 1 ((h1 : Int) + (N : Int)) ((h2 : Int) + (N : Int)) ((b1 : Int) + (N : Int)) ((b2 : Int) + (N : Int)) (.slice none 0 0) (.slice da dn dc) (0) (0))) ∧
    Hid (wr.ownsRow X.heap.size 26 2 (.slice da dn dc) k (spCells ((cs.take k).map (shP N)))) ∧ Hid (K2 (w.heap.size + 1 + 1) (w.heap.size + 1 + 1) X wr))
  case atStart => exact ⟨0, none, 0, 0, Nat.zero_le _, rfl, rfl, rfl, HX2.out, World.ownsRow_nil _ _ _ _, K2.refl _ _ _⟩
  case round =>
    obtain ⟨k, da, dn, dc, hk, rfl, rfl, HDn, HP2, HOx, HK2⟩ := hrel
    have hzX := HzX.out
    have hzr := HK2.out.size
    have hP0 : wr.heap[w.heap.size]? = some (rfO 1 h1 h2 b1 b2 (.slice ka ts.length kc) (.slice ca cs.length cc) e1 e2) := (HK2.out.block w.heap.size (by omega) (by omega) (by omega)).trans HX0.out
    have c6 := (rf_cells hP0).2.2.2.2.2.2.1
    have HC6 := Lib.hid c6
    have hbg : ∀ q, q < n0 → wr.heap[q]? = w.heap[q]? := fun q hq => (HK2.out.block q (by omega) (by omega) (by omega)).trans (HBX.out.block q (by omega))
    have HBG := Lib.hid hbg
    by_cases hlt : k < cs.length
    · obtain ⟨g, x, y, rfl, hg, hxy, hx0, hy0⟩ := HCa.out k hlt
      have hgx : cs[k] = (x, y) := by have := List.getElem?_eq_some_iff.1 hxy; exact this.2
      have hxb := HCb.out cs[k] (List.getElem_mem hlt)
      rw [hgx] at hxb
      obtain ⟨hxb1, hxb2⟩ := hxb
      simp only at hxb1 hxb2
      have HTk : Hid ((cs.take (k + 1)).map (shP N) = (cs.take k).map (shP N) ++ [(N + x, N + y)]) := by
        unfold Hid
        rw [List.take_succ_eq_append_getElem hlt, hgx, List.map_append]
        rfl
      have HX0c := Lib.hid ((World.cell?_of_block (a := ⟨g, k * 2, none⟩) (hbg g hg)).trans hx0)
      have HY0c := Lib.hid ((World.cell?_of_block (a := ⟨g, k * 2 + 1, none⟩) (hbg g hg)).trans hy0)
      clear hP0 hbg hx0 hy0 hxy hgx
      have hk0 : K2 (w.heap.size + 1 + 1) (w.heap.size + 1 + 1) wr wr.drew := (K2.refl _ _ _).below (Below.refl _ _).drew
      have HPa : Hid (∀ W, Below wr.heap.size wr W → W.heap[w.heap.size + 1 + 1]? = some (rfO 1 ((h1 : Int) + (N : Int)) ((h2 : Int) + (N : Int)) ((b1 : Int) + (N : Int)) ((b2 : Int) + (N : Int)) (.slice none 0 0) (.slice da dn dc) (0) (0))) := fun W hb => (hb.block (w.heap.size + 1 + 1) (by omega)).trans HP2.out
      have HOb : Hid (∀ q, (Value.slice da dn dc).ownBlock = some q → X.heap.size ≤ q ∧ q < wr.heap.size) := HOx.out.lt
      have HOk : Hid (∀ W, K2 (w.heap.size + 1 + 1) (w.heap.size + 1 + 1) wr W → W.ownsRow X.heap.size 26 2 (.slice da dn dc) k (spCells ((cs.take k).map (shP N)))) := fun W hk => own_k2 HOx.out hk (by omega) (by omega)
      have HSp : Hid (∀ W, W.cell? ⟨w.heap.size + 1 + 1, 6, none⟩ = some (.slice da dn dc) → K2 (w.heap.size + 1 + 1) (w.heap.size + 1 + 1) wr W → (W.cell? ⟨w.heap.size + 1 + 1, 6, none⟩ = some (.slice da dn dc) ∧ W.cell? ⟨w.heap.size, 6, none⟩ = some (.slice (some ⟨g, 0, none⟩) cs.length cc) ∧ W.cell? ⟨g, k * 2, none⟩ = some (.int .i64 (x : Int)) ∧ W.cell? ⟨g, k * 2 + 1, none⟩ = some (.int .i64 (y : Int)))) := fun W h5 hk => by
        have o1 := World.cell?_of_block (a := ⟨w.heap.size, 6, none⟩) (hk.block w.heap.size (by omega) (by omega) (by omega))
        have o2 := hk.block g (by omega) (by omega) (by omega)
        exact ⟨h5, o1.trans HC6.out, (World.cell?_of_block (a := ⟨g, k * 2, none⟩) o2).trans HX0c.out, (World.cell?_of_block (a := ⟨g, k * 2 + 1, none⟩) o2).trans HY0c.out⟩
      have HKq : Hid (∀ W W', K2 (w.heap.size + 1 + 1) (w.heap.size + 1 + 1) wr W → W.grownBy W' (Value.slice da dn dc).ownBlock → W'.cell? ⟨w.heap.size + 1 + 1, 6, none⟩ = some (.slice da dn dc) → (W'.cell? ⟨w.heap.size + 1 + 1, 6, none⟩ = some (.slice da dn dc) ∧ W'.cell? ⟨w.heap.size, 6, none⟩ = some (.slice (some ⟨g, 0, none⟩) cs.length cc) ∧ W'.cell? ⟨g, k * 2, none⟩ = some (.int .i64 (x : Int)) ∧ W'.cell? ⟨g, k * 2 + 1, none⟩ = some (.int .i64 (y : Int)))) := fun W W' hk hg5 h5 => by
        have hz := hk.size
        have o1 := World.cell?_of_block (a := ⟨w.heap.size, 6, none⟩) ((hg5.block w.heap.size (by omega) (by intro e; have := HOb.out _ e.symm; omega)).trans (hk.block w.heap.size (by omega) (by omega) (by omega)))
        have o2 := (hg5.block g (by omega) (by intro e; have := HOb.out _ e.symm; omega)).trans (hk.block g (by omega) (by omega) (by omega))
        exact ⟨h5, o1.trans HC6.out, (World.cell?_of_block (a := ⟨g, k * 2, none⟩) o2).trans HX0c.out, (World.cell?_of_block (a := ⟨g, k * 2 + 1, none⟩) o2).trans HY0c.out⟩
      have hkp := (rf_cells (HPa.out _ (Below.refl _ _))).2.2.2.2.2.2.1
      have hle1 : k + 1 ≤ maxLen := by unfold maxLen; omega
      have hle2 : (k + 1) * 16 ≤ 140737488355328 := by omega
      have hPO : some (w.heap.size + 1 + 1) ≠ (Value.slice da dn dc).ownBlock := by intro e; have := HOb.out _ e.symm; omega
      have hw1 : IntKind.i64.wrap ((x : Int) + (N : Int)) = (x : Int) + (N : Int) := IntWalk.i64_in _ (by omega)
      have hw2 : IntKind.i64.wrap ((y : Int) + (N : Int)) = (y : Int) + (N : Int) := IntWalk.i64_in _ (by omega)
      go_wp2_with fail
      clear c6
      refine wp_region_last (fun W' => W'.cell? ⟨w.heap.size + 1 + 1, 6, none⟩ = some (.slice da dn dc) ∧ W'.cell? ⟨w.heap.size, 6, none⟩ = some (.slice (some ⟨g, 0, none⟩) cs.length cc) ∧ W'.cell? ⟨g, k * 2, none⟩ = some (.int .i64 (x : Int)) ∧ W'.cell? ⟨g, k * 2 + 1, none⟩ = some (.int .i64 (y : Int))) 22 (by kernel_rfl) ?_
      have hS0 := HSp.out wr.drew hkp hk0
      refine wpAnyN_takeE (i := 0) rfl (by kernel_rfl) (by kernel_rfl) (by kernel_rfl) (by kernel_rfl) (fun _ _ _ _ h => h) rfl hS0 ?_
      apply Exists.intro
      refine ⟨fun w hSw => ?_, ?_⟩
      · obtain ⟨_, _, _, _⟩ := hSw
        go_simp
        try rfl
      try simp only [Act.put]
      try simp only [List.setIfInBounds_toArray]
      try simp only [List.set_cons_succ]
      try simp only [List.set_cons_zero]
      refine wpAnyN_takeE (i := 1) rfl (by kernel_rfl) (by kernel_rfl) (by kernel_rfl) (by kernel_rfl) (fun _ _ _ _ h => h) rfl hS0 ?_
      apply Exists.intro
      refine ⟨fun w hSw => ?_, ?_⟩
      · obtain ⟨_, _, _, _⟩ := hSw
        go_simp
        try rfl
      try simp only [Act.put]
      try simp only [List.setIfInBounds_toArray]
      try simp only [List.set_cons_succ]
      try simp only [List.set_cons_zero]
      refine wpAnyN_takeE (i := 2) rfl (by kernel_rfl) (by kernel_rfl) (by kernel_rfl) (by kernel_rfl) (fun _ _ _ _ h => h) rfl hS0 ?_
      apply Exists.intro
      refine ⟨fun w hSw => ?_, ?_⟩
      · obtain ⟨_, _, _, _⟩ := hSw
        go_simp
        try rfl
      try simp only [Act.put]
      try simp only [List.setIfInBounds_toArray]
      try simp only [List.set_cons_succ]
      try simp only [List.set_cons_zero]
      refine wpAnyN_takeE (i := 3) rfl (by kernel_rfl) (by kernel_rfl) (by kernel_rfl) (by kernel_rfl) (fun _ _ _ _ h => h) rfl hS0 ?_
      apply Exists.intro
      refine ⟨fun w hSw => ?_, ?_⟩
      · obtain ⟨_, _, _, _⟩ := hSw
        go_simp
        try rfl
      try simp only [Act.put]
      try simp only [List.setIfInBounds_toArray]
      try simp only [List.set_cons_succ]
      try simp only [List.set_cons_zero]
      refine wpAnyN_takeE (i := 4) rfl (by kernel_rfl) (by kernel_rfl) (by kernel_rfl) (by kernel_rfl) (fun _ _ _ _ h => h) rfl hS0 ?_
      apply Exists.intro
      refine ⟨fun w hSw => ?_, ?_⟩
      · obtain ⟨_, _, _, _⟩ := hSw
        go_simp
        try rfl
      try simp only [Act.put]
      try simp only [List.setIfInBounds_toArray]
      try simp only [List.set_cons_succ]
      try simp only [List.set_cons_zero]
      refine wpAnyN_takeE (i := 5) rfl (by kernel_rfl) (by kernel_rfl) (by kernel_rfl) (by kernel_rfl) (fun _ _ _ _ h => h) rfl hS0 ?_
      apply Exists.intro
      refine ⟨fun w hSw => ?_, ?_⟩
      · obtain ⟨_, _, _, _⟩ := hSw
        go_simp
        try rfl
      try simp only [Act.put]
      try simp only [List.setIfInBounds_toArray]
      try simp only [List.set_cons_succ]
      try simp only [List.set_cons_zero]
      refine wpAnyN_takeE (i := 6) rfl (by kernel_rfl) (by kernel_rfl) (by kernel_rfl) (by kernel_rfl) (fun _ _ _ _ h => h) rfl hS0 ?_
      apply Exists.intro
      refine ⟨fun w hSw => ?_, ?_⟩
      · obtain ⟨_, _, _, _⟩ := hSw
        go_simp
        try rfl
      try simp only [Act.put]
      try simp only [List.setIfInBounds_toArray]
      try simp only [List.set_cons_succ]
      try simp only [List.set_cons_zero]
      refine wpAnyN_takeE (i := 7) rfl (by kernel_rfl) (by kernel_rfl) (by kernel_rfl) (by kernel_rfl) (fun _ _ _ _ h => h) rfl hS0 ?_
      apply Exists.intro
      refine ⟨fun w hSw => ?_, ?_⟩
      · obtain ⟨_, _, _, _⟩ := hSw
        go_simp
        try rfl
      try simp only [Act.put]
      try simp only [List.setIfInBounds_toArray]
      try simp only [List.set_cons_succ]
      try simp only [List.set_cons_zero]
      refine wpAnyN_takeE (i := 8) rfl (by kernel_rfl) (by kernel_rfl) (by kernel_rfl) (by kernel_rfl) (fun _ _ _ _ h => h) rfl hS0 ?_
      apply Exists.intro
      refine ⟨fun w hSw => ?_, ?_⟩
      · obtain ⟨_, _, _, _⟩ := hSw
        go_simp
        try rfl
      try simp only [Act.put]
      try simp only [List.setIfInBounds_toArray]
      try simp only [List.set_cons_succ]
      try simp only [List.set_cons_zero]
      refine wpAnyN_takeE (i := 9) rfl (by kernel_rfl) (by kernel_rfl) (by kernel_rfl) (by kernel_rfl) (fun _ _ _ _ h => h) rfl hS0 ?_
      apply Exists.intro
      refine ⟨fun w hSw => ?_, ?_⟩
      · obtain ⟨_, _, _, _⟩ := hSw
        go_simp
        try rfl
      try simp only [Act.put]
      try simp only [List.setIfInBounds_toArray]
      try simp only [List.set_cons_succ]
      try simp only [List.set_cons_zero]
      refine wpAnyN_takeE (i := 10) rfl (by kernel_rfl) (by kernel_rfl) (by kernel_rfl) (by kernel_rfl) (fun _ _ _ _ h => h) rfl hS0 ?_
      apply Exists.intro
      refine ⟨fun w hSw => ?_, ?_⟩
      · obtain ⟨_, _, _, _⟩ := hSw
        go_simp
        try rfl
      try simp only [Act.put]
      try simp only [List.setIfInBounds_toArray]
      try simp only [List.set_cons_succ]
      try simp only [List.set_cons_zero]
      refine wpAnyN_takeE (i := 11) rfl (by kernel_rfl) (by kernel_rfl) (by kernel_rfl) (by kernel_rfl) (fun _ _ _ _ h => h) rfl hS0 ?_
      apply Exists.intro
      refine ⟨fun w hSw => ?_, ?_⟩
      · obtain ⟨_, _, _, _⟩ := hSw
        go_simp
        try rfl
      try simp only [Act.put]
      try simp only [List.setIfInBounds_toArray]
      try simp only [List.set_cons_succ]
      try simp only [List.set_cons_zero]
      refine wpAnyN_takeE (i := 12) rfl (by kernel_rfl) (by kernel_rfl) (by kernel_rfl) (by kernel_rfl) (fun _ _ _ _ h => h) rfl hS0 ?_
      apply Exists.intro
      refine ⟨fun w hSw => ?_, ?_⟩
      · obtain ⟨_, _, _, _⟩ := hSw
        go_simp
        try rfl
      try simp only [Act.put]
      try simp only [List.setIfInBounds_toArray]
      try simp only [List.set_cons_succ]
      try simp only [List.set_cons_zero]
      refine wpAnyN_takeE (i := 13) rfl (by kernel_rfl) (by kernel_rfl) (by kernel_rfl) (by kernel_rfl) (fun _ _ _ _ h => h) rfl hS0 ?_
      apply Exists.intro
      refine ⟨fun w hSw => ?_, ?_⟩
      · obtain ⟨_, _, _, _⟩ := hSw
        go_simp
        try rfl
      try simp only [Act.put]
      try simp only [List.setIfInBounds_toArray]
      try simp only [List.set_cons_succ]
      try simp only [List.set_cons_zero]
      refine wpAnyN_takeE (i := 14) rfl (by kernel_rfl) (by kernel_rfl) (by kernel_rfl) (by kernel_rfl) (fun _ _ _ _ h => h) rfl hS0 ?_
      apply Exists.intro
      refine ⟨fun w hSw => ?_, ?_⟩
      · obtain ⟨_, _, _, _⟩ := hSw
        go_simp
        try rfl
      try simp only [Act.put]
      try simp only [List.setIfInBounds_toArray]
      try simp only [List.set_cons_succ]
      try simp only [List.set_cons_zero]
      refine wpAnyN_takeE (i := 15) rfl (by kernel_rfl) (by kernel_rfl) (by kernel_rfl) (by kernel_rfl) (fun _ _ _ _ h => h) rfl hS0 ?_
      apply Exists.intro
      refine ⟨fun w hSw => ?_, ?_⟩
      · obtain ⟨_, _, _, _⟩ := hSw
        go_simp
        try rfl
      try simp only [Act.put]
      try simp only [List.setIfInBounds_toArray]
      try simp only [List.set_cons_succ]
      try simp only [List.set_cons_zero]
      refine wpAnyN_takeE (i := 16) rfl (by kernel_rfl) (by kernel_rfl) (by kernel_rfl) (by kernel_rfl) (fun _ _ _ _ h => h) rfl hS0 ?_
      apply Exists.intro
      refine ⟨fun w hSw => ?_, ?_⟩
      · obtain ⟨_, _, _, _⟩ := hSw
        go_simp
        try rfl
      try simp only [Act.put]
      try simp only [List.setIfInBounds_toArray]
      try simp only [List.set_cons_succ]
      try simp only [List.set_cons_zero]
      refine wpAnyN_takeE (i := 17) rfl (by kernel_rfl) (by kernel_rfl) (by kernel_rfl) (by kernel_rfl) (fun _ _ _ _ h => h) rfl hS0 ?_
      apply Exists.intro
      refine ⟨fun w hSw => ?_, ?_⟩
      · obtain ⟨_, _, _, _⟩ := hSw
        go_simp
        try rfl
      try simp only [Act.put]
      try simp only [List.setIfInBounds_toArray]
      try simp only [List.set_cons_succ]
      try simp only [List.set_cons_zero]
      refine wpAnyN_takeE (i := 18) rfl (by kernel_rfl) (by kernel_rfl) (by kernel_rfl) (by kernel_rfl) (fun _ _ _ _ h => h) rfl hS0 ?_
      apply Exists.intro
      refine ⟨fun w hSw => ?_, ?_⟩
      · obtain ⟨_, _, _, _⟩ := hSw
        go_simp
        try rfl
      try simp only [Act.put]
      try simp only [List.setIfInBounds_toArray]
      try simp only [List.set_cons_succ]
      try simp only [List.set_cons_zero]
      refine wpAnyN_one (i := 19) (by kernel_rfl) rfl (fun K hK => ?_)
      go_simp
      have hk12 : K2 (w.heap.size + 1 + 1) (w.heap.size + 1 + 1) wr (wr.alloc (.cells #[.int .i64 ((x : Int) + (N : Int)), .int .i64 ((y : Int) + (N : Int))] 26)).drew := (K2.refl _ _ _).below ((Below.refl _ _).alloc (Nat.le_refl _) _).drew
      have hp12 : (wr.alloc (.cells #[.int .i64 ((x : Int) + (N : Int)), .int .i64 ((y : Int) + (N : Int))] 26)).drew.heap[w.heap.size + 1 + 1]? = some (rfO 1 ((h1 : Int) + (N : Int)) ((h2 : Int) + (N : Int)) ((b1 : Int) + (N : Int)) ((b2 : Int) + (N : Int)) (.slice none 0 0) (.slice da dn dc) (0) (0)) := HPa.out _ ((Below.refl _ _).alloc (Nat.le_refl _) _).drew
      refine hK.out _ _ (fun _ => HSp.out _ (rf_cells hp12).2.2.2.2.2.2.1 hk12) ?_
      clear hK K
      refine wpAnyN_one (i := 20) (by kernel_rfl) rfl (fun K hK => ?_)
      refine step_append_lies _ (by exact rfl) _ _ 28 (by exact rfl) X.heap.size 26 j0 (.agg #[.int .i64 0, .int .i64 0]) 2 16 Tryz.underlying28 GI0.out GZ0.out GZ1.out GZ2.out rfl (by decide) _ k (spCells ((cs.take k).map (shP N))) (by exact rfl) (HOk.out _ hk12) ⟨wr.heap.size, 0, none⟩ 1 1 [.int .i64 ((x : Int) + (N : Int)), .int .i64 ((y : Int) + (N : Int))] (by exact rfl) rfl (World.news_of_block (cs := #[.int .i64 ((x : Int) + (N : Int)), .int .i64 ((y : Int) + (N : Int))]) (heap_alloc_new wr _)) (by simp [Value.oneCell']) (by decide) hle1 hle2 (Nat.le_trans hzr hk12.size) _ rfl ?_
      intro g13 cap13 w13 hown13 hgrow13 hor13 hlt13
      have hz12 := hk12.size
      have hp13 := (hgrow13.block (w.heap.size + 1 + 1) (by omega) hPO).trans hp12
      refine hK.out _ _ (fun _ => HKq.out _ _ hk12 hgrow13 (rf_cells hp13).2.2.2.2.2.2.1) ?_
      clear hK K
      refine wpAnyN_one (i := 21) (by kernel_rfl) rfl (fun K hK => ?_)
      go_simp
      refine hK.out _ _ (fun _ => HKq.out _ _ hk12 hgrow13 (rf_cells hp13).2.2.2.2.2.2.1) ?_
      clear hK K
      have s6 := (rf_cells hp13).2.2.2.2.2.2.1
      have v6 := rf_frozen hp13 6
      refine wpAnyN_one (i := 22) (by kernel_rfl) rfl (fun K hK => ?_)
      go_simp
      refine hK.out _ _ (fun hh => absurd rfl hh) ?_
      clear hK K
      have HK2x : Hid (K2 (w.heap.size + 1 + 1) (w.heap.size + 1 + 1) X (w13.setCell ⟨w.heap.size + 1 + 1, 6, none⟩ (.slice (some ⟨g13, 0, none⟩) (k + 1) cap13))) := ((HK2.out.trans hk12).grown hgrow13 (fun q hq => (HOb.out q hq).1)).set 6 _
      have HOx2 : Hid ((w13.setCell ⟨w.heap.size + 1 + 1, 6, none⟩ (.slice (some ⟨g13, 0, none⟩) (k + 1) cap13)).ownsRow X.heap.size 26 2 (.slice (some ⟨g13, 0, none⟩) (k + 1) cap13) (k + 1) (spCells ((cs.take (k + 1)).map (shP N)))) := by
        unfold Hid
        have h1 := ownsRow_setCell_below (a := ⟨w.heap.size + 1 + 1, 6, none⟩) hown13 (show w.heap.size + 1 + 1 < X.heap.size by omega) (.slice (some ⟨g13, 0, none⟩) (k + 1) cap13)
        rw [HTk.out, spCells_snoc]
        have hxc : ((N + x : Nat) : Int) = (x : Int) + (N : Int) := by omega
        have hyc : ((N + y : Nat) : Int) = (y : Int) + (N : Int) := by omega
        show World.ownsRow _ _ _ _ _ _ (_ ++ [.int .i64 ((N + x : Nat) : Int), .int .i64 ((N + y : Nat) : Int)])
        rw [hxc, hyc]
        exact h1
      have HPx2 : Hid ((w13.setCell ⟨w.heap.size + 1 + 1, 6, none⟩ (.slice (some ⟨g13, 0, none⟩) (k + 1) cap13)).heap[w.heap.size + 1 + 1]? = some (rfO 1 ((h1 : Int) + (N : Int)) ((h2 : Int) + (N : Int)) ((b1 : Int) + (N : Int)) ((b2 : Int) + (N : Int)) (.slice none 0 0) (.slice (some ⟨g13, 0, none⟩) (k + 1) cap13) (0) (0))) := by
        have h1 := hp13
        unfold rfO at h1
        exact row_set h1
      clear hown13 hgrow13 hor13 hlt13 hp13 hp12 hk12 hS0 s6 v6 HKq HSp HOk HPa hk0 hkp hz12 HOb hPO hle1 hle2 hw1 hw2
      clear HK2 HOx HP2 HBG HC6 HX0c HY0c HTk
      refine wpAnyN_done (by kernel_rfl) ?_ _
      go_wp2_with fail
      go_roundg (cs.length - (k + 1))
      case measure => omega
      case rel => exact ⟨k + 1, some ⟨g13, 0, none⟩, k + 1, cap13, by omega, rfl, by go_num, rfl, HPx2.out, HOx2.out, HK2x.out⟩
    · obtain rfl : k = cs.length := by omega
      have HCs : Hid (wr.ownsRow X.heap.size 26 2 (.slice da dn dc) (cs.map (shP N)).length (spCells (cs.map (shP N)))) := by
        unfold Hid
        have h1 := HOx.out
        rw [List.take_length] at h1
        rw [List.length_map]
        exact h1
      obtain ⟨x0, x1, x2, x3, x4, x5, x6, x7, x8⟩ := rf_cells hP0
      obtain ⟨Y, hY⟩ : ∃ Y, Y = (wr.setCell ⟨w.heap.size + 1 + 1, 7, none⟩ (.int .i64 ((e1 : Int) + (N : Int)))).setCell ⟨w.heap.size + 1 + 1, 8, none⟩ (.int .i64 ((e2 : Int) + (N : Int))) := ⟨_, rfl⟩
      have f7 := rf_frozen HP2.out 7
      have f8 := rf_frozen HP2.out 8
      obtain ⟨y0, y1, y2, y3, y4, y5, y6, y7, y8⟩ := rf_cells HP2.out
      have HzY : Hid (Y.heap.size = wr.heap.size) := by unfold Hid; rw [hY]; simp
      have HKY : Hid (K2 (w.heap.size + 1 + 1) (w.heap.size + 1 + 1) X Y) := by unfold Hid; rw [hY]; exact (HK2.out.set 7 _).set 8 _
      have HPY : Hid (Y.heap[w.heap.size + 1 + 1]? = some (rfO 1 ((h1 : Int) + (N : Int)) ((h2 : Int) + (N : Int)) ((b1 : Int) + (N : Int)) ((b2 : Int) + (N : Int)) (.slice none 0 0) (.slice da dn dc) ((e1 : Int) + (N : Int)) ((e2 : Int) + (N : Int)))) := by
        unfold Hid
        rw [hY]
        have h1 := HP2.out
        unfold rfO at h1
        exact row_set (row_set h1)
      have HCY : Hid (Y.ownsRow X.heap.size 26 2 (.slice da dn dc) (cs.map (shP N)).length (spCells (cs.map (shP N)))) := by
        unfold Hid
        rw [hY]
        exact ownsRow_setCell_below (a := ⟨w.heap.size + 1 + 1, 8, none⟩) (ownsRow_setCell_below (a := ⟨w.heap.size + 1 + 1, 7, none⟩) HCs.out (show w.heap.size + 1 + 1 < X.heap.size by omega) _) (show w.heap.size + 1 + 1 < X.heap.size by omega) _
      clear hP0 c6 hbg
      go_upto_region 8 with fail
      rw [← hY]
      clear hY x0 x1 x2 x3 x4 x5 x6 x7 x8 y0 y1 y2 y3 y4 y5 y6 y7 y8 f7 f8
      have hzY : X.heap.size ≤ Y.heap.size := by have := HzY.out; omega
      have HzYX := Lib.hid hzY
      clear HK2 HP2 HOx HCs HzY HDn hzr
      go_wp2_with fail
      go_loopg [7] ts.length (fun q x7 wr => ∃ (k : Nat) (us : List Value) (pa : Option Addr) (pn pc : Nat), k ≤ ts.length ∧ q = ts.length - k ∧ x7 = .int .i64 (k : Int) ∧ Hid (us.length = k) ∧ Hid (wr.heap[w.heap.size + 1 + 1]? = some (rfO 1 ((h1 : Int) + (N : Int)) ((h2 : Int) + (N : Int)) ((b1 : Int) + (N : Int)) ((b2 : Int) + (N : Int)) (.slice pa pn pc) (.slice da dn dc) ((e1 : Int) + (N : Int)) ((e2 : Int) + (N : Int)))) ∧
        Hid (wr.ownsRow Y.heap.size 39 9 (.slice pa pn pc) us.length (us.flatMap partCells)) ∧ Hid (refKs (fun q => Y.heap.size ≤ q ∧ ¬ (Value.slice pa pn pc).ownBlock = some q) wr (mvK N (ts.take k)) us) ∧ Hid (K2 (w.heap.size + 1 + 1) (w.heap.size + 1 + 1) Y wr))
      case atStart => exact ⟨0, [], none, 0, 0, Nat.zero_le _, rfl, rfl, rfl, HPY.out, World.ownsRow_nil _ _ _ _, by unfold Hid; rw [List.take_zero]; exact refKs_nil _ _, K2.refl _ _ _⟩
      case round =>
        have HY0 : Hid (Y.heap[w.heap.size]? = some (rfO 1 h1 h2 b1 b2 (.slice ka ts.length kc) (.slice ca cs.length cc) e1 e2)) := (HKY.out.block w.heap.size (by omega) (by omega) (by omega)).trans HX0.out
        have HY1 : Hid (Y.heap[w.heap.size + 1]? = some (rfO 0 0 0 0 0 (.slice none 0 0) (.slice none 0 0) 0 0)) := (HKY.out.block (w.heap.size + 1) (by omega) (by omega) (by omega)).trans HX1.out
        have HBY : Hid (∀ q, q < n0 → Y.heap[q]? = w.heap[q]?) := fun q hq => (HKY.out.block q (by omega) (by omega) (by omega)).trans (HBX.out.block q (by omega))
        obtain ⟨k, us, pa, pn, pc, hk, rfl, rfl, HUl, HP2, HOx, HKx, HK2⟩ := hrel
        have hzX := HzX.out
        have hzYX := HzYX.out
        have hzr := HK2.out.size
        have hP0 : wr.heap[w.heap.size]? = some (rfO 1 h1 h2 b1 b2 (.slice ka ts.length kc) (.slice ca cs.length cc) e1 e2) := (HK2.out.block w.heap.size (by omega) (by omega) (by omega)).trans HY0.out
        have HP0 := Lib.hid hP0
        by_cases hlt : k < ts.length
        · obtain ⟨g, ga, gn, gc, ga2, gn2, gc2, rfl, hg, h9, hcall⟩ := HA.out k hlt
          have c5 := (rf_cells hP0).2.2.2.2.2.1
          have HC5 := Lib.hid c5
          have hbg : ∀ q, q < n0 → wr.heap[q]? = w.heap[q]? := fun q hq => (HK2.out.block q (by omega) (by omega) (by omega)).trans (HBY.out q hq)
          have HBG := Lib.hid hbg
          have HN9 := Lib.hid (nine_open (h9.block (hbg g hg)))
          obtain ⟨q, hq⟩ : ∃ q, q = ts[k] := ⟨_, rfl⟩
          have HTk : Hid (mvK N (ts.take (k + 1)) = mvK N (ts.take k) ++ [mvT N q]) := by unfold Hid; rw [hq, List.take_succ_eq_append_getElem hlt, mvK_app]
          rw [← hq] at HN9 hcall
          have HCl := Lib.hid hcall
          clear hP0 hbg hcall h9 hq
          have HEn : Hid (∀ W, K2 (w.heap.size + 1 + 1) (w.heap.size + 1 + 1) wr W → Calls Tryz.prog 14 #[.agg #[.int .i64 (q.kind : Int), .int .i64 (q.hd.1 : Int), .int .i64 (q.hd.2 : Int), .int .i64 (q.bd.1 : Int), .int .i64 (q.bd.2 : Int), .slice ga gn gc, .slice ga2 gn2 gc2, .int .i64 (q.e.1 : Int), .int .i64 (q.e.2 : Int)], .int .i64 (N : Int)] W (mvPost N q W)) := fun W hkW => HCl.out W (fun q hq => (hkW.block q (by omega) (by omega) (by omega)).trans (HBG.out q hq)) (by have := hkW.size; omega)
          unfold mvPost at HEn
          have hk0 : K2 (w.heap.size + 1 + 1) (w.heap.size + 1 + 1) wr wr.drew := (K2.refl _ _ _).below (Below.refl _ _).drew
          have HPa : Hid (∀ W, Below wr.heap.size wr W → W.heap[w.heap.size + 1 + 1]? = some (rfO 1 ((h1 : Int) + (N : Int)) ((h2 : Int) + (N : Int)) ((b1 : Int) + (N : Int)) ((b2 : Int) + (N : Int)) (.slice pa pn pc) (.slice da dn dc) ((e1 : Int) + (N : Int)) ((e2 : Int) + (N : Int)))) := fun W hb => (hb.block (w.heap.size + 1 + 1) (by omega)).trans HP2.out
          have HOb : Hid (∀ q, (Value.slice pa pn pc).ownBlock = some q → Y.heap.size ≤ q ∧ q < wr.heap.size) := HOx.out.lt
          have HOk : Hid (∀ W, K2 (w.heap.size + 1 + 1) (w.heap.size + 1 + 1) wr W → W.ownsRow Y.heap.size 39 9 (.slice pa pn pc) us.length (us.flatMap partCells)) := fun W hk => own_k2 HOx.out hk (by omega) (by omega)
          have HSp : Hid (∀ W, W.cell? ⟨w.heap.size + 1 + 1, 5, none⟩ = some (.slice pa pn pc) → K2 (w.heap.size + 1 + 1) (w.heap.size + 1 + 1) wr W → (W.cell? ⟨w.heap.size + 1 + 1, 5, none⟩ = some (.slice pa pn pc) ∧ W.cell? ⟨w.heap.size, 5, none⟩ = some (.slice (some ⟨g, 0, none⟩) ts.length kc) ∧ W.cell? ⟨g, k * 9, none⟩ = some (.int .i64 (q.kind : Int)) ∧ W.cell? ⟨g, k * 9 + 1, none⟩ = some (.int .i64 (q.hd.1 : Int)) ∧ W.cell? ⟨g, k * 9 + 2, none⟩ = some (.int .i64 (q.hd.2 : Int)) ∧ W.cell? ⟨g, k * 9 + 3, none⟩ = some (.int .i64 (q.bd.1 : Int)) ∧ W.cell? ⟨g, k * 9 + 4, none⟩ = some (.int .i64 (q.bd.2 : Int)) ∧ W.cell? ⟨g, k * 9 + 5, none⟩ = some (.slice ga gn gc) ∧ W.cell? ⟨g, k * 9 + 6, none⟩ = some (.slice ga2 gn2 gc2) ∧ W.cell? ⟨g, k * 9 + 7, none⟩ = some (.int .i64 (q.e.1 : Int)) ∧ W.cell? ⟨g, k * 9 + 8, none⟩ = some (.int .i64 (q.e.2 : Int)))) := fun W h5 hk => by
            have o1 := World.cell?_of_block (a := ⟨w.heap.size, 5, none⟩) (hk.block w.heap.size (by omega) (by omega) (by omega))
            have o2 := hk.block g (by omega) (by omega) (by omega)
            obtain ⟨p0, p1, p2, p3, p4, p5, p6, p7, p8⟩ := HN9.out
            refine ⟨h5, o1.trans HC5.out, ?_⟩
            exact ⟨(World.cell?_of_block (a := ⟨g, k * 9, none⟩) o2).trans p0, (World.cell?_of_block (a := ⟨g, k * 9 + 1, none⟩) o2).trans p1, (World.cell?_of_block (a := ⟨g, k * 9 + 2, none⟩) o2).trans p2, (World.cell?_of_block (a := ⟨g, k * 9 + 3, none⟩) o2).trans p3, (World.cell?_of_block (a := ⟨g, k * 9 + 4, none⟩) o2).trans p4,
              (World.cell?_of_block (a := ⟨g, k * 9 + 5, none⟩) o2).trans p5, (World.cell?_of_block (a := ⟨g, k * 9 + 6, none⟩) o2).trans p6, (World.cell?_of_block (a := ⟨g, k * 9 + 7, none⟩) o2).trans p7, (World.cell?_of_block (a := ⟨g, k * 9 + 8, none⟩) o2).trans p8⟩
          have HKq : Hid (∀ W W', K2 (w.heap.size + 1 + 1) (w.heap.size + 1 + 1) wr W → W.grownBy W' (Value.slice pa pn pc).ownBlock → W'.cell? ⟨w.heap.size + 1 + 1, 5, none⟩ = some (.slice pa pn pc) → (W'.cell? ⟨w.heap.size + 1 + 1, 5, none⟩ = some (.slice pa pn pc) ∧ W'.cell? ⟨w.heap.size, 5, none⟩ = some (.slice (some ⟨g, 0, none⟩) ts.length kc) ∧ W'.cell? ⟨g, k * 9, none⟩ = some (.int .i64 (q.kind : Int)) ∧ W'.cell? ⟨g, k * 9 + 1, none⟩ = some (.int .i64 (q.hd.1 : Int)) ∧ W'.cell? ⟨g, k * 9 + 2, none⟩ = some (.int .i64 (q.hd.2 : Int)) ∧ W'.cell? ⟨g, k * 9 + 3, none⟩ = some (.int .i64 (q.bd.1 : Int)) ∧ W'.cell? ⟨g, k * 9 + 4, none⟩ = some (.int .i64 (q.bd.2 : Int)) ∧ W'.cell? ⟨g, k * 9 + 5, none⟩ = some (.slice ga gn gc) ∧ W'.cell? ⟨g, k * 9 + 6, none⟩ = some (.slice ga2 gn2 gc2) ∧ W'.cell? ⟨g, k * 9 + 7, none⟩ = some (.int .i64 (q.e.1 : Int)) ∧ W'.cell? ⟨g, k * 9 + 8, none⟩ = some (.int .i64 (q.e.2 : Int)))) := fun W W' hk hg5 h5 => by
            have hz := hk.size
            have o1 := World.cell?_of_block (a := ⟨w.heap.size, 5, none⟩) ((hg5.block w.heap.size (by omega) (by intro e; have := HOb.out _ e.symm; omega)).trans (hk.block w.heap.size (by omega) (by omega) (by omega)))
            have o2 := (hg5.block g (by omega) (by intro e; have := HOb.out _ e.symm; omega)).trans (hk.block g (by omega) (by omega) (by omega))
            obtain ⟨p0, p1, p2, p3, p4, p5, p6, p7, p8⟩ := HN9.out
            refine ⟨h5, o1.trans HC5.out, ?_⟩
            exact ⟨(World.cell?_of_block (a := ⟨g, k * 9, none⟩) o2).trans p0, (World.cell?_of_block (a := ⟨g, k * 9 + 1, none⟩) o2).trans p1, (World.cell?_of_block (a := ⟨g, k * 9 + 2, none⟩) o2).trans p2, (World.cell?_of_block (a := ⟨g, k * 9 + 3, none⟩) o2).trans p3, (World.cell?_of_block (a := ⟨g, k * 9 + 4, none⟩) o2).trans p4,
              (World.cell?_of_block (a := ⟨g, k * 9 + 5, none⟩) o2).trans p5, (World.cell?_of_block (a := ⟨g, k * 9 + 6, none⟩) o2).trans p6, (World.cell?_of_block (a := ⟨g, k * 9 + 7, none⟩) o2).trans p7, (World.cell?_of_block (a := ⟨g, k * 9 + 8, none⟩) o2).trans p8⟩
          have hkp := (rf_cells (HPa.out _ (Below.refl _ _))).2.2.2.2.2.1
          have hle1 : us.length + 1 ≤ maxLen := by have := HUl.out; unfold maxLen; omega
          have hle2 : (us.length + 1) * 104 ≤ 140737488355328 := by have := HUl.out; omega
          have hPO : some (w.heap.size + 1 + 1) ≠ (Value.slice pa pn pc).ownBlock := by intro e; have := HOb.out _ e.symm; omega
          clear HCl
          go_wp2_with fail
          clear c5
          refine wp_region_last (fun W' => W'.cell? ⟨w.heap.size + 1 + 1, 5, none⟩ = some (.slice pa pn pc) ∧ W'.cell? ⟨w.heap.size, 5, none⟩ = some (.slice (some ⟨g, 0, none⟩) ts.length kc) ∧ W'.cell? ⟨g, k * 9, none⟩ = some (.int .i64 (q.kind : Int)) ∧ W'.cell? ⟨g, k * 9 + 1, none⟩ = some (.int .i64 (q.hd.1 : Int)) ∧ W'.cell? ⟨g, k * 9 + 2, none⟩ = some (.int .i64 (q.hd.2 : Int)) ∧ W'.cell? ⟨g, k * 9 + 3, none⟩ = some (.int .i64 (q.bd.1 : Int)) ∧ W'.cell? ⟨g, k * 9 + 4, none⟩ = some (.int .i64 (q.bd.2 : Int)) ∧ W'.cell? ⟨g, k * 9 + 5, none⟩ = some (.slice ga gn gc) ∧ W'.cell? ⟨g, k * 9 + 6, none⟩ = some (.slice ga2 gn2 gc2) ∧ W'.cell? ⟨g, k * 9 + 7, none⟩ = some (.int .i64 (q.e.1 : Int)) ∧ W'.cell? ⟨g, k * 9 + 8, none⟩ = some (.int .i64 (q.e.2 : Int))) 12 (by kernel_rfl) ?_
          have hS0 := HSp.out wr.drew hkp hk0
          refine wpAnyN_takeE (i := 0) rfl (by kernel_rfl) (by kernel_rfl) (by kernel_rfl) (by kernel_rfl) (fun _ _ _ _ h => h) rfl hS0 ?_
          apply Exists.intro
          refine ⟨fun w hSw => ?_, ?_⟩
          · obtain ⟨_, _, _, _, _, _, _, _, _, _, _⟩ := hSw
            go_simp
            try rfl
          try simp only [Act.put]
          try simp only [List.setIfInBounds_toArray]
          try simp only [List.set_cons_succ]
          try simp only [List.set_cons_zero]
          refine wpAnyN_takeE (i := 1) rfl (by kernel_rfl) (by kernel_rfl) (by kernel_rfl) (by kernel_rfl) (fun _ _ _ _ h => h) rfl hS0 ?_
          apply Exists.intro
          refine ⟨fun w hSw => ?_, ?_⟩
          · obtain ⟨_, _, _, _, _, _, _, _, _, _, _⟩ := hSw
            go_simp
            try rfl
          try simp only [Act.put]
          try simp only [List.setIfInBounds_toArray]
          try simp only [List.set_cons_succ]
          try simp only [List.set_cons_zero]
          refine wpAnyN_takeE (i := 2) rfl (by kernel_rfl) (by kernel_rfl) (by kernel_rfl) (by kernel_rfl) (fun _ _ _ _ h => h) rfl hS0 ?_
          apply Exists.intro
          refine ⟨fun w hSw => ?_, ?_⟩
          · obtain ⟨_, _, _, _, _, _, _, _, _, _, _⟩ := hSw
            go_simp
            try rfl
          try simp only [Act.put]
          try simp only [List.setIfInBounds_toArray]
          try simp only [List.set_cons_succ]
          try simp only [List.set_cons_zero]
          refine wpAnyN_takeE (i := 3) rfl (by kernel_rfl) (by kernel_rfl) (by kernel_rfl) (by kernel_rfl) (fun _ _ _ _ h => h) rfl hS0 ?_
          apply Exists.intro
          refine ⟨fun w hSw => ?_, ?_⟩
          · obtain ⟨_, _, _, _, _, _, _, _, _, _, _⟩ := hSw
            go_simp
            try rfl
          try simp only [Act.put]
          try simp only [List.setIfInBounds_toArray]
          try simp only [List.set_cons_succ]
          try simp only [List.set_cons_zero]
          refine wpAnyN_takeE (i := 4) rfl (by kernel_rfl) (by kernel_rfl) (by kernel_rfl) (by kernel_rfl) (fun _ _ _ _ h => h) rfl hS0 ?_
          apply Exists.intro
          refine ⟨fun w hSw => ?_, ?_⟩
          · obtain ⟨_, _, _, _, _, _, _, _, _, _, _⟩ := hSw
            go_simp
            try rfl
          try simp only [Act.put]
          try simp only [List.setIfInBounds_toArray]
          try simp only [List.set_cons_succ]
          try simp only [List.set_cons_zero]
          refine wpAnyN_takeE (i := 5) rfl (by kernel_rfl) (by kernel_rfl) (by kernel_rfl) (by kernel_rfl) (fun _ _ _ _ h => h) rfl hS0 ?_
          apply Exists.intro
          refine ⟨fun w hSw => ?_, ?_⟩
          · obtain ⟨_, _, _, _, _, _, _, _, _, _, _⟩ := hSw
            go_simp
            try rfl
          try simp only [Act.put]
          try simp only [List.setIfInBounds_toArray]
          try simp only [List.set_cons_succ]
          try simp only [List.set_cons_zero]
          refine wpAnyN_takeE (i := 6) rfl (by kernel_rfl) (by kernel_rfl) (by kernel_rfl) (by kernel_rfl) (fun _ _ _ _ h => h) rfl hS0 ?_
          apply Exists.intro
          refine ⟨fun w hSw => ?_, ?_⟩
          · obtain ⟨_, _, _, _, _, _, _, _, _, _, _⟩ := hSw
            go_simp
            try rfl
          try simp only [Act.put]
          try simp only [List.setIfInBounds_toArray]
          try simp only [List.set_cons_succ]
          try simp only [List.set_cons_zero]
          refine wpAnyN_takeE (i := 7) rfl (by kernel_rfl) (by kernel_rfl) (by kernel_rfl) (by kernel_rfl) (fun _ _ _ _ h => h) rfl hS0 ?_
          apply Exists.intro
          refine ⟨fun w hSw => ?_, ?_⟩
          · obtain ⟨_, _, _, _, _, _, _, _, _, _, _⟩ := hSw
            go_simp
            try rfl
          try simp only [Act.put]
          try simp only [List.setIfInBounds_toArray]
          try simp only [List.set_cons_succ]
          try simp only [List.set_cons_zero]
          refine wpAnyN_one (i := 8) (by kernel_rfl) rfl (fun K hK => ?_)
          go_simp
          go_at_call 14
          with_reducible refine (HEn.out _ hk0).mono ?_
          rintro e w11 ⟨u11, rfl, ht11, hb11⟩
          have hk11 := hk0.below hb11
          have hp11 := HPa.out _ ((Below.refl _ _).drew.trans (hb11.mono (Nat.le_refl _)))
          have HT11 := Lib.hid ht11
          obtain ⟨ka1, kn1, kc1, ca1, cn1, cc1, rfl⟩ := refAt_agg ht11
          dsimp only
          refine hK.out _ _ (fun _ => HSp.out _ (rf_cells hp11).2.2.2.2.2.1 hk11) ?_
          clear hK K
          refine wpAnyN_one (i := 9) (by kernel_rfl) rfl (fun K hK => ?_)
          go_simp
          have hk12 : K2 (w.heap.size + 1 + 1) (w.heap.size + 1 + 1) wr (w11.alloc (.cells #[.int .i64 ((mvT N q).kind : Int), .int .i64 ((mvT N q).hd.1 : Int), .int .i64 ((mvT N q).hd.2 : Int), .int .i64 ((mvT N q).bd.1 : Int), .int .i64 ((mvT N q).bd.2 : Int), .slice ka1 kn1 kc1, .slice ca1 cn1 cc1, .int .i64 ((mvT N q).e.1 : Int), .int .i64 ((mvT N q).e.2 : Int)] 39)) := hk11.below ((Below.refl _ _).alloc (Nat.le_refl _) _)
          have hp12 : (w11.alloc (.cells #[.int .i64 ((mvT N q).kind : Int), .int .i64 ((mvT N q).hd.1 : Int), .int .i64 ((mvT N q).hd.2 : Int), .int .i64 ((mvT N q).bd.1 : Int), .int .i64 ((mvT N q).bd.2 : Int), .slice ka1 kn1 kc1, .slice ca1 cn1 cc1, .int .i64 ((mvT N q).e.1 : Int), .int .i64 ((mvT N q).e.2 : Int)] 39)).heap[w.heap.size + 1 + 1]? = some (rfO 1 ((h1 : Int) + (N : Int)) ((h2 : Int) + (N : Int)) ((b1 : Int) + (N : Int)) ((b2 : Int) + (N : Int)) (.slice pa pn pc) (.slice da dn dc) ((e1 : Int) + (N : Int)) ((e2 : Int) + (N : Int))) := (Below.heap_alloc _ _ _ (by have := hk11.size; omega)).trans hp11
          refine hK.out _ _ (fun _ => HSp.out _ (rf_cells hp12).2.2.2.2.2.1 hk12) ?_
          clear hK K
          refine wpAnyN_one (i := 10) (by kernel_rfl) rfl (fun K hK => ?_)
          refine step_append_lies _ (by exact rfl) _ _ 37 (by exact rfl) Y.heap.size 39 i0 (.agg #[.int .i64 0, .int .i64 0, .int .i64 0, .int .i64 0, .int .i64 0, .slice none 0 0, .slice none 0 0, .int .i64 0, .int .i64 0]) 9 104 Tryz.underlying37 HI0.out HZ0.out HZ1.out HZ2.out rfl (by decide) _ us.length (us.flatMap partCells) (by exact rfl) (HOk.out _ hk12) ⟨w11.heap.size, 0, none⟩ 1 1 [.int .i64 ((mvT N q).kind : Int), .int .i64 ((mvT N q).hd.1 : Int), .int .i64 ((mvT N q).hd.2 : Int), .int .i64 ((mvT N q).bd.1 : Int), .int .i64 ((mvT N q).bd.2 : Int), .slice ka1 kn1 kc1, .slice ca1 cn1 cc1, .int .i64 ((mvT N q).e.1 : Int), .int .i64 ((mvT N q).e.2 : Int)] (by exact rfl) rfl (World.news_of_block (cs := #[.int .i64 ((mvT N q).kind : Int), .int .i64 ((mvT N q).hd.1 : Int), .int .i64 ((mvT N q).hd.2 : Int), .int .i64 ((mvT N q).bd.1 : Int), .int .i64 ((mvT N q).bd.2 : Int), .slice ka1 kn1 kc1, .slice ca1 cn1 cc1, .int .i64 ((mvT N q).e.1 : Int), .int .i64 ((mvT N q).e.2 : Int)]) (heap_alloc_new w11 _)) (by simp [Value.oneCell']) (by decide) hle1 hle2 (by have := hk12.size; omega) _ rfl ?_
          intro g13 cap13 w13 hown13 hgrow13 hor13 hlt13
          have hz12 := hk12.size
          have hp13 := (hgrow13.block (w.heap.size + 1 + 1) (by omega) hPO).trans hp12
          refine hK.out _ _ (fun _ => HKq.out _ _ hk12 hgrow13 (rf_cells hp13).2.2.2.2.2.1) ?_
          clear hK K
          refine wpAnyN_one (i := 11) (by kernel_rfl) rfl (fun K hK => ?_)
          go_simp
          refine hK.out _ _ (fun _ => HKq.out _ _ hk12 hgrow13 (rf_cells hp13).2.2.2.2.2.1) ?_
          clear hK K
          have s5 := (rf_cells hp13).2.2.2.2.2.1
          have v5 := rf_frozen hp13 5
          refine wpAnyN_one (i := 12) (by kernel_rfl) rfl (fun K hK => ?_)
          go_simp
          refine hK.out _ _ (fun hh => absurd rfl hh) ?_
          clear hK K
          have HK2x : Hid (K2 (w.heap.size + 1 + 1) (w.heap.size + 1 + 1) Y (w13.setCell ⟨w.heap.size + 1 + 1, 5, none⟩ (.slice (some ⟨g13, 0, none⟩) (us.length + 1) cap13))) := ((HK2.out.trans hk12).grown hgrow13 (fun q hq => (HOb.out q hq).1)).set 5 _
          have HOx2 : Hid ((w13.setCell ⟨w.heap.size + 1 + 1, 5, none⟩ (.slice (some ⟨g13, 0, none⟩) (us.length + 1) cap13)).ownsRow Y.heap.size 39 9 (.slice (some ⟨g13, 0, none⟩) (us.length + 1) cap13) (us ++ [Value.agg #[.int .i64 ((mvT N q).kind : Int), .int .i64 ((mvT N q).hd.1 : Int), .int .i64 ((mvT N q).hd.2 : Int), .int .i64 ((mvT N q).bd.1 : Int), .int .i64 ((mvT N q).bd.2 : Int), .slice ka1 kn1 kc1, .slice ca1 cn1 cc1, .int .i64 ((mvT N q).e.1 : Int), .int .i64 ((mvT N q).e.2 : Int)]]).length ((us ++ [Value.agg #[.int .i64 ((mvT N q).kind : Int), .int .i64 ((mvT N q).hd.1 : Int), .int .i64 ((mvT N q).hd.2 : Int), .int .i64 ((mvT N q).bd.1 : Int), .int .i64 ((mvT N q).bd.2 : Int), .slice ka1 kn1 kc1, .slice ca1 cn1 cc1, .int .i64 ((mvT N q).e.1 : Int), .int .i64 ((mvT N q).e.2 : Int)]]).flatMap partCells)) := by
            unfold Hid
            have h1 := ownsRow_setCell_below (a := ⟨w.heap.size + 1 + 1, 5, none⟩) hown13 (show w.heap.size + 1 + 1 < Y.heap.size by omega) (.slice (some ⟨g13, 0, none⟩) (us.length + 1) cap13)
            rw [List.length_append, List.flatMap_append]
            exact h1
          have HPx2 : Hid ((w13.setCell ⟨w.heap.size + 1 + 1, 5, none⟩ (.slice (some ⟨g13, 0, none⟩) (us.length + 1) cap13)).heap[w.heap.size + 1 + 1]? = some (rfO 1 ((h1 : Int) + (N : Int)) ((h2 : Int) + (N : Int)) ((b1 : Int) + (N : Int)) ((b2 : Int) + (N : Int)) (.slice (some ⟨g13, 0, none⟩) (us.length + 1) cap13) (.slice da dn dc) ((e1 : Int) + (N : Int)) ((e2 : Int) + (N : Int)))) := by
            have h1 := hp13
            unfold rfO at h1
            exact row_set h1
          have hs11 := hk11.size
          have hs12 : (w11.alloc (.cells #[.int .i64 ((mvT N q).kind : Int), .int .i64 ((mvT N q).hd.1 : Int), .int .i64 ((mvT N q).hd.2 : Int), .int .i64 ((mvT N q).bd.1 : Int), .int .i64 ((mvT N q).bd.2 : Int), .slice ka1 kn1 kc1, .slice ca1 cn1 cc1, .int .i64 ((mvT N q).e.1 : Int), .int .i64 ((mvT N q).e.2 : Int)] 39)).heap.size = w11.heap.size + 1 := by simp
          have HKx2 : Hid (refKs (fun q => Y.heap.size ≤ q ∧ ¬ (Value.slice (some ⟨g13, 0, none⟩) (us.length + 1) cap13).ownBlock = some q) (w13.setCell ⟨w.heap.size + 1 + 1, 5, none⟩ (.slice (some ⟨g13, 0, none⟩) (us.length + 1) cap13)) (mvK N (ts.take (k + 1))) (us ++ [Value.agg #[.int .i64 ((mvT N q).kind : Int), .int .i64 ((mvT N q).hd.1 : Int), .int .i64 ((mvT N q).hd.2 : Int), .int .i64 ((mvT N q).bd.1 : Int), .int .i64 ((mvT N q).bd.2 : Int), .slice ka1 kn1 kc1, .slice ca1 cn1 cc1, .int .i64 ((mvT N q).e.1 : Int), .int .i64 ((mvT N q).e.2 : Int)]])) := by
            have hgo : ∀ q, (Value.slice (some ⟨g13, 0, none⟩) (us.length + 1) cap13).ownBlock = some q → g13 = q := fun q e => Option.some.inj e
            unfold Hid
            rw [HTk.out]
            refine refKs_snoc (refKs.keep ?_ _ _ HKx.out) (refAt.keep ?_ _ _ HT11.out)
            · rintro q ⟨hq1, hq2⟩ hqz
              refine ⟨?_, hq1, fun e => ?_⟩
              · rw [Below.heap_setCell _ _ _ _ (show q ≠ w.heap.size + 1 + 1 by omega), hgrow13.block q (by omega) (fun e => hq2 e.symm)]
                exact hk12.block q hqz (by omega) (by omega)
              · have := hgo q e
                rcases hor13 with h1 | h1
                · exact hq2 (by rw [h1, this])
                · omega
            · intro q hq hqz
              have hq' : wr.heap.size ≤ q := hq
              have hqne : (Value.slice pa pn pc).ownBlock ≠ some q := by intro e; have := HOb.out _ e; omega
              refine ⟨?_, by omega, fun e => ?_⟩
              · rw [Below.heap_setCell _ _ _ _ (show q ≠ w.heap.size + 1 + 1 by omega), hgrow13.block q (by omega) (fun e => hqne e.symm)]
                exact Below.heap_alloc _ _ _ hqz
              · have := hgo q e
                rcases hor13 with h1 | h1
                · exact hqne (by rw [h1, this])
                · omega
          clear hown13 hgrow13 hor13 hlt13 hp13 hp12 hp11 hk12 hk11 ht11 HT11 hb11 hS0 s5 v5 HKq HSp HOk HPa hk0 hkp HEn hs11 hs12 hz12 HOb hPO hle1 hle2
          clear HK2 HOx HP2 HKx HBG HN9 HC5 HP0
          have HUl2 : Hid ((us ++ [Value.agg #[.int .i64 ((mvT N q).kind : Int), .int .i64 ((mvT N q).hd.1 : Int), .int .i64 ((mvT N q).hd.2 : Int), .int .i64 ((mvT N q).bd.1 : Int), .int .i64 ((mvT N q).bd.2 : Int), .slice ka1 kn1 kc1, .slice ca1 cn1 cc1, .int .i64 ((mvT N q).e.1 : Int), .int .i64 ((mvT N q).e.2 : Int)]]).length = k + 1) := by unfold Hid; rw [List.length_append, HUl.out]; rfl
          refine wpAnyN_done (by kernel_rfl) ?_ _
          go_wp2_with fail
          go_roundg (ts.length - (k + 1))
          case measure => omega
          case rel => exact ⟨k + 1, us ++ [Value.agg #[.int .i64 ((mvT N q).kind : Int), .int .i64 ((mvT N q).hd.1 : Int), .int .i64 ((mvT N q).hd.2 : Int), .int .i64 ((mvT N q).bd.1 : Int), .int .i64 ((mvT N q).bd.2 : Int), .slice ka1 kn1 kc1, .slice ca1 cn1 cc1, .int .i64 ((mvT N q).e.1 : Int), .int .i64 ((mvT N q).e.2 : Int)]], some ⟨g13, 0, none⟩, us.length + 1, cap13, by omega, rfl, by go_num, HUl2.out, HPx2.out, HOx2.out, HKx2.out, HK2x.out⟩
        · obtain rfl : k = ts.length := by omega
          have hP1 : wr.heap[w.heap.size + 1]? = some (rfO 0 0 0 0 0 (.slice none 0 0) (.slice none 0 0) 0 0) := (HK2.out.block (w.heap.size + 1) (by omega) (by omega) (by omega)).trans HY1.out
          have HP1 := Lib.hid hP1
          obtain ⟨x0, x1, x2, x3, x4, x5, x6, x7, x8⟩ := rf_cells hP0
          obtain ⟨a0, a1, a2, a3, a4, a5, a6, a7, a8⟩ := rf_cells HP2.out
          obtain ⟨b0, b1', b2', b3, b4, b5, b6, b7, b8⟩ := rf_cells hP1
          have f0 := rf_frozen hP1 0
          have f1 := rf_frozen hP1 1
          have f2 := rf_frozen hP1 2
          have f3 := rf_frozen hP1 3
          have f4 := rf_frozen hP1 4
          have f5 := rf_frozen hP1 5
          have f6 := rf_frozen hP1 6
          have f7 := rf_frozen hP1 7
          have f8 := rf_frozen hP1 8
          clear hP0 hP1
          go_wp2_with fail
          (try simp only [Exit.inBlock, Exit.then])
          refine bodyPost_ret (results_cell_row (P := Tryz.prog) Tryz.results14 _ _ (w.heap.size + 1) 39 _ (0, 0) _ rfl (row_set9 HP1.out) Tryz.underlying39 rfl (by kernel_rfl)) rfl ?_
          refine ⟨pa, pn, pc, da, dn, dc, us, rfl, ?_, own_base0 (own_set9 HOx.out (by omega)) (fun a h1 _ => by omega), ?_, ?_⟩
          · have h1 : wr.ownsRow X.heap.size 26 2 (.slice da dn dc) (cs.map (shP N)).length (spCells (cs.map (shP N))) := own_k2 HCY.out HK2.out (by omega) (by omega)
            exact own_base0 (own_set9 h1 (by omega)) (fun a h2 _ => by omega)
          · have h1 := HKx.out
            rw [List.take_length] at h1
            exact refKs.keep (fun q hq _ => ⟨heap_set9 (by omega), by omega⟩) _ _ h1
          · exact below_set9 ((HKY.out.trans HK2.out).base HBX.out (by omega) (by omega)) (by omega)
set_option maxRecDepth 100000 in
set_option maxHeartbeats 16000000 in
theorem moved_step0 (n0 N : Nat) (hN : N ≤ 1000000) (ts : List Tr) (cs : List Sp) (kd h1 h2 b1 b2 e1 e2 : Nat) (hkd : ¬ kd = 1) (hh1 : h1 ≤ 1000000) (hh2 : h2 ≤ 1000000) (hb1 : b1 ≤ 1000000) (hb2 : b2 ≤ 1000000) (_ : e1 ≤ 1000000) (_ : e2 ≤ 1000000) (hcb : ∀ c ∈ cs, c.1 ≤ 1000000 ∧ c.2 ≤ 1000000) (ka ca : Option Addr) (kc cc : Nat) (w : World) (hn0 : n0 ≤ w.heap.size) (hln : ts.length ≤ 1000000) (hcn : cs.length ≤ 1000000) (hca : cutsIn0 n0 w ca cs) (hat : kidMv n0 N w ka ts) :
    Calls Tryz.prog 14 #[.agg #[.int .i64 (kd : Int), .int .i64 (h1 : Int), .int .i64 (h2 : Int), .int .i64 (b1 : Int), .int .i64 (b2 : Int), .slice ka ts.length kc, .slice ca cs.length cc, .int .i64 (e1 : Int), .int .i64 (e2 : Int)], .int .i64 (N : Int)] w
      fun e w' => ∃ pa pn pc da dn dc us, e = .returned (.agg #[.int .i64 (kd : Int), .int .i64 ((h1 : Int) + (N : Int)), .int .i64 ((h2 : Int) + (N : Int)), .int .i64 ((b1 : Int) + (N : Int)), .int .i64 ((b2 : Int) + (N : Int)), .slice pa pn pc, .slice da dn dc, .int .i64 (0), .int .i64 (0)]) ∧
        ownS (fun q => w.heap.size ≤ q) w' 26 2 (.slice da dn dc) (cs.map (shP N)).length (spCells (cs.map (shP N))) ∧
        ownS (fun q => w.heap.size ≤ q) w' 39 9 (.slice pa pn pc) us.length (us.flatMap partCells) ∧ refKs (fun q => w.heap.size ≤ q) w' (mvK N ts) us ∧ Below w.heap.size w w' := by
  have HA := Lib.hid hat
  have HCa := Lib.hid hca
  have HCb := Lib.hid hcb
  obtain ⟨i0, hi0, hz0, hz1, hz2⟩ := info_parts Tryz.infoRp
  have HI0 := Lib.hid hi0
  have HZ0 := Lib.hid hz0
  have HZ1 := Lib.hid hz1
  have HZ2 := Lib.hid hz2
  obtain ⟨j0, gi0, gz0, gz1, gz2⟩ := info_parts Tryz.infoSpn
  have GI0 := Lib.hid gi0
  have GZ0 := Lib.hid gz0
  have GZ1 := Lib.hid gz1
  have GZ2 := Lib.hid gz2
  obtain ⟨X, hX⟩ : ∃ X, X = ((w.alloc (rfO kd h1 h2 b1 b2 (.slice ka ts.length kc) (.slice ca cs.length cc) e1 e2)).alloc (rfO 0 0 0 0 0 (.slice none 0 0) (.slice none 0 0) 0 0)).alloc (rfO kd ((h1 : Int) + (N : Int)) ((h2 : Int) + (N : Int)) ((b1 : Int) + (N : Int)) ((b2 : Int) + (N : Int)) (.slice none 0 0) (.slice none 0 0) (0) (0)) := ⟨_, rfl⟩
  have HzX : Hid (X.heap.size = w.heap.size + 3) := by unfold Hid; rw [hX]; simp
  have HBX : Hid (Below w.heap.size w X) := by unfold Hid; rw [hX]; exact (((Below.refl _ _).alloc (Nat.le_refl _) _).alloc (by simp) _).alloc (by simp; omega) _
  have HX0 : Hid (X.heap[w.heap.size]? = some (rfO kd h1 h2 b1 b2 (.slice ka ts.length kc) (.slice ca cs.length cc) e1 e2)) := by
    unfold Hid
    rw [hX]
    exact (Below.heap_alloc _ _ _ (by simp; omega)).trans (heap_alloc2_old w _ _)
  have HX1 : Hid (X.heap[w.heap.size + 1]? = some (rfO 0 0 0 0 0 (.slice none 0 0) (.slice none 0 0) 0 0)) := by
    unfold Hid
    rw [hX]
    exact (Below.heap_alloc _ _ _ (by simp)).trans (heap_alloc2_new w _ _)
  have HX2 : Hid (X.heap[w.heap.size + 1 + 1]? = some (rfO kd ((h1 : Int) + (N : Int)) ((h2 : Int) + (N : Int)) ((b1 : Int) + (N : Int)) ((b2 : Int) + (N : Int)) (.slice none 0 0) (.slice none 0 0) (0) (0))) := by
    unfold Hid
    rw [hX]
    have := heap_alloc_new ((w.alloc (rfO kd h1 h2 b1 b2 (.slice ka ts.length kc) (.slice ca cs.length cc) e1 e2)).alloc (rfO 0 0 0 0 0 (.slice none 0 0) (.slice none 0 0) 0 0)) (rfO kd ((h1 : Int) + (N : Int)) ((h2 : Int) + (N : Int)) ((b1 : Int) + (N : Int)) ((b2 : Int) + (N : Int)) (.slice none 0 0) (.slice none 0 0) (0) (0))
    simp only [World.size_alloc] at this
    exact this
  unfold rfO at hX
  clear hat hca hcb hi0 hz0 hz1 hz2 gi0 gz0 gz1 gz2
  go_enter Tryz.func14, Tryz.ntmps14
  go_upto_region 2 with fail
  rw [← hX]
  clear hX
  go_wp2_with fail
  go_loopg [6] cs.length (fun q x6 wr => ∃ (k : Nat) (da : Option Addr) (dn dc : Nat), k ≤ cs.length ∧ q = cs.length - k ∧ x6 = .int .i64 (k : Int) ∧ Hid (dn = k) ∧ Hid (wr.heap[w.heap.size + 1 + 1]? = some (rfO kd ((h1 : Int) + (N : Int)) ((h2 : Int) + (N : Int)) ((b1 : Int) + (N : Int)) ((b2 : Int) + (N : Int)) (.slice none 0 0) (.slice da dn dc) (0) (0))) ∧
    Hid (wr.ownsRow X.heap.size 26 2 (.slice da dn dc) k (spCells ((cs.take k).map (shP N)))) ∧ Hid (K2 (w.heap.size + 1 + 1) (w.heap.size + 1 + 1) X wr))
  case atStart => exact ⟨0, none, 0, 0, Nat.zero_le _, rfl, rfl, rfl, HX2.out, World.ownsRow_nil _ _ _ _, K2.refl _ _ _⟩
  case round =>
    obtain ⟨k, da, dn, dc, hk, rfl, rfl, HDn, HP2, HOx, HK2⟩ := hrel
    have hzX := HzX.out
    have hzr := HK2.out.size
    have hP0 : wr.heap[w.heap.size]? = some (rfO kd h1 h2 b1 b2 (.slice ka ts.length kc) (.slice ca cs.length cc) e1 e2) := (HK2.out.block w.heap.size (by omega) (by omega) (by omega)).trans HX0.out
    have c6 := (rf_cells hP0).2.2.2.2.2.2.1
    have HC6 := Lib.hid c6
    have hbg : ∀ q, q < n0 → wr.heap[q]? = w.heap[q]? := fun q hq => (HK2.out.block q (by omega) (by omega) (by omega)).trans (HBX.out.block q (by omega))
    have HBG := Lib.hid hbg
    by_cases hlt : k < cs.length
    · obtain ⟨g, x, y, rfl, hg, hxy, hx0, hy0⟩ := HCa.out k hlt
      have hgx : cs[k] = (x, y) := by have := List.getElem?_eq_some_iff.1 hxy; exact this.2
      have hxb := HCb.out cs[k] (List.getElem_mem hlt)
      rw [hgx] at hxb
      obtain ⟨hxb1, hxb2⟩ := hxb
      simp only at hxb1 hxb2
      have HTk : Hid ((cs.take (k + 1)).map (shP N) = (cs.take k).map (shP N) ++ [(N + x, N + y)]) := by
        unfold Hid
        rw [List.take_succ_eq_append_getElem hlt, hgx, List.map_append]
        rfl
      have HX0c := Lib.hid ((World.cell?_of_block (a := ⟨g, k * 2, none⟩) (hbg g hg)).trans hx0)
      have HY0c := Lib.hid ((World.cell?_of_block (a := ⟨g, k * 2 + 1, none⟩) (hbg g hg)).trans hy0)
      clear hP0 hbg hx0 hy0 hxy hgx
      have hk0 : K2 (w.heap.size + 1 + 1) (w.heap.size + 1 + 1) wr wr.drew := (K2.refl _ _ _).below (Below.refl _ _).drew
      have HPa : Hid (∀ W, Below wr.heap.size wr W → W.heap[w.heap.size + 1 + 1]? = some (rfO kd ((h1 : Int) + (N : Int)) ((h2 : Int) + (N : Int)) ((b1 : Int) + (N : Int)) ((b2 : Int) + (N : Int)) (.slice none 0 0) (.slice da dn dc) (0) (0))) := fun W hb => (hb.block (w.heap.size + 1 + 1) (by omega)).trans HP2.out
      have HOb : Hid (∀ q, (Value.slice da dn dc).ownBlock = some q → X.heap.size ≤ q ∧ q < wr.heap.size) := HOx.out.lt
      have HOk : Hid (∀ W, K2 (w.heap.size + 1 + 1) (w.heap.size + 1 + 1) wr W → W.ownsRow X.heap.size 26 2 (.slice da dn dc) k (spCells ((cs.take k).map (shP N)))) := fun W hk => own_k2 HOx.out hk (by omega) (by omega)
      have HSp : Hid (∀ W, W.cell? ⟨w.heap.size + 1 + 1, 6, none⟩ = some (.slice da dn dc) → K2 (w.heap.size + 1 + 1) (w.heap.size + 1 + 1) wr W → (W.cell? ⟨w.heap.size + 1 + 1, 6, none⟩ = some (.slice da dn dc) ∧ W.cell? ⟨w.heap.size, 6, none⟩ = some (.slice (some ⟨g, 0, none⟩) cs.length cc) ∧ W.cell? ⟨g, k * 2, none⟩ = some (.int .i64 (x : Int)) ∧ W.cell? ⟨g, k * 2 + 1, none⟩ = some (.int .i64 (y : Int)))) := fun W h5 hk => by
        have o1 := World.cell?_of_block (a := ⟨w.heap.size, 6, none⟩) (hk.block w.heap.size (by omega) (by omega) (by omega))
        have o2 := hk.block g (by omega) (by omega) (by omega)
        exact ⟨h5, o1.trans HC6.out, (World.cell?_of_block (a := ⟨g, k * 2, none⟩) o2).trans HX0c.out, (World.cell?_of_block (a := ⟨g, k * 2 + 1, none⟩) o2).trans HY0c.out⟩
      have HKq : Hid (∀ W W', K2 (w.heap.size + 1 + 1) (w.heap.size + 1 + 1) wr W → W.grownBy W' (Value.slice da dn dc).ownBlock → W'.cell? ⟨w.heap.size + 1 + 1, 6, none⟩ = some (.slice da dn dc) → (W'.cell? ⟨w.heap.size + 1 + 1, 6, none⟩ = some (.slice da dn dc) ∧ W'.cell? ⟨w.heap.size, 6, none⟩ = some (.slice (some ⟨g, 0, none⟩) cs.length cc) ∧ W'.cell? ⟨g, k * 2, none⟩ = some (.int .i64 (x : Int)) ∧ W'.cell? ⟨g, k * 2 + 1, none⟩ = some (.int .i64 (y : Int)))) := fun W W' hk hg5 h5 => by
        have hz := hk.size
        have o1 := World.cell?_of_block (a := ⟨w.heap.size, 6, none⟩) ((hg5.block w.heap.size (by omega) (by intro e; have := HOb.out _ e.symm; omega)).trans (hk.block w.heap.size (by omega) (by omega) (by omega)))
        have o2 := (hg5.block g (by omega) (by intro e; have := HOb.out _ e.symm; omega)).trans (hk.block g (by omega) (by omega) (by omega))
        exact ⟨h5, o1.trans HC6.out, (World.cell?_of_block (a := ⟨g, k * 2, none⟩) o2).trans HX0c.out, (World.cell?_of_block (a := ⟨g, k * 2 + 1, none⟩) o2).trans HY0c.out⟩
      have hkp := (rf_cells (HPa.out _ (Below.refl _ _))).2.2.2.2.2.2.1
      have hle1 : k + 1 ≤ maxLen := by unfold maxLen; omega
      have hle2 : (k + 1) * 16 ≤ 140737488355328 := by omega
      have hPO : some (w.heap.size + 1 + 1) ≠ (Value.slice da dn dc).ownBlock := by intro e; have := HOb.out _ e.symm; omega
      have hw1 : IntKind.i64.wrap ((x : Int) + (N : Int)) = (x : Int) + (N : Int) := IntWalk.i64_in _ (by omega)
      have hw2 : IntKind.i64.wrap ((y : Int) + (N : Int)) = (y : Int) + (N : Int) := IntWalk.i64_in _ (by omega)
      go_wp2_with fail
      clear c6
      refine wp_region_last (fun W' => W'.cell? ⟨w.heap.size + 1 + 1, 6, none⟩ = some (.slice da dn dc) ∧ W'.cell? ⟨w.heap.size, 6, none⟩ = some (.slice (some ⟨g, 0, none⟩) cs.length cc) ∧ W'.cell? ⟨g, k * 2, none⟩ = some (.int .i64 (x : Int)) ∧ W'.cell? ⟨g, k * 2 + 1, none⟩ = some (.int .i64 (y : Int))) 22 (by kernel_rfl) ?_
      have hS0 := HSp.out wr.drew hkp hk0
      refine wpAnyN_takeE (i := 0) rfl (by kernel_rfl) (by kernel_rfl) (by kernel_rfl) (by kernel_rfl) (fun _ _ _ _ h => h) rfl hS0 ?_
      apply Exists.intro
      refine ⟨fun w hSw => ?_, ?_⟩
      · obtain ⟨_, _, _, _⟩ := hSw
        go_simp
        try rfl
      try simp only [Act.put]
      try simp only [List.setIfInBounds_toArray]
      try simp only [List.set_cons_succ]
      try simp only [List.set_cons_zero]
      refine wpAnyN_takeE (i := 1) rfl (by kernel_rfl) (by kernel_rfl) (by kernel_rfl) (by kernel_rfl) (fun _ _ _ _ h => h) rfl hS0 ?_
      apply Exists.intro
      refine ⟨fun w hSw => ?_, ?_⟩
      · obtain ⟨_, _, _, _⟩ := hSw
        go_simp
        try rfl
      try simp only [Act.put]
      try simp only [List.setIfInBounds_toArray]
      try simp only [List.set_cons_succ]
      try simp only [List.set_cons_zero]
      refine wpAnyN_takeE (i := 2) rfl (by kernel_rfl) (by kernel_rfl) (by kernel_rfl) (by kernel_rfl) (fun _ _ _ _ h => h) rfl hS0 ?_
      apply Exists.intro
      refine ⟨fun w hSw => ?_, ?_⟩
      · obtain ⟨_, _, _, _⟩ := hSw
        go_simp
        try rfl
      try simp only [Act.put]
      try simp only [List.setIfInBounds_toArray]
      try simp only [List.set_cons_succ]
      try simp only [List.set_cons_zero]
      refine wpAnyN_takeE (i := 3) rfl (by kernel_rfl) (by kernel_rfl) (by kernel_rfl) (by kernel_rfl) (fun _ _ _ _ h => h) rfl hS0 ?_
      apply Exists.intro
      refine ⟨fun w hSw => ?_, ?_⟩
      · obtain ⟨_, _, _, _⟩ := hSw
        go_simp
        try rfl
      try simp only [Act.put]
      try simp only [List.setIfInBounds_toArray]
      try simp only [List.set_cons_succ]
      try simp only [List.set_cons_zero]
      refine wpAnyN_takeE (i := 4) rfl (by kernel_rfl) (by kernel_rfl) (by kernel_rfl) (by kernel_rfl) (fun _ _ _ _ h => h) rfl hS0 ?_
      apply Exists.intro
      refine ⟨fun w hSw => ?_, ?_⟩
      · obtain ⟨_, _, _, _⟩ := hSw
        go_simp
        try rfl
      try simp only [Act.put]
      try simp only [List.setIfInBounds_toArray]
      try simp only [List.set_cons_succ]
      try simp only [List.set_cons_zero]
      refine wpAnyN_takeE (i := 5) rfl (by kernel_rfl) (by kernel_rfl) (by kernel_rfl) (by kernel_rfl) (fun _ _ _ _ h => h) rfl hS0 ?_
      apply Exists.intro
      refine ⟨fun w hSw => ?_, ?_⟩
      · obtain ⟨_, _, _, _⟩ := hSw
        go_simp
        try rfl
      try simp only [Act.put]
      try simp only [List.setIfInBounds_toArray]
      try simp only [List.set_cons_succ]
      try simp only [List.set_cons_zero]
      refine wpAnyN_takeE (i := 6) rfl (by kernel_rfl) (by kernel_rfl) (by kernel_rfl) (by kernel_rfl) (fun _ _ _ _ h => h) rfl hS0 ?_
      apply Exists.intro
      refine ⟨fun w hSw => ?_, ?_⟩
      · obtain ⟨_, _, _, _⟩ := hSw
        go_simp
        try rfl
      try simp only [Act.put]
      try simp only [List.setIfInBounds_toArray]
      try simp only [List.set_cons_succ]
      try simp only [List.set_cons_zero]
      refine wpAnyN_takeE (i := 7) rfl (by kernel_rfl) (by kernel_rfl) (by kernel_rfl) (by kernel_rfl) (fun _ _ _ _ h => h) rfl hS0 ?_
      apply Exists.intro
      refine ⟨fun w hSw => ?_, ?_⟩
      · obtain ⟨_, _, _, _⟩ := hSw
        go_simp
        try rfl
      try simp only [Act.put]
      try simp only [List.setIfInBounds_toArray]
      try simp only [List.set_cons_succ]
      try simp only [List.set_cons_zero]
      refine wpAnyN_takeE (i := 8) rfl (by kernel_rfl) (by kernel_rfl) (by kernel_rfl) (by kernel_rfl) (fun _ _ _ _ h => h) rfl hS0 ?_
      apply Exists.intro
      refine ⟨fun w hSw => ?_, ?_⟩
      · obtain ⟨_, _, _, _⟩ := hSw
        go_simp
        try rfl
      try simp only [Act.put]
      try simp only [List.setIfInBounds_toArray]
      try simp only [List.set_cons_succ]
      try simp only [List.set_cons_zero]
      refine wpAnyN_takeE (i := 9) rfl (by kernel_rfl) (by kernel_rfl) (by kernel_rfl) (by kernel_rfl) (fun _ _ _ _ h => h) rfl hS0 ?_
      apply Exists.intro
      refine ⟨fun w hSw => ?_, ?_⟩
      · obtain ⟨_, _, _, _⟩ := hSw
        go_simp
        try rfl
      try simp only [Act.put]
      try simp only [List.setIfInBounds_toArray]
      try simp only [List.set_cons_succ]
      try simp only [List.set_cons_zero]
      refine wpAnyN_takeE (i := 10) rfl (by kernel_rfl) (by kernel_rfl) (by kernel_rfl) (by kernel_rfl) (fun _ _ _ _ h => h) rfl hS0 ?_
      apply Exists.intro
      refine ⟨fun w hSw => ?_, ?_⟩
      · obtain ⟨_, _, _, _⟩ := hSw
        go_simp
        try rfl
      try simp only [Act.put]
      try simp only [List.setIfInBounds_toArray]
      try simp only [List.set_cons_succ]
      try simp only [List.set_cons_zero]
      refine wpAnyN_takeE (i := 11) rfl (by kernel_rfl) (by kernel_rfl) (by kernel_rfl) (by kernel_rfl) (fun _ _ _ _ h => h) rfl hS0 ?_
      apply Exists.intro
      refine ⟨fun w hSw => ?_, ?_⟩
      · obtain ⟨_, _, _, _⟩ := hSw
        go_simp
        try rfl
      try simp only [Act.put]
      try simp only [List.setIfInBounds_toArray]
      try simp only [List.set_cons_succ]
      try simp only [List.set_cons_zero]
      refine wpAnyN_takeE (i := 12) rfl (by kernel_rfl) (by kernel_rfl) (by kernel_rfl) (by kernel_rfl) (fun _ _ _ _ h => h) rfl hS0 ?_
      apply Exists.intro
      refine ⟨fun w hSw => ?_, ?_⟩
      · obtain ⟨_, _, _, _⟩ := hSw
        go_simp
        try rfl
      try simp only [Act.put]
      try simp only [List.setIfInBounds_toArray]
      try simp only [List.set_cons_succ]
      try simp only [List.set_cons_zero]
      refine wpAnyN_takeE (i := 13) rfl (by kernel_rfl) (by kernel_rfl) (by kernel_rfl) (by kernel_rfl) (fun _ _ _ _ h => h) rfl hS0 ?_
      apply Exists.intro
      refine ⟨fun w hSw => ?_, ?_⟩
      · obtain ⟨_, _, _, _⟩ := hSw
        go_simp
        try rfl
      try simp only [Act.put]
      try simp only [List.setIfInBounds_toArray]
      try simp only [List.set_cons_succ]
      try simp only [List.set_cons_zero]
      refine wpAnyN_takeE (i := 14) rfl (by kernel_rfl) (by kernel_rfl) (by kernel_rfl) (by kernel_rfl) (fun _ _ _ _ h => h) rfl hS0 ?_
      apply Exists.intro
      refine ⟨fun w hSw => ?_, ?_⟩
      · obtain ⟨_, _, _, _⟩ := hSw
        go_simp
        try rfl
      try simp only [Act.put]
      try simp only [List.setIfInBounds_toArray]
      try simp only [List.set_cons_succ]
      try simp only [List.set_cons_zero]
      refine wpAnyN_takeE (i := 15) rfl (by kernel_rfl) (by kernel_rfl) (by kernel_rfl) (by kernel_rfl) (fun _ _ _ _ h => h) rfl hS0 ?_
      apply Exists.intro
      refine ⟨fun w hSw => ?_, ?_⟩
      · obtain ⟨_, _, _, _⟩ := hSw
        go_simp
        try rfl
      try simp only [Act.put]
      try simp only [List.setIfInBounds_toArray]
      try simp only [List.set_cons_succ]
      try simp only [List.set_cons_zero]
      refine wpAnyN_takeE (i := 16) rfl (by kernel_rfl) (by kernel_rfl) (by kernel_rfl) (by kernel_rfl) (fun _ _ _ _ h => h) rfl hS0 ?_
      apply Exists.intro
      refine ⟨fun w hSw => ?_, ?_⟩
      · obtain ⟨_, _, _, _⟩ := hSw
        go_simp
        try rfl
      try simp only [Act.put]
      try simp only [List.setIfInBounds_toArray]
      try simp only [List.set_cons_succ]
      try simp only [List.set_cons_zero]
      refine wpAnyN_takeE (i := 17) rfl (by kernel_rfl) (by kernel_rfl) (by kernel_rfl) (by kernel_rfl) (fun _ _ _ _ h => h) rfl hS0 ?_
      apply Exists.intro
      refine ⟨fun w hSw => ?_, ?_⟩
      · obtain ⟨_, _, _, _⟩ := hSw
        go_simp
        try rfl
      try simp only [Act.put]
      try simp only [List.setIfInBounds_toArray]
      try simp only [List.set_cons_succ]
      try simp only [List.set_cons_zero]
      refine wpAnyN_takeE (i := 18) rfl (by kernel_rfl) (by kernel_rfl) (by kernel_rfl) (by kernel_rfl) (fun _ _ _ _ h => h) rfl hS0 ?_
      apply Exists.intro
      refine ⟨fun w hSw => ?_, ?_⟩
      · obtain ⟨_, _, _, _⟩ := hSw
        go_simp
        try rfl
      try simp only [Act.put]
      try simp only [List.setIfInBounds_toArray]
      try simp only [List.set_cons_succ]
      try simp only [List.set_cons_zero]
      refine wpAnyN_one (i := 19) (by kernel_rfl) rfl (fun K hK => ?_)
      go_simp
      have hk12 : K2 (w.heap.size + 1 + 1) (w.heap.size + 1 + 1) wr (wr.alloc (.cells #[.int .i64 ((x : Int) + (N : Int)), .int .i64 ((y : Int) + (N : Int))] 26)).drew := (K2.refl _ _ _).below ((Below.refl _ _).alloc (Nat.le_refl _) _).drew
      have hp12 : (wr.alloc (.cells #[.int .i64 ((x : Int) + (N : Int)), .int .i64 ((y : Int) + (N : Int))] 26)).drew.heap[w.heap.size + 1 + 1]? = some (rfO kd ((h1 : Int) + (N : Int)) ((h2 : Int) + (N : Int)) ((b1 : Int) + (N : Int)) ((b2 : Int) + (N : Int)) (.slice none 0 0) (.slice da dn dc) (0) (0)) := HPa.out _ ((Below.refl _ _).alloc (Nat.le_refl _) _).drew
      refine hK.out _ _ (fun _ => HSp.out _ (rf_cells hp12).2.2.2.2.2.2.1 hk12) ?_
      clear hK K
      refine wpAnyN_one (i := 20) (by kernel_rfl) rfl (fun K hK => ?_)
      refine step_append_lies _ (by exact rfl) _ _ 28 (by exact rfl) X.heap.size 26 j0 (.agg #[.int .i64 0, .int .i64 0]) 2 16 Tryz.underlying28 GI0.out GZ0.out GZ1.out GZ2.out rfl (by decide) _ k (spCells ((cs.take k).map (shP N))) (by exact rfl) (HOk.out _ hk12) ⟨wr.heap.size, 0, none⟩ 1 1 [.int .i64 ((x : Int) + (N : Int)), .int .i64 ((y : Int) + (N : Int))] (by exact rfl) rfl (World.news_of_block (cs := #[.int .i64 ((x : Int) + (N : Int)), .int .i64 ((y : Int) + (N : Int))]) (heap_alloc_new wr _)) (by simp [Value.oneCell']) (by decide) hle1 hle2 (Nat.le_trans hzr hk12.size) _ rfl ?_
      intro g13 cap13 w13 hown13 hgrow13 hor13 hlt13
      have hz12 := hk12.size
      have hp13 := (hgrow13.block (w.heap.size + 1 + 1) (by omega) hPO).trans hp12
      refine hK.out _ _ (fun _ => HKq.out _ _ hk12 hgrow13 (rf_cells hp13).2.2.2.2.2.2.1) ?_
      clear hK K
      refine wpAnyN_one (i := 21) (by kernel_rfl) rfl (fun K hK => ?_)
      go_simp
      refine hK.out _ _ (fun _ => HKq.out _ _ hk12 hgrow13 (rf_cells hp13).2.2.2.2.2.2.1) ?_
      clear hK K
      have s6 := (rf_cells hp13).2.2.2.2.2.2.1
      have v6 := rf_frozen hp13 6
      refine wpAnyN_one (i := 22) (by kernel_rfl) rfl (fun K hK => ?_)
      go_simp
      refine hK.out _ _ (fun hh => absurd rfl hh) ?_
      clear hK K
      have HK2x : Hid (K2 (w.heap.size + 1 + 1) (w.heap.size + 1 + 1) X (w13.setCell ⟨w.heap.size + 1 + 1, 6, none⟩ (.slice (some ⟨g13, 0, none⟩) (k + 1) cap13))) := ((HK2.out.trans hk12).grown hgrow13 (fun q hq => (HOb.out q hq).1)).set 6 _
      have HOx2 : Hid ((w13.setCell ⟨w.heap.size + 1 + 1, 6, none⟩ (.slice (some ⟨g13, 0, none⟩) (k + 1) cap13)).ownsRow X.heap.size 26 2 (.slice (some ⟨g13, 0, none⟩) (k + 1) cap13) (k + 1) (spCells ((cs.take (k + 1)).map (shP N)))) := by
        unfold Hid
        have h1 := ownsRow_setCell_below (a := ⟨w.heap.size + 1 + 1, 6, none⟩) hown13 (show w.heap.size + 1 + 1 < X.heap.size by omega) (.slice (some ⟨g13, 0, none⟩) (k + 1) cap13)
        rw [HTk.out, spCells_snoc]
        have hxc : ((N + x : Nat) : Int) = (x : Int) + (N : Int) := by omega
        have hyc : ((N + y : Nat) : Int) = (y : Int) + (N : Int) := by omega
        show World.ownsRow _ _ _ _ _ _ (_ ++ [.int .i64 ((N + x : Nat) : Int), .int .i64 ((N + y : Nat) : Int)])
        rw [hxc, hyc]
        exact h1
      have HPx2 : Hid ((w13.setCell ⟨w.heap.size + 1 + 1, 6, none⟩ (.slice (some ⟨g13, 0, none⟩) (k + 1) cap13)).heap[w.heap.size + 1 + 1]? = some (rfO kd ((h1 : Int) + (N : Int)) ((h2 : Int) + (N : Int)) ((b1 : Int) + (N : Int)) ((b2 : Int) + (N : Int)) (.slice none 0 0) (.slice (some ⟨g13, 0, none⟩) (k + 1) cap13) (0) (0))) := by
        have h1 := hp13
        unfold rfO at h1
        exact row_set h1
      clear hown13 hgrow13 hor13 hlt13 hp13 hp12 hk12 hS0 s6 v6 HKq HSp HOk HPa hk0 hkp hz12 HOb hPO hle1 hle2 hw1 hw2
      clear HK2 HOx HP2 HBG HC6 HX0c HY0c HTk
      refine wpAnyN_done (by kernel_rfl) ?_ _
      go_wp2_with fail
      go_roundg (cs.length - (k + 1))
      case measure => omega
      case rel => exact ⟨k + 1, some ⟨g13, 0, none⟩, k + 1, cap13, by omega, rfl, by go_num, rfl, HPx2.out, HOx2.out, HK2x.out⟩
    · obtain rfl : k = cs.length := by omega
      have HCs : Hid (wr.ownsRow X.heap.size 26 2 (.slice da dn dc) (cs.map (shP N)).length (spCells (cs.map (shP N)))) := by
        unfold Hid
        have h1 := HOx.out
        rw [List.take_length] at h1
        rw [List.length_map]
        exact h1
      obtain ⟨x0, x1, x2, x3, x4, x5, x6, x7, x8⟩ := rf_cells hP0
      have hkd' : ((kd : Int) == 1) = false := beq_no (by omega)
      obtain ⟨Y, hY⟩ : ∃ Y, Y = wr := ⟨_, rfl⟩
      have HzY : Hid (Y.heap.size = wr.heap.size) := by unfold Hid; rw [hY]
      have HKY : Hid (K2 (w.heap.size + 1 + 1) (w.heap.size + 1 + 1) X Y) := by unfold Hid; rw [hY]; exact HK2.out
      have HPY : Hid (Y.heap[w.heap.size + 1 + 1]? = some (rfO kd ((h1 : Int) + (N : Int)) ((h2 : Int) + (N : Int)) ((b1 : Int) + (N : Int)) ((b2 : Int) + (N : Int)) (.slice none 0 0) (.slice da dn dc) (0) (0))) := by unfold Hid; rw [hY]; exact HP2.out
      have HCY : Hid (Y.ownsRow X.heap.size 26 2 (.slice da dn dc) (cs.map (shP N)).length (spCells (cs.map (shP N)))) := by unfold Hid; rw [hY]; exact HCs.out
      clear hP0 c6 hbg
      go_upto_region 8 with fail
      rw [← hY]
      clear hY x0 x1 x2 x3 x4 x5 x6 x7 x8
      have hzY : X.heap.size ≤ Y.heap.size := by have := HzY.out; omega
      have HzYX := Lib.hid hzY
      clear HK2 HP2 HOx HCs HzY HDn hzr
      go_wp2_with fail
      go_loopg [7] ts.length (fun q x7 wr => ∃ (k : Nat) (us : List Value) (pa : Option Addr) (pn pc : Nat), k ≤ ts.length ∧ q = ts.length - k ∧ x7 = .int .i64 (k : Int) ∧ Hid (us.length = k) ∧ Hid (wr.heap[w.heap.size + 1 + 1]? = some (rfO kd ((h1 : Int) + (N : Int)) ((h2 : Int) + (N : Int)) ((b1 : Int) + (N : Int)) ((b2 : Int) + (N : Int)) (.slice pa pn pc) (.slice da dn dc) (0) (0))) ∧
        Hid (wr.ownsRow Y.heap.size 39 9 (.slice pa pn pc) us.length (us.flatMap partCells)) ∧ Hid (refKs (fun q => Y.heap.size ≤ q ∧ ¬ (Value.slice pa pn pc).ownBlock = some q) wr (mvK N (ts.take k)) us) ∧ Hid (K2 (w.heap.size + 1 + 1) (w.heap.size + 1 + 1) Y wr))
      case atStart => exact ⟨0, [], none, 0, 0, Nat.zero_le _, rfl, rfl, rfl, HPY.out, World.ownsRow_nil _ _ _ _, by unfold Hid; rw [List.take_zero]; exact refKs_nil _ _, K2.refl _ _ _⟩
      case round =>
        have HY0 : Hid (Y.heap[w.heap.size]? = some (rfO kd h1 h2 b1 b2 (.slice ka ts.length kc) (.slice ca cs.length cc) e1 e2)) := (HKY.out.block w.heap.size (by omega) (by omega) (by omega)).trans HX0.out
        have HY1 : Hid (Y.heap[w.heap.size + 1]? = some (rfO 0 0 0 0 0 (.slice none 0 0) (.slice none 0 0) 0 0)) := (HKY.out.block (w.heap.size + 1) (by omega) (by omega) (by omega)).trans HX1.out
        have HBY : Hid (∀ q, q < n0 → Y.heap[q]? = w.heap[q]?) := fun q hq => (HKY.out.block q (by omega) (by omega) (by omega)).trans (HBX.out.block q (by omega))
        obtain ⟨k, us, pa, pn, pc, hk, rfl, rfl, HUl, HP2, HOx, HKx, HK2⟩ := hrel
        have hzX := HzX.out
        have hzYX := HzYX.out
        have hzr := HK2.out.size
        have hP0 : wr.heap[w.heap.size]? = some (rfO kd h1 h2 b1 b2 (.slice ka ts.length kc) (.slice ca cs.length cc) e1 e2) := (HK2.out.block w.heap.size (by omega) (by omega) (by omega)).trans HY0.out
        have HP0 := Lib.hid hP0
        by_cases hlt : k < ts.length
        · obtain ⟨g, ga, gn, gc, ga2, gn2, gc2, rfl, hg, h9, hcall⟩ := HA.out k hlt
          have c5 := (rf_cells hP0).2.2.2.2.2.1
          have HC5 := Lib.hid c5
          have hbg : ∀ q, q < n0 → wr.heap[q]? = w.heap[q]? := fun q hq => (HK2.out.block q (by omega) (by omega) (by omega)).trans (HBY.out q hq)
          have HBG := Lib.hid hbg
          have HN9 := Lib.hid (nine_open (h9.block (hbg g hg)))
          obtain ⟨q, hq⟩ : ∃ q, q = ts[k] := ⟨_, rfl⟩
          have HTk : Hid (mvK N (ts.take (k + 1)) = mvK N (ts.take k) ++ [mvT N q]) := by unfold Hid; rw [hq, List.take_succ_eq_append_getElem hlt, mvK_app]
          rw [← hq] at HN9 hcall
          have HCl := Lib.hid hcall
          clear hP0 hbg hcall h9 hq
          have HEn : Hid (∀ W, K2 (w.heap.size + 1 + 1) (w.heap.size + 1 + 1) wr W → Calls Tryz.prog 14 #[.agg #[.int .i64 (q.kind : Int), .int .i64 (q.hd.1 : Int), .int .i64 (q.hd.2 : Int), .int .i64 (q.bd.1 : Int), .int .i64 (q.bd.2 : Int), .slice ga gn gc, .slice ga2 gn2 gc2, .int .i64 (q.e.1 : Int), .int .i64 (q.e.2 : Int)], .int .i64 (N : Int)] W (mvPost N q W)) := fun W hkW => HCl.out W (fun q hq => (hkW.block q (by omega) (by omega) (by omega)).trans (HBG.out q hq)) (by have := hkW.size; omega)
          unfold mvPost at HEn
          have hk0 : K2 (w.heap.size + 1 + 1) (w.heap.size + 1 + 1) wr wr.drew := (K2.refl _ _ _).below (Below.refl _ _).drew
          have HPa : Hid (∀ W, Below wr.heap.size wr W → W.heap[w.heap.size + 1 + 1]? = some (rfO kd ((h1 : Int) + (N : Int)) ((h2 : Int) + (N : Int)) ((b1 : Int) + (N : Int)) ((b2 : Int) + (N : Int)) (.slice pa pn pc) (.slice da dn dc) (0) (0))) := fun W hb => (hb.block (w.heap.size + 1 + 1) (by omega)).trans HP2.out
          have HOb : Hid (∀ q, (Value.slice pa pn pc).ownBlock = some q → Y.heap.size ≤ q ∧ q < wr.heap.size) := HOx.out.lt
          have HOk : Hid (∀ W, K2 (w.heap.size + 1 + 1) (w.heap.size + 1 + 1) wr W → W.ownsRow Y.heap.size 39 9 (.slice pa pn pc) us.length (us.flatMap partCells)) := fun W hk => own_k2 HOx.out hk (by omega) (by omega)
          have HSp : Hid (∀ W, W.cell? ⟨w.heap.size + 1 + 1, 5, none⟩ = some (.slice pa pn pc) → K2 (w.heap.size + 1 + 1) (w.heap.size + 1 + 1) wr W → (W.cell? ⟨w.heap.size + 1 + 1, 5, none⟩ = some (.slice pa pn pc) ∧ W.cell? ⟨w.heap.size, 5, none⟩ = some (.slice (some ⟨g, 0, none⟩) ts.length kc) ∧ W.cell? ⟨g, k * 9, none⟩ = some (.int .i64 (q.kind : Int)) ∧ W.cell? ⟨g, k * 9 + 1, none⟩ = some (.int .i64 (q.hd.1 : Int)) ∧ W.cell? ⟨g, k * 9 + 2, none⟩ = some (.int .i64 (q.hd.2 : Int)) ∧ W.cell? ⟨g, k * 9 + 3, none⟩ = some (.int .i64 (q.bd.1 : Int)) ∧ W.cell? ⟨g, k * 9 + 4, none⟩ = some (.int .i64 (q.bd.2 : Int)) ∧ W.cell? ⟨g, k * 9 + 5, none⟩ = some (.slice ga gn gc) ∧ W.cell? ⟨g, k * 9 + 6, none⟩ = some (.slice ga2 gn2 gc2) ∧ W.cell? ⟨g, k * 9 + 7, none⟩ = some (.int .i64 (q.e.1 : Int)) ∧ W.cell? ⟨g, k * 9 + 8, none⟩ = some (.int .i64 (q.e.2 : Int)))) := fun W h5 hk => by
            have o1 := World.cell?_of_block (a := ⟨w.heap.size, 5, none⟩) (hk.block w.heap.size (by omega) (by omega) (by omega))
            have o2 := hk.block g (by omega) (by omega) (by omega)
            obtain ⟨p0, p1, p2, p3, p4, p5, p6, p7, p8⟩ := HN9.out
            refine ⟨h5, o1.trans HC5.out, ?_⟩
            exact ⟨(World.cell?_of_block (a := ⟨g, k * 9, none⟩) o2).trans p0, (World.cell?_of_block (a := ⟨g, k * 9 + 1, none⟩) o2).trans p1, (World.cell?_of_block (a := ⟨g, k * 9 + 2, none⟩) o2).trans p2, (World.cell?_of_block (a := ⟨g, k * 9 + 3, none⟩) o2).trans p3, (World.cell?_of_block (a := ⟨g, k * 9 + 4, none⟩) o2).trans p4,
              (World.cell?_of_block (a := ⟨g, k * 9 + 5, none⟩) o2).trans p5, (World.cell?_of_block (a := ⟨g, k * 9 + 6, none⟩) o2).trans p6, (World.cell?_of_block (a := ⟨g, k * 9 + 7, none⟩) o2).trans p7, (World.cell?_of_block (a := ⟨g, k * 9 + 8, none⟩) o2).trans p8⟩
          have HKq : Hid (∀ W W', K2 (w.heap.size + 1 + 1) (w.heap.size + 1 + 1) wr W → W.grownBy W' (Value.slice pa pn pc).ownBlock → W'.cell? ⟨w.heap.size + 1 + 1, 5, none⟩ = some (.slice pa pn pc) → (W'.cell? ⟨w.heap.size + 1 + 1, 5, none⟩ = some (.slice pa pn pc) ∧ W'.cell? ⟨w.heap.size, 5, none⟩ = some (.slice (some ⟨g, 0, none⟩) ts.length kc) ∧ W'.cell? ⟨g, k * 9, none⟩ = some (.int .i64 (q.kind : Int)) ∧ W'.cell? ⟨g, k * 9 + 1, none⟩ = some (.int .i64 (q.hd.1 : Int)) ∧ W'.cell? ⟨g, k * 9 + 2, none⟩ = some (.int .i64 (q.hd.2 : Int)) ∧ W'.cell? ⟨g, k * 9 + 3, none⟩ = some (.int .i64 (q.bd.1 : Int)) ∧ W'.cell? ⟨g, k * 9 + 4, none⟩ = some (.int .i64 (q.bd.2 : Int)) ∧ W'.cell? ⟨g, k * 9 + 5, none⟩ = some (.slice ga gn gc) ∧ W'.cell? ⟨g, k * 9 + 6, none⟩ = some (.slice ga2 gn2 gc2) ∧ W'.cell? ⟨g, k * 9 + 7, none⟩ = some (.int .i64 (q.e.1 : Int)) ∧ W'.cell? ⟨g, k * 9 + 8, none⟩ = some (.int .i64 (q.e.2 : Int)))) := fun W W' hk hg5 h5 => by
            have hz := hk.size
            have o1 := World.cell?_of_block (a := ⟨w.heap.size, 5, none⟩) ((hg5.block w.heap.size (by omega) (by intro e; have := HOb.out _ e.symm; omega)).trans (hk.block w.heap.size (by omega) (by omega) (by omega)))
            have o2 := (hg5.block g (by omega) (by intro e; have := HOb.out _ e.symm; omega)).trans (hk.block g (by omega) (by omega) (by omega))
            obtain ⟨p0, p1, p2, p3, p4, p5, p6, p7, p8⟩ := HN9.out
            refine ⟨h5, o1.trans HC5.out, ?_⟩
            exact ⟨(World.cell?_of_block (a := ⟨g, k * 9, none⟩) o2).trans p0, (World.cell?_of_block (a := ⟨g, k * 9 + 1, none⟩) o2).trans p1, (World.cell?_of_block (a := ⟨g, k * 9 + 2, none⟩) o2).trans p2, (World.cell?_of_block (a := ⟨g, k * 9 + 3, none⟩) o2).trans p3, (World.cell?_of_block (a := ⟨g, k * 9 + 4, none⟩) o2).trans p4,
              (World.cell?_of_block (a := ⟨g, k * 9 + 5, none⟩) o2).trans p5, (World.cell?_of_block (a := ⟨g, k * 9 + 6, none⟩) o2).trans p6, (World.cell?_of_block (a := ⟨g, k * 9 + 7, none⟩) o2).trans p7, (World.cell?_of_block (a := ⟨g, k * 9 + 8, none⟩) o2).trans p8⟩
          have hkp := (rf_cells (HPa.out _ (Below.refl _ _))).2.2.2.2.2.1
          have hle1 : us.length + 1 ≤ maxLen := by have := HUl.out; unfold maxLen; omega
          have hle2 : (us.length + 1) * 104 ≤ 140737488355328 := by have := HUl.out; omega
          have hPO : some (w.heap.size + 1 + 1) ≠ (Value.slice pa pn pc).ownBlock := by intro e; have := HOb.out _ e.symm; omega
          clear HCl
          go_wp2_with fail
          clear c5
          refine wp_region_last (fun W' => W'.cell? ⟨w.heap.size + 1 + 1, 5, none⟩ = some (.slice pa pn pc) ∧ W'.cell? ⟨w.heap.size, 5, none⟩ = some (.slice (some ⟨g, 0, none⟩) ts.length kc) ∧ W'.cell? ⟨g, k * 9, none⟩ = some (.int .i64 (q.kind : Int)) ∧ W'.cell? ⟨g, k * 9 + 1, none⟩ = some (.int .i64 (q.hd.1 : Int)) ∧ W'.cell? ⟨g, k * 9 + 2, none⟩ = some (.int .i64 (q.hd.2 : Int)) ∧ W'.cell? ⟨g, k * 9 + 3, none⟩ = some (.int .i64 (q.bd.1 : Int)) ∧ W'.cell? ⟨g, k * 9 + 4, none⟩ = some (.int .i64 (q.bd.2 : Int)) ∧ W'.cell? ⟨g, k * 9 + 5, none⟩ = some (.slice ga gn gc) ∧ W'.cell? ⟨g, k * 9 + 6, none⟩ = some (.slice ga2 gn2 gc2) ∧ W'.cell? ⟨g, k * 9 + 7, none⟩ = some (.int .i64 (q.e.1 : Int)) ∧ W'.cell? ⟨g, k * 9 + 8, none⟩ = some (.int .i64 (q.e.2 : Int))) 12 (by kernel_rfl) ?_
          have hS0 := HSp.out wr.drew hkp hk0
          refine wpAnyN_takeE (i := 0) rfl (by kernel_rfl) (by kernel_rfl) (by kernel_rfl) (by kernel_rfl) (fun _ _ _ _ h => h) rfl hS0 ?_
          apply Exists.intro
          refine ⟨fun w hSw => ?_, ?_⟩
          · obtain ⟨_, _, _, _, _, _, _, _, _, _, _⟩ := hSw
            go_simp
            try rfl
          try simp only [Act.put]
          try simp only [List.setIfInBounds_toArray]
          try simp only [List.set_cons_succ]
          try simp only [List.set_cons_zero]
          refine wpAnyN_takeE (i := 1) rfl (by kernel_rfl) (by kernel_rfl) (by kernel_rfl) (by kernel_rfl) (fun _ _ _ _ h => h) rfl hS0 ?_
          apply Exists.intro
          refine ⟨fun w hSw => ?_, ?_⟩
          · obtain ⟨_, _, _, _, _, _, _, _, _, _, _⟩ := hSw
            go_simp
            try rfl
          try simp only [Act.put]
          try simp only [List.setIfInBounds_toArray]
          try simp only [List.set_cons_succ]
          try simp only [List.set_cons_zero]
          refine wpAnyN_takeE (i := 2) rfl (by kernel_rfl) (by kernel_rfl) (by kernel_rfl) (by kernel_rfl) (fun _ _ _ _ h => h) rfl hS0 ?_
          apply Exists.intro
          refine ⟨fun w hSw => ?_, ?_⟩
          · obtain ⟨_, _, _, _, _, _, _, _, _, _, _⟩ := hSw
            go_simp
            try rfl
          try simp only [Act.put]
          try simp only [List.setIfInBounds_toArray]
          try simp only [List.set_cons_succ]
          try simp only [List.set_cons_zero]
          refine wpAnyN_takeE (i := 3) rfl (by kernel_rfl) (by kernel_rfl) (by kernel_rfl) (by kernel_rfl) (fun _ _ _ _ h => h) rfl hS0 ?_
          apply Exists.intro
          refine ⟨fun w hSw => ?_, ?_⟩
          · obtain ⟨_, _, _, _, _, _, _, _, _, _, _⟩ := hSw
            go_simp
            try rfl
          try simp only [Act.put]
          try simp only [List.setIfInBounds_toArray]
          try simp only [List.set_cons_succ]
          try simp only [List.set_cons_zero]
          refine wpAnyN_takeE (i := 4) rfl (by kernel_rfl) (by kernel_rfl) (by kernel_rfl) (by kernel_rfl) (fun _ _ _ _ h => h) rfl hS0 ?_
          apply Exists.intro
          refine ⟨fun w hSw => ?_, ?_⟩
          · obtain ⟨_, _, _, _, _, _, _, _, _, _, _⟩ := hSw
            go_simp
            try rfl
          try simp only [Act.put]
          try simp only [List.setIfInBounds_toArray]
          try simp only [List.set_cons_succ]
          try simp only [List.set_cons_zero]
          refine wpAnyN_takeE (i := 5) rfl (by kernel_rfl) (by kernel_rfl) (by kernel_rfl) (by kernel_rfl) (fun _ _ _ _ h => h) rfl hS0 ?_
          apply Exists.intro
          refine ⟨fun w hSw => ?_, ?_⟩
          · obtain ⟨_, _, _, _, _, _, _, _, _, _, _⟩ := hSw
            go_simp
            try rfl
          try simp only [Act.put]
          try simp only [List.setIfInBounds_toArray]
          try simp only [List.set_cons_succ]
          try simp only [List.set_cons_zero]
          refine wpAnyN_takeE (i := 6) rfl (by kernel_rfl) (by kernel_rfl) (by kernel_rfl) (by kernel_rfl) (fun _ _ _ _ h => h) rfl hS0 ?_
          apply Exists.intro
          refine ⟨fun w hSw => ?_, ?_⟩
          · obtain ⟨_, _, _, _, _, _, _, _, _, _, _⟩ := hSw
            go_simp
            try rfl
          try simp only [Act.put]
          try simp only [List.setIfInBounds_toArray]
          try simp only [List.set_cons_succ]
          try simp only [List.set_cons_zero]
          refine wpAnyN_takeE (i := 7) rfl (by kernel_rfl) (by kernel_rfl) (by kernel_rfl) (by kernel_rfl) (fun _ _ _ _ h => h) rfl hS0 ?_
          apply Exists.intro
          refine ⟨fun w hSw => ?_, ?_⟩
          · obtain ⟨_, _, _, _, _, _, _, _, _, _, _⟩ := hSw
            go_simp
            try rfl
          try simp only [Act.put]
          try simp only [List.setIfInBounds_toArray]
          try simp only [List.set_cons_succ]
          try simp only [List.set_cons_zero]
          refine wpAnyN_one (i := 8) (by kernel_rfl) rfl (fun K hK => ?_)
          go_simp
          go_at_call 14
          with_reducible refine (HEn.out _ hk0).mono ?_
          rintro e w11 ⟨u11, rfl, ht11, hb11⟩
          have hk11 := hk0.below hb11
          have hp11 := HPa.out _ ((Below.refl _ _).drew.trans (hb11.mono (Nat.le_refl _)))
          have HT11 := Lib.hid ht11
          obtain ⟨ka1, kn1, kc1, ca1, cn1, cc1, rfl⟩ := refAt_agg ht11
          dsimp only
          refine hK.out _ _ (fun _ => HSp.out _ (rf_cells hp11).2.2.2.2.2.1 hk11) ?_
          clear hK K
          refine wpAnyN_one (i := 9) (by kernel_rfl) rfl (fun K hK => ?_)
          go_simp
          have hk12 : K2 (w.heap.size + 1 + 1) (w.heap.size + 1 + 1) wr (w11.alloc (.cells #[.int .i64 ((mvT N q).kind : Int), .int .i64 ((mvT N q).hd.1 : Int), .int .i64 ((mvT N q).hd.2 : Int), .int .i64 ((mvT N q).bd.1 : Int), .int .i64 ((mvT N q).bd.2 : Int), .slice ka1 kn1 kc1, .slice ca1 cn1 cc1, .int .i64 ((mvT N q).e.1 : Int), .int .i64 ((mvT N q).e.2 : Int)] 39)) := hk11.below ((Below.refl _ _).alloc (Nat.le_refl _) _)
          have hp12 : (w11.alloc (.cells #[.int .i64 ((mvT N q).kind : Int), .int .i64 ((mvT N q).hd.1 : Int), .int .i64 ((mvT N q).hd.2 : Int), .int .i64 ((mvT N q).bd.1 : Int), .int .i64 ((mvT N q).bd.2 : Int), .slice ka1 kn1 kc1, .slice ca1 cn1 cc1, .int .i64 ((mvT N q).e.1 : Int), .int .i64 ((mvT N q).e.2 : Int)] 39)).heap[w.heap.size + 1 + 1]? = some (rfO kd ((h1 : Int) + (N : Int)) ((h2 : Int) + (N : Int)) ((b1 : Int) + (N : Int)) ((b2 : Int) + (N : Int)) (.slice pa pn pc) (.slice da dn dc) (0) (0)) := (Below.heap_alloc _ _ _ (by have := hk11.size; omega)).trans hp11
          refine hK.out _ _ (fun _ => HSp.out _ (rf_cells hp12).2.2.2.2.2.1 hk12) ?_
          clear hK K
          refine wpAnyN_one (i := 10) (by kernel_rfl) rfl (fun K hK => ?_)
          refine step_append_lies _ (by exact rfl) _ _ 37 (by exact rfl) Y.heap.size 39 i0 (.agg #[.int .i64 0, .int .i64 0, .int .i64 0, .int .i64 0, .int .i64 0, .slice none 0 0, .slice none 0 0, .int .i64 0, .int .i64 0]) 9 104 Tryz.underlying37 HI0.out HZ0.out HZ1.out HZ2.out rfl (by decide) _ us.length (us.flatMap partCells) (by exact rfl) (HOk.out _ hk12) ⟨w11.heap.size, 0, none⟩ 1 1 [.int .i64 ((mvT N q).kind : Int), .int .i64 ((mvT N q).hd.1 : Int), .int .i64 ((mvT N q).hd.2 : Int), .int .i64 ((mvT N q).bd.1 : Int), .int .i64 ((mvT N q).bd.2 : Int), .slice ka1 kn1 kc1, .slice ca1 cn1 cc1, .int .i64 ((mvT N q).e.1 : Int), .int .i64 ((mvT N q).e.2 : Int)] (by exact rfl) rfl (World.news_of_block (cs := #[.int .i64 ((mvT N q).kind : Int), .int .i64 ((mvT N q).hd.1 : Int), .int .i64 ((mvT N q).hd.2 : Int), .int .i64 ((mvT N q).bd.1 : Int), .int .i64 ((mvT N q).bd.2 : Int), .slice ka1 kn1 kc1, .slice ca1 cn1 cc1, .int .i64 ((mvT N q).e.1 : Int), .int .i64 ((mvT N q).e.2 : Int)]) (heap_alloc_new w11 _)) (by simp [Value.oneCell']) (by decide) hle1 hle2 (by have := hk12.size; omega) _ rfl ?_
          intro g13 cap13 w13 hown13 hgrow13 hor13 hlt13
          have hz12 := hk12.size
          have hp13 := (hgrow13.block (w.heap.size + 1 + 1) (by omega) hPO).trans hp12
          refine hK.out _ _ (fun _ => HKq.out _ _ hk12 hgrow13 (rf_cells hp13).2.2.2.2.2.1) ?_
          clear hK K
          refine wpAnyN_one (i := 11) (by kernel_rfl) rfl (fun K hK => ?_)
          go_simp
          refine hK.out _ _ (fun _ => HKq.out _ _ hk12 hgrow13 (rf_cells hp13).2.2.2.2.2.1) ?_
          clear hK K
          have s5 := (rf_cells hp13).2.2.2.2.2.1
          have v5 := rf_frozen hp13 5
          refine wpAnyN_one (i := 12) (by kernel_rfl) rfl (fun K hK => ?_)
          go_simp
          refine hK.out _ _ (fun hh => absurd rfl hh) ?_
          clear hK K
          have HK2x : Hid (K2 (w.heap.size + 1 + 1) (w.heap.size + 1 + 1) Y (w13.setCell ⟨w.heap.size + 1 + 1, 5, none⟩ (.slice (some ⟨g13, 0, none⟩) (us.length + 1) cap13))) := ((HK2.out.trans hk12).grown hgrow13 (fun q hq => (HOb.out q hq).1)).set 5 _
          have HOx2 : Hid ((w13.setCell ⟨w.heap.size + 1 + 1, 5, none⟩ (.slice (some ⟨g13, 0, none⟩) (us.length + 1) cap13)).ownsRow Y.heap.size 39 9 (.slice (some ⟨g13, 0, none⟩) (us.length + 1) cap13) (us ++ [Value.agg #[.int .i64 ((mvT N q).kind : Int), .int .i64 ((mvT N q).hd.1 : Int), .int .i64 ((mvT N q).hd.2 : Int), .int .i64 ((mvT N q).bd.1 : Int), .int .i64 ((mvT N q).bd.2 : Int), .slice ka1 kn1 kc1, .slice ca1 cn1 cc1, .int .i64 ((mvT N q).e.1 : Int), .int .i64 ((mvT N q).e.2 : Int)]]).length ((us ++ [Value.agg #[.int .i64 ((mvT N q).kind : Int), .int .i64 ((mvT N q).hd.1 : Int), .int .i64 ((mvT N q).hd.2 : Int), .int .i64 ((mvT N q).bd.1 : Int), .int .i64 ((mvT N q).bd.2 : Int), .slice ka1 kn1 kc1, .slice ca1 cn1 cc1, .int .i64 ((mvT N q).e.1 : Int), .int .i64 ((mvT N q).e.2 : Int)]]).flatMap partCells)) := by
            unfold Hid
            have h1 := ownsRow_setCell_below (a := ⟨w.heap.size + 1 + 1, 5, none⟩) hown13 (show w.heap.size + 1 + 1 < Y.heap.size by omega) (.slice (some ⟨g13, 0, none⟩) (us.length + 1) cap13)
            rw [List.length_append, List.flatMap_append]
            exact h1
          have HPx2 : Hid ((w13.setCell ⟨w.heap.size + 1 + 1, 5, none⟩ (.slice (some ⟨g13, 0, none⟩) (us.length + 1) cap13)).heap[w.heap.size + 1 + 1]? = some (rfO kd ((h1 : Int) + (N : Int)) ((h2 : Int) + (N : Int)) ((b1 : Int) + (N : Int)) ((b2 : Int) + (N : Int)) (.slice (some ⟨g13, 0, none⟩) (us.length + 1) cap13) (.slice da dn dc) (0) (0))) := by
            have h1 := hp13
            unfold rfO at h1
            exact row_set h1
          have hs11 := hk11.size
          have hs12 : (w11.alloc (.cells #[.int .i64 ((mvT N q).kind : Int), .int .i64 ((mvT N q).hd.1 : Int), .int .i64 ((mvT N q).hd.2 : Int), .int .i64 ((mvT N q).bd.1 : Int), .int .i64 ((mvT N q).bd.2 : Int), .slice ka1 kn1 kc1, .slice ca1 cn1 cc1, .int .i64 ((mvT N q).e.1 : Int), .int .i64 ((mvT N q).e.2 : Int)] 39)).heap.size = w11.heap.size + 1 := by simp
          have HKx2 : Hid (refKs (fun q => Y.heap.size ≤ q ∧ ¬ (Value.slice (some ⟨g13, 0, none⟩) (us.length + 1) cap13).ownBlock = some q) (w13.setCell ⟨w.heap.size + 1 + 1, 5, none⟩ (.slice (some ⟨g13, 0, none⟩) (us.length + 1) cap13)) (mvK N (ts.take (k + 1))) (us ++ [Value.agg #[.int .i64 ((mvT N q).kind : Int), .int .i64 ((mvT N q).hd.1 : Int), .int .i64 ((mvT N q).hd.2 : Int), .int .i64 ((mvT N q).bd.1 : Int), .int .i64 ((mvT N q).bd.2 : Int), .slice ka1 kn1 kc1, .slice ca1 cn1 cc1, .int .i64 ((mvT N q).e.1 : Int), .int .i64 ((mvT N q).e.2 : Int)]])) := by
            have hgo : ∀ q, (Value.slice (some ⟨g13, 0, none⟩) (us.length + 1) cap13).ownBlock = some q → g13 = q := fun q e => Option.some.inj e
            unfold Hid
            rw [HTk.out]
            refine refKs_snoc (refKs.keep ?_ _ _ HKx.out) (refAt.keep ?_ _ _ HT11.out)
            · rintro q ⟨hq1, hq2⟩ hqz
              refine ⟨?_, hq1, fun e => ?_⟩
              · rw [Below.heap_setCell _ _ _ _ (show q ≠ w.heap.size + 1 + 1 by omega), hgrow13.block q (by omega) (fun e => hq2 e.symm)]
                exact hk12.block q hqz (by omega) (by omega)
              · have := hgo q e
                rcases hor13 with h1 | h1
                · exact hq2 (by rw [h1, this])
                · omega
            · intro q hq hqz
              have hq' : wr.heap.size ≤ q := hq
              have hqne : (Value.slice pa pn pc).ownBlock ≠ some q := by intro e; have := HOb.out _ e; omega
              refine ⟨?_, by omega, fun e => ?_⟩
              · rw [Below.heap_setCell _ _ _ _ (show q ≠ w.heap.size + 1 + 1 by omega), hgrow13.block q (by omega) (fun e => hqne e.symm)]
                exact Below.heap_alloc _ _ _ hqz
              · have := hgo q e
                rcases hor13 with h1 | h1
                · exact hqne (by rw [h1, this])
                · omega
          clear hown13 hgrow13 hor13 hlt13 hp13 hp12 hp11 hk12 hk11 ht11 HT11 hb11 hS0 s5 v5 HKq HSp HOk HPa hk0 hkp HEn hs11 hs12 hz12 HOb hPO hle1 hle2
          clear HK2 HOx HP2 HKx HBG HN9 HC5 HP0
          have HUl2 : Hid ((us ++ [Value.agg #[.int .i64 ((mvT N q).kind : Int), .int .i64 ((mvT N q).hd.1 : Int), .int .i64 ((mvT N q).hd.2 : Int), .int .i64 ((mvT N q).bd.1 : Int), .int .i64 ((mvT N q).bd.2 : Int), .slice ka1 kn1 kc1, .slice ca1 cn1 cc1, .int .i64 ((mvT N q).e.1 : Int), .int .i64 ((mvT N q).e.2 : Int)]]).length = k + 1) := by unfold Hid; rw [List.length_append, HUl.out]; rfl
          refine wpAnyN_done (by kernel_rfl) ?_ _
          go_wp2_with fail
          go_roundg (ts.length - (k + 1))
          case measure => omega
          case rel => exact ⟨k + 1, us ++ [Value.agg #[.int .i64 ((mvT N q).kind : Int), .int .i64 ((mvT N q).hd.1 : Int), .int .i64 ((mvT N q).hd.2 : Int), .int .i64 ((mvT N q).bd.1 : Int), .int .i64 ((mvT N q).bd.2 : Int), .slice ka1 kn1 kc1, .slice ca1 cn1 cc1, .int .i64 ((mvT N q).e.1 : Int), .int .i64 ((mvT N q).e.2 : Int)]], some ⟨g13, 0, none⟩, us.length + 1, cap13, by omega, rfl, by go_num, HUl2.out, HPx2.out, HOx2.out, HKx2.out, HK2x.out⟩
        · obtain rfl : k = ts.length := by omega
          have hP1 : wr.heap[w.heap.size + 1]? = some (rfO 0 0 0 0 0 (.slice none 0 0) (.slice none 0 0) 0 0) := (HK2.out.block (w.heap.size + 1) (by omega) (by omega) (by omega)).trans HY1.out
          have HP1 := Lib.hid hP1
          obtain ⟨x0, x1, x2, x3, x4, x5, x6, x7, x8⟩ := rf_cells hP0
          obtain ⟨a0, a1, a2, a3, a4, a5, a6, a7, a8⟩ := rf_cells HP2.out
          obtain ⟨b0, b1', b2', b3, b4, b5, b6, b7, b8⟩ := rf_cells hP1
          have f0 := rf_frozen hP1 0
          have f1 := rf_frozen hP1 1
          have f2 := rf_frozen hP1 2
          have f3 := rf_frozen hP1 3
          have f4 := rf_frozen hP1 4
          have f5 := rf_frozen hP1 5
          have f6 := rf_frozen hP1 6
          have f7 := rf_frozen hP1 7
          have f8 := rf_frozen hP1 8
          clear hP0 hP1
          go_wp2_with fail
          (try simp only [Exit.inBlock, Exit.then])
          refine bodyPost_ret (results_cell_row (P := Tryz.prog) Tryz.results14 _ _ (w.heap.size + 1) 39 _ (0, 0) _ rfl (row_set9 HP1.out) Tryz.underlying39 rfl (by kernel_rfl)) rfl ?_
          refine ⟨pa, pn, pc, da, dn, dc, us, rfl, ?_, own_base0 (own_set9 HOx.out (by omega)) (fun a h1 _ => by omega), ?_, ?_⟩
          · have h1 : wr.ownsRow X.heap.size 26 2 (.slice da dn dc) (cs.map (shP N)).length (spCells (cs.map (shP N))) := own_k2 HCY.out HK2.out (by omega) (by omega)
            exact own_base0 (own_set9 h1 (by omega)) (fun a h2 _ => by omega)
          · have h1 := HKx.out
            rw [List.take_length] at h1
            exact refKs.keep (fun q hq _ => ⟨heap_set9 (by omega), by omega⟩) _ _ h1
          · exact below_set9 ((HKY.out.trans HK2.out).base HBX.out (by omega) (by omega)) (by omega)
theorem castN (N x : Nat) : ((N + x : Nat) : Int) = (x : Int) + (N : Int) := by omega
theorem mvcuts_at {S : Nat → Prop} {w : World} {n0 : Nat} {ca : Option Addr} {cn cc : Nat} {cs : List Sp} (h : ownS S w 26 2 (.slice ca cn cc) cs.length (spCells cs)) (hS : ∀ q, S q → q < n0) : cn = cs.length ∧ cutsIn0 n0 w ca cs := by
  have hown := h.2
  obtain ⟨ao, cap, e, h1, h2, h3⟩ := (rowSp_owned h.1).at
  obtain ⟨rfl, rfl, rfl⟩ := Value.slice.inj e
  refine ⟨rfl, fun i hi => ?_⟩
  obtain ⟨g, rfl, hg, c0, c1⟩ := h3 i hi
  exact ⟨g, cs[i].1, cs[i].2, rfl, hS g (hown g rfl), by rw [List.getElem?_eq_getElem hi], c0, c1⟩
theorem moved_any (n0 N M : Nat) (hN : N ≤ 1000000) (hM : M ≤ 1000000) (n : Nat) : ∀ (t : Tr), SizeOf.sizeOf t ≤ n → countT t ≤ 1000000 → bdT M t → ∀ (w : World) (u : Value), n0 ≤ w.heap.size → refAt (fun q => q < n0) w t u → Calls Tryz.prog 14 #[u, .int .i64 (N : Int)] w (mvPost N t w) := by
  induction n with
  | zero => intro t ht; cases t; rw [Tr.mk.sizeOf_spec] at ht; omega
  | succ n ih =>
    intro t ht hcb hbd w u hn0 hu
    obtain ⟨⟨q1, q2, q3, q4, q5, q6, q7, q8, q9⟩, hbk⟩ := bdT_open hbd
    obtain ⟨ka, kn, kc, ca, cn, cc, us, rfl, hcs, ho, hk⟩ := refAt_open hu
    obtain ⟨rfl, _, _, hat⟩ := refkids_at ho hk
    obtain ⟨rfl, hca⟩ := mvcuts_at hcs (fun q hq => hq)
    have hC := countT_eq t
    have hL := lenK_le t.kids
    have hcb' : ∀ c ∈ t.cuts, c.1 ≤ 1000000 ∧ c.2 ≤ 1000000 := fun c hc => by have := q8 c hc; omega
    have hkid : kidMv n0 N w ka t.kids := fun i h => by
      obtain ⟨g, a, m, c, a2, n2, c2, e, _, hg1, h9, htr⟩ := hat i h
      have h1 := countK_drop t.kids i h
      have h2 := countK_le t.kids i
      exact ⟨g, a, m, c, a2, n2, c2, e, hg1, h9, fun W' hq hz => ih t.kids[i] (by have := size_kid i h; omega) (by omega) (bdK_get hbk i h) W' _ hz (refAt.keep (fun q hS _ => ⟨hq q hS, hS⟩) _ _ htr)⟩
    have hout : ∀ (w' : World) (u' : Value) (pa pn pc da dn dc us'), u' = partV t.kind (shP N t.hd) (shP N t.bd) (.slice pa pn pc) (.slice da dn dc) (if t.kind = 1 then shP N t.e else t.e) →
        ownS (fun q => w.heap.size ≤ q) w' 26 2 (.slice da dn dc) (t.cuts.map (shP N)).length (spCells (t.cuts.map (shP N))) →
        ownS (fun q => w.heap.size ≤ q) w' 39 9 (.slice pa pn pc) us'.length (us'.flatMap partCells) → refKs (fun q => w.heap.size ≤ q) w' (mvK N t.kids) us' → refAt (fun q => w.heap.size ≤ q) w' (mvT N t) u' := by
      intro w' u' pa pn pc da dn dc us' hu' h1 h2 h3
      cases t
      simp only [mvT]
      unfold refAt
      exact ⟨pa, pn, pc, da, dn, dc, us', hu', h1, h2, h3⟩
    by_cases hk1 : t.kind = 1
    · rw [hk1]
      refine (moved_step1 n0 N hN t.kids t.cuts t.hd.1 t.hd.2 t.bd.1 t.bd.2 t.e.1 t.e.2 (by omega) (by omega) (by omega) (by omega) (by omega) (by omega) hcb' ka ca kc cc w hn0 (by omega) (by omega) hca hkid).mono ?_
      rintro e w' ⟨pa, pn, pc, da, dn, dc, us', rfl, h1, h2, h3, h4⟩
      refine ⟨_, rfl, hout w' _ pa pn pc da dn dc us' ?_ h1 h2 h3, h4⟩
      rw [hk1, if_pos rfl]
      simp only [partV, shP, castN]
      rfl
    · have he := q9 hk1
      refine (moved_step0 n0 N hN t.kids t.cuts t.kind t.hd.1 t.hd.2 t.bd.1 t.bd.2 t.e.1 t.e.2 hk1 (by omega) (by omega) (by omega) (by omega) (by omega) (by omega) hcb' ka ca kc cc w hn0 (by omega) (by omega) hca hkid).mono ?_
      rintro e w' ⟨pa, pn, pc, da, dn, dc, us', rfl, h1, h2, h3, h4⟩
      refine ⟨_, rfl, hout w' _ pa pn pc da dn dc us' ?_ h1 h2 h3, h4⟩
      rw [if_neg hk1, he]
      simp only [partV, shP, castN]
      rfl
end Go.Proofs.YtfgppamhbchhcaaGreatDoor
