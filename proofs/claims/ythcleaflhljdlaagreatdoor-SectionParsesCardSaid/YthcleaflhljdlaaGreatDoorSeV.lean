/- Contracts of the document's layer 15: Same; of the law's own specOf. -/
import Derived.Test.YthcleaflhljdlaaGreatDoorSeJ
import Derived.Test.YthcleaflhljdlaaGreatDoorSeK
namespace Go.Proofs.YthcleaflhljdlaaGreatDoor
open Go Go.RowKit

/-- The document's spec in memory. -/
def BoxR (W : World) (S : Nat) (vp : Value) (k : Int) (vn : Value) (c : Bool) (a b : Int) : Prop :=
  W.heap[S]? = some (.cells #[vp, .int .i64 k, vn, .bool c, .int .i64 a, .int .i64 b] 30 (0, 0))
theorem BoxR.lt {W : World} {S : Nat} {vp : Value} {k : Int} {vn : Value} {c : Bool} {a b : Int} (h : BoxR W S vp k vn c a b) : S < W.heap.size := (Array.getElem?_eq_some_iff.1 h).1
theorem BoxR.block {W W' : World} {S : Nat} {vp : Value} {k : Int} {vn : Value} {c : Bool} {a b : Int} (h : BoxR W S vp k vn c a b) (hb : W'.heap[S]? = W.heap[S]?) : BoxR W' S vp k vn c a b := hb.trans h
theorem BoxR.below {W W' : World} {S : Nat} {vp : Value} {k : Int} {vn : Value} {c : Bool} {a b : Int} (h : BoxR W S vp k vn c a b) (hb : Below W.heap.size W W') : BoxR W' S vp k vn c a b := h.block (hb.block S h.lt)
theorem BoxR.c {W : World} {S : Nat} {vp : Value} {k : Int} {vn : Value} {c : Bool} {a b : Int} (h : BoxR W S vp k vn c a b) :
    W.cell? ⟨S, 0, none⟩ = some vp ∧ W.cell? ⟨S, 1, none⟩ = some (.int .i64 k) ∧ W.cell? ⟨S, 2, none⟩ = some vn ∧ W.cell? ⟨S, 3, none⟩ = some (.bool c) ∧ W.cell? ⟨S, 4, none⟩ = some (.int .i64 a) ∧ W.cell? ⟨S, 5, none⟩ = some (.int .i64 b) := by
  unfold BoxR at h
  refine ⟨?_, ?_, ?_, ?_, ?_, ?_⟩ <;> simp [World.cell?, h]
theorem BoxR.f {W : World} {S : Nat} {vp : Value} {k : Int} {vn : Value} {c : Bool} {a b : Int} (h : BoxR W S vp k vn c a b) (j : Nat) : W.frozen? ⟨S, j, none⟩ = false := by
  unfold BoxR at h
  simp [World.frozen?, h]
set_option maxRecDepth 100000 in
set_option maxHeartbeats 4000000 in
theorem specOf_any (s : Spc) (a1 a2 : Option Addr) (c1 c2 : Nat) (w : World) :
    Calls Tryz.prog 11 #[spV s a1 a2 c1 c2] w fun e w' => e = .returned (spV s a1 a2 c1 c2) ∧ Below w.heap.size w w' := by
  obtain ⟨p, q, ns, c, x, y⟩ := s
  unfold spV
  simp only
  obtain ⟨W1, hW1⟩ : ∃ W1, W1 = (w.alloc (.cells #[.slice a1 p.length c1, .int .i64 q, .slice a2 ns.length c2, .bool c, .int .i64 x, .int .i64 y] 26)).alloc (.cells #[.slice none 0 0, .int .i64 0, .slice none 0 0, .bool false, .int .i64 0, .int .i64 0] 30) := ⟨_, rfl⟩
  have hb0 := (Below.refl w.heap.size w).alloc (Nat.le_refl _) (.cells #[.slice a1 p.length c1, .int .i64 q, .slice a2 ns.length c2, .bool c, .int .i64 x, .int .i64 y] 26)
  have hs0 : (w.alloc (.cells #[.slice a1 p.length c1, .int .i64 q, .slice a2 ns.length c2, .bool c, .int .i64 x, .int .i64 y] 26)).heap.size = w.heap.size + 1 := by simp
  have HB1 : Hid (Below w.heap.size w W1) := by rw [hW1]; exact hb0.alloc (by omega) _
  have hS0 : Box W1 w.heap.size (.slice a1 p.length c1) q (.slice a2 ns.length c2) c x y := by
    unfold Box
    rw [hW1, Below.heap_alloc _ _ _ (by omega)]
    exact heap_alloc_new _ _
  have hR0 : BoxR W1 (w.heap.size + 1) (.slice none 0 0) 0 (.slice none 0 0) false 0 0 := by
    unfold BoxR
    rw [hW1, ← hs0]
    exact heap_alloc_new _ _
  have HW1 := Lib.hid hW1.symm
  obtain ⟨k0, k1, k2, k3, k4, k5⟩ := hS0.c
  have HRx := Lib.hid hR0
  clear hW1 hb0 hs0 hS0 hR0
  go_enter Tryz.func11, Tryz.ntmps11
  go_upto_region 1 with fail
  rw [HW1.out]
  go_wp2_with (refine wpList_store_row' rfl 30 (.tmp 2) (.tmp 15) rfl (w.heap.size + 1) #[.slice a1 p.length c1, .int .i64 q, .slice a2 ns.length c2, .bool c, .int .i64 x, .int .i64 y] rfl rfl 30 _ HRx.out (by kernel_rfl) rfl (by kernel_rfl) ?_; intro WE hWE)
  (try simp only [Exit.inBlock, Exit.then])
  have hrow := setRow_heap _ (w.heap.size + 1) _ #[.slice a1 p.length c1, .int .i64 q, .slice a2 ns.length c2, .bool c, .int .i64 x, .int .i64 y] _ _ HRx.out
  rw [← hWE.out] at hrow
  refine bodyPost_ret (results_cell_row (P := Tryz.prog) Tryz.results11 _ _ (w.heap.size + 1) 30 _ (0, 0) _ rfl hrow Tryz.underlying30 rfl (by kernel_rfl)) rfl ?_
  rw [hWE.out]
  exact ⟨rfl, below_setRow HB1.out (by omega) _⟩

set_option maxRecDepth 100000 in
set_option maxHeartbeats 4000000 in
theorem same_spec (s : Spc) (a1 a2 : Option Addr) (c1 c2 : Nat) (b1 b2 : Option Addr) (d1 d2 : Nat) (w : World) (h : SpA w s a1 a2 c1 c2) (g : SpA w s b1 b2 d1 d2) (hpl : s.path.length ≤ 1000000000) (hnl : s.names.length ≤ 1000000000) :
    Calls Tryz.prog 10 #[spV s a1 a2 c1 c2, spV s b1 b2 d1 d2] w fun e w' => e = .returned (.bool true) ∧ Below w.heap.size w w' := by
  obtain ⟨p, q, ns, c, x, y⟩ := s
  unfold spV
  simp only
  have HP1 := Lib.hid h.rp
  have HN1 := Lib.hid h.rn
  have HP2 := Lib.hid g.rp
  have HN2 := Lib.hid g.rn
  simp only at HP1 HN1 HP2 HN2 hpl hnl
  obtain ⟨W1, hW1⟩ : ∃ W1, W1 = (w.alloc (.cells #[.slice a1 p.length c1, .int .i64 q, .slice a2 ns.length c2, .bool c, .int .i64 x, .int .i64 y] 30)).alloc (.cells #[.slice b1 p.length d1, .int .i64 q, .slice b2 ns.length d2, .bool c, .int .i64 x, .int .i64 y] 30) := ⟨_, rfl⟩
  have hb0 := (Below.refl w.heap.size w).alloc (Nat.le_refl _) (.cells #[.slice a1 p.length c1, .int .i64 q, .slice a2 ns.length c2, .bool c, .int .i64 x, .int .i64 y] 30)
  have hs0 : (w.alloc (.cells #[.slice a1 p.length c1, .int .i64 q, .slice a2 ns.length c2, .bool c, .int .i64 x, .int .i64 y] 30)).heap.size = w.heap.size + 1 := by simp
  have HB1 : Hid (Below w.heap.size w W1) := by rw [hW1]; exact hb0.alloc (by omega) _
  have hS0 : BoxR W1 w.heap.size (.slice a1 p.length c1) q (.slice a2 ns.length c2) c x y := by
    unfold BoxR
    rw [hW1, Below.heap_alloc _ _ _ (by omega)]
    exact heap_alloc_new _ _
  have hR0 : BoxR W1 (w.heap.size + 1) (.slice b1 p.length d1) q (.slice b2 ns.length d2) c x y := by
    unfold BoxR
    rw [hW1, ← hs0]
    exact heap_alloc_new _ _
  have HW1 := Lib.hid hW1.symm
  have HSx := Lib.hid hS0
  have HRx := Lib.hid hR0
  obtain ⟨k0, k1, k2, k3, k4, k5⟩ := hS0.c
  obtain ⟨r0, r1, r2, r3, r4, r5⟩ := hR0.c
  obtain ⟨A, hA⟩ : ∃ A, A = w.heap.size := ⟨_, rfl⟩
  obtain ⟨B, hB⟩ : ∃ B, B = w.heap.size + 1 := ⟨_, rfl⟩
  rw [← hA] at HSx k0 k1 k2 k3 k4 k5
  rw [← hB] at HRx r0 r1 r2 r3 r4 r5
  have HA := Lib.hid hA
  have HBe := Lib.hid hB
  have bq : (q != q) = false := bne_no rfl
  have bx : (x != x) = false := bne_no rfl
  have by1 : (y != y) = false := bne_no rfl
  have bc : (c != c) = false := by cases c <;> rfl
  have bp : (((p.length : Nat) : Int) != (p.length : Int)) = false := bne_no rfl
  have bn : (((ns.length : Nat) : Int) != (ns.length : Int)) = false := bne_no rfl
  clear hW1 hb0 hs0 hS0 hR0 h g hA hB
  go_enter Tryz.func10, Tryz.ntmps10
  go_upto_region 1 with fail
  rw [HW1.out, ← HBe.out, ← HA.out]
  go_wp2_with fail
  clear k0 k1 k2 k3 k4 k5 r0 r1 r2 r3 r4 r5
  go_loopg [5] p.length (fun qq xi wr => ∃ i : Nat, i ≤ p.length ∧ qq = p.length - i ∧ xi = .int .i64 (i : Int) ∧ Hid (Below W1.heap.size W1 wr))
  case atStart => exact ⟨0, by omega, by omega, rfl, Below.refl _ _⟩
  case round =>
    obtain ⟨i, hi, rfl, rfl, HB⟩ := hrel
    have HS2 := Lib.hid (HSx.out.below HB.out)
    have HR2 := Lib.hid (HRx.out.below HB.out)
    obtain ⟨k0, k1, k2, k3, k4, k5⟩ := HS2.out.c
    obtain ⟨r0, r1, r2, r3, r4, r5⟩ := HR2.out.c
    by_cases hlt : i < p.length
    · obtain ⟨g1, o1, rfl, hl1, hc1⟩ := (HP1.out.below (HB1.out.trans (HB.out.mono HB1.out.size))).at i (by simpa using hlt)
      obtain ⟨g2, o2, rfl, hl2, hc2⟩ := (HP2.out.below (HB1.out.trans (HB.out.mono HB1.out.size))).at i (by simpa using hlt)
      obtain ⟨u, hu⟩ : ∃ u, u = p[i] := ⟨_, rfl⟩
      have hc1' : wr.cell? ⟨g1, o1 + i, none⟩ = some (.int .i64 u) := by rw [hc1, hu]; simp [intV]
      have hc2' : wr.cell? ⟨g2, o2 + i, none⟩ = some (.int .i64 u) := by rw [hc2, hu]; simp [intV]
      have bu : (u != u) = false := bne_no rfl
      have hd : ((i : Int) < (p.length : Int)) := by omega
      clear hc1 hc2 hu
      have K0 := BW.cell k0
      have R0 := BW.cell r0
      have C1 := BW.cell hc1'
      have C2 := BW.cell hc2'
      go_wp2_with fail
      refine wp_region_below (by kernel_rfl) (by kernel_rfl) ?_
      repeat (go_big_quiet_step (fail))
      refine wpQuiet_nil ?_
      rintro W2 ⟨⟨_, hb2⟩, rfl⟩
      have HB2 := Lib.hid (HB.out.trans (hb2.mono HB.out.size))
      clear hb2
      go_wp2_with fail
      go_roundg (p.length - (i + 1))
      case measure => omega
      case rel => exact ⟨i + 1, by omega, rfl, by go_num, HB2.out⟩
    · go_wp2_with fail
      clear hlt hi k0 k1 k2 k3 k4 k5 r0 r1 r2 r3 r4 r5
      obtain ⟨W2, hW2⟩ : ∃ W2, W2 = wr := ⟨_, rfl⟩
      subst hW2
      go_loopg [6] ns.length (fun qq xi wr => ∃ i : Nat, i ≤ ns.length ∧ qq = ns.length - i ∧ xi = .int .i64 (i : Int) ∧ Hid (Below W1.heap.size W1 wr))
      case atStart => exact ⟨0, by omega, by omega, rfl, HB.out⟩
      case round =>
        obtain ⟨i, hi, rfl, rfl, HB⟩ := hrel
        have HS2 := Lib.hid (HSx.out.below HB.out)
        have HR2 := Lib.hid (HRx.out.below HB.out)
        obtain ⟨k0, k1, k2, k3, k4, k5⟩ := HS2.out.c
        obtain ⟨r0, r1, r2, r3, r4, r5⟩ := HR2.out.c
        by_cases hlt : i < ns.length
        · obtain ⟨g1, o1, rfl, hl1, hc1⟩ := (HN1.out.below (HB1.out.trans (HB.out.mono HB1.out.size))).at i (by simpa using hlt)
          obtain ⟨g2, o2, rfl, hl2, hc2⟩ := (HN2.out.below (HB1.out.trans (HB.out.mono HB1.out.size))).at i (by simpa using hlt)
          obtain ⟨u, hu⟩ : ∃ u : ByteArray, u = ⟨ns[i].toArray⟩ := ⟨_, rfl⟩
          have hc1' : wr.cell? ⟨g1, o1 + i, none⟩ = some (.string u) := by rw [hc1, hu]; simp [strV]
          have hc2' : wr.cell? ⟨g2, o2 + i, none⟩ = some (.string u) := by rw [hc2, hu]; simp [strV]
          have bu : (u.toList == u.toList) = true := by simp
          have bu2 : (u.toList != u.toList) = false := by simp
          have hd : ((i : Int) < (ns.length : Int)) := by omega
          clear hc1 hc2 hu
          have K0 := BW.cell k2
          have R0 := BW.cell r2
          have C1 := BW.cell hc1'
          have C2 := BW.cell hc2'
          go_wp2_with fail
          refine wp_region_below (by kernel_rfl) (by kernel_rfl) ?_
          repeat (go_big_quiet_step (fail))
          refine wpQuiet_nil ?_
          rintro W2 ⟨⟨_, hb2⟩, rfl⟩
          have HB2 := Lib.hid (HB.out.trans (hb2.mono HB.out.size))
          clear hb2
          go_wp2_with fail
          go_roundg (ns.length - (i + 1))
          case measure => omega
          case rel => exact ⟨i + 1, by omega, rfl, by go_num, HB2.out⟩
        · go_wp2_with fail
          go_ret
          exact ⟨rfl, HB1.out.trans (HB.out.mono HB1.out.size)⟩
end Go.Proofs.YthcleaflhljdlaaGreatDoor
