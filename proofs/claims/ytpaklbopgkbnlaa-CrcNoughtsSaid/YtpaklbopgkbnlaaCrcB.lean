/- Contracts of package crc: the table. -/
import Derived.Test.YtpaklbopgkbnlaaCrcA
namespace Go.Proofs.Ytpaklbopgkbnlaa
open Go Go.RowKit

theorem below_setRow {B : Nat} {a w : World} (h : Below B a w) {g : Nat} (hg : B ≤ g) (cs : Array Value) : Below B a (w.setRow g cs) :=
  h.trans ⟨rfl, rfl, rfl, by simp [World.setRow], fun k hk => setRow_other _ _ _ _ (by omega)⟩
theorem tabAt.setRow {w : World} {B k n : Nat} {C : Array Value} (h : tabAt w B k) (hC : C.toList = tabE n) : tabAt (w.setRow B C) B n := by
  obtain ⟨C0, t, h1, h2⟩ := h
  exact ⟨C, t, setRow_heap w B C0 C t _ h1, hC⟩
theorem stepK_eight (k : Nat) : stepF (stepF (stepF (stepF (stepF (stepF (stepF (stepF k))))))) = stepK 8 k := rfl

set_option maxRecDepth 100000 in
theorem eightMore_any (w : World) :
    Calls Try.prog 13 #[] w fun e w' => e = .returned (.agg tabV) ∧ Below w.heap.size w w' := by
  have HZ0 := Lib.hid (tabAt_new w 36)
  have HZ := Lib.hid (tabAt_new (w.alloc (.cells z256 36)) 36)
  have hzero := zero256
  have HB2 : Hid (Below w.heap.size w ((w.alloc (.cells z256 36)).alloc (.cells z256 36))) := ((Below.refl _ _).alloc (Nat.le_refl _) _).alloc (by simp) _
  go_enter Try.func13, Try.ntmps13
  go_wp2
  clear hzero
  go_loopg [2, 3, 4, 9] 256 (fun g x2 x3 v x9 wr => ∃ k : Nat, k ≤ 256 ∧ g = 256 - k ∧ v = .int .i64 k ∧ Hid (tabAt wr (w.heap.size + 1) k) ∧ Hid (tabAt wr w.heap.size 0) ∧ Hid (Below w.heap.size w wr))
  case atStart =>
    refine ⟨0, by omega, by omega, rfl, ?_, ?_, HB2.out⟩
    · have := HZ.out
      rw [show (w.alloc (.cells z256 36)).heap.size = w.heap.size + 1 by simp] at this
      exact this
    · exact HZ0.out.below (((Below.refl _ _).alloc (Nat.le_refl _) _).block _ HZ0.out.lt)
  case round =>
    obtain ⟨k, hk, rfl, rfl, HT, HR, HB⟩ := hrel
    by_cases hlt : k < 256
    · obtain ⟨x, hcell⟩ : ∃ x, wr.cell? ⟨w.heap.size + 1, k, none⟩ = some x := ⟨_, HT.out.cell k hlt⟩
      have hfr := HT.out.frozen k
      have h1 : stepF k < 4294967296 := stepF_lt (by omega)
      have h2 := stepF_lt h1
      have h3 := stepF_lt h2
      have h4 := stepF_lt h3
      have h5 := stepF_lt h4
      have h6 := stepF_lt h5
      have h7 := stepF_lt h6
      have h8 := stepF_lt h7
      have HS := Lib.hid (stepK_eight k)
      obtain ⟨k1, e1⟩ : ∃ x, x = stepF k := ⟨_, rfl⟩
      obtain ⟨k2, e2⟩ : ∃ x, x = stepF k1 := ⟨_, rfl⟩
      obtain ⟨k3, e3⟩ : ∃ x, x = stepF k2 := ⟨_, rfl⟩
      obtain ⟨k4, e4⟩ : ∃ x, x = stepF k3 := ⟨_, rfl⟩
      obtain ⟨k5, e5⟩ : ∃ x, x = stepF k4 := ⟨_, rfl⟩
      obtain ⟨k6, e6⟩ : ∃ x, x = stepF k5 := ⟨_, rfl⟩
      obtain ⟨k7, e7⟩ : ∃ x, x = stepF k6 := ⟨_, rfl⟩
      obtain ⟨k8, e8⟩ : ∃ x, x = stepF k7 := ⟨_, rfl⟩
      rw [← e1] at h1 h2 h3 h4 h5 h6 h7 h8 HS
      rw [← e2] at h2 h3 h4 h5 h6 h7 h8 HS
      rw [← e3] at h3 h4 h5 h6 h7 h8 HS
      rw [← e4] at h4 h5 h6 h7 h8 HS
      rw [← e5] at h5 h6 h7 h8 HS
      rw [← e6] at h6 h7 h8 HS
      rw [← e7] at h7 h8 HS
      rw [← e8] at h8 HS
      have F0 := bitMore_any k (by omega) wr
      have F1 := bitMore_any k1 h1 wr
      have F2 := bitMore_any k2 h2 wr
      have F3 := bitMore_any k3 h3 wr
      have F4 := bitMore_any k4 h4 wr
      have F5 := bitMore_any k5 h5 wr
      have F6 := bitMore_any k6 h6 wr
      have F7 := bitMore_any k7 h7 wr
      rw [← e1] at F0
      rw [← e2] at F1
      rw [← e3] at F2
      rw [← e4] at F3
      rw [← e5] at F4
      rw [← e6] at F5
      rw [← e7] at F6
      rw [← e8] at F7
      have HF0 := Lib.hid F0
      have HF1 := Lib.hid F1
      have HF2 := Lib.hid F2
      have HF3 := Lib.hid F3
      have HF4 := Lib.hid F4
      have HF5 := Lib.hid F5
      have HF6 := Lib.hid F6
      have HF7 := Lib.hid F7
      clear F0 F1 F2 F3 F4 F5 F6 F7 e1 e2 e3 e4 e5 e6 e7 e8
      go_wp2
      refine wp_loop_rounds 9 ?_
      rw [rounds_succ]
      go_wp2_with fail
      with_reducible refine HF0.out.mono ?_
      rintro e w1 ⟨rfl, rfl⟩
      go_wp2
      rw [rounds_succ]
      go_wp2_with fail
      with_reducible refine HF1.out.mono ?_
      rintro e w1 ⟨rfl, rfl⟩
      go_wp2
      rw [rounds_succ]
      go_wp2_with fail
      with_reducible refine HF2.out.mono ?_
      rintro e w1 ⟨rfl, rfl⟩
      go_wp2
      rw [rounds_succ]
      go_wp2_with fail
      with_reducible refine HF3.out.mono ?_
      rintro e w1 ⟨rfl, rfl⟩
      go_wp2
      rw [rounds_succ]
      go_wp2_with fail
      with_reducible refine HF4.out.mono ?_
      rintro e w1 ⟨rfl, rfl⟩
      go_wp2
      rw [rounds_succ]
      go_wp2_with fail
      with_reducible refine HF5.out.mono ?_
      rintro e w1 ⟨rfl, rfl⟩
      go_wp2
      rw [rounds_succ]
      go_wp2_with fail
      with_reducible refine HF6.out.mono ?_
      rintro e w1 ⟨rfl, rfl⟩
      go_wp2
      rw [rounds_succ]
      go_wp2_with fail
      with_reducible refine HF7.out.mono ?_
      rintro e w1 ⟨rfl, rfl⟩
      go_wp2
      rw [rounds_succ]
      go_wp2
      go_roundg (256 - (k + 1))
      case measure => omega
      case rel =>
        refine ⟨k + 1, by omega, rfl, by go_num, ?_, ?_, HB.out.setCell (Nat.le_succ _) _⟩
        · rw [HS.out]
          exact HT.out.step hlt
        · exact HR.out.below (Below.heap_setCell _ _ _ _ (Nat.ne_of_lt (Nat.lt_succ_self _)))
    · obtain rfl : k = 256 := by omega
      obtain ⟨C, t, hg, hC⟩ := HT.out
      obtain ⟨C0, t0, hg0, hC0⟩ := HR.out
      obtain rfl := tabV_of hC
      have hres := results_cell_row (P := Try.prog) Try.results13
      have HG := Lib.hid hg
      have HG0 := Lib.hid hg0
      clear hg hg0
      go_wp2_with (first | (refine wpList_load_row rfl 36 (.tmp 1) rfl (w.heap.size + 1) rfl t tabV (0, 0) (.array 256 22) HG.out Try.underlying36 rfl (tab_size hC) ?_) | (refine wpList_store_row rfl 36 (.tmp 0) (.tmp 18) rfl w.heap.size tabV rfl rfl t0 C0 HG0.out (tab_size hC) (by rw [tabAt.size hC0, tabAt.size hC]) (tab_one hC) ?_))
      refine bodyPost_ret (results_cell_row (P := Try.prog) Try.results13 _ _ w.heap.size t0 tabV (0, 0) (.array 256 22) rfl (setRow_heap _ _ _ _ _ _ HG0.out) Try.underlying36 rfl (tab_size hC)) rfl ⟨rfl, ?_⟩
      exact below_setRow HB.out (Nat.le_refl _) _
end Go.Proofs.Ytpaklbopgkbnlaa
