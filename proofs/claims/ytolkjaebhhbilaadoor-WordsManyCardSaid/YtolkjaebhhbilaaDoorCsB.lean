/- Contracts of package charset: the one of a name; whether it is known. -/
import Derived.Test.YtolkjaebhhbilaaDoorCsA
namespace Go.Proofs.YtolkjaebhhbilaaDoor
open Go Go.RowKit Go.Maps

theorem zeroCs (w : World) : (zeroValue 75).run Tryd.prog w = .ok (.agg #[.nilFunc, .nilFunc]) w := by kernel_rfl
theorem csA_size (k : Nat) : (csA k).size = 2 := by unfold csA; split <;> rfl
theorem csA_one (k : Nat) : (csA k).all (·.oneCell') = true := by unfold csA; split <;> kernel_rfl
theorem cs_info : (Tryd.prog.info? 75).map (·.size) = some 2 := by kernel_rfl
theorem kindL_lt (l : List UInt8) : kindL l < 4 := kindF_lt _

set_option maxRecDepth 100000 in
set_option maxHeartbeats 4000000 in
theorem named_any (s : ByteArray) (w : World) (hl : s.size ≤ 1000000) :
    Calls Tryd.prog 42 #[.string s] w fun e w' => e = .returned (.tuple #[.agg (csA (kindL s.data.toList)), .bool (decide (kindL s.data.toList ≠ 0))]) ∧ Below w.heap.size w w' := by
  have HFo := Lib.hid (fun W => fold_any s W (by omega))
  obtain ⟨F, hF⟩ : ∃ F : ByteArray, F = ⟨(foldS s.data.toList).toArray⟩ := ⟨_, rfl⟩
  have hFs : (foldS s.data.toList).length ≤ 1000000000 := by unfold foldS; rw [List.length_map, len_toList]; omega
  have HK := Lib.hid (keyStr (foldS s.data.toList) hFs)
  rw [← hF] at HFo HK
  have HCs := Lib.hid (fun W => charsets_any W)
  obtain ⟨k, hk⟩ : ∃ k, k = kindL s.data.toList := ⟨_, rfl⟩
  have hk4 : k < 4 := by rw [hk]; exact kindL_lt _
  have HKk : Hid (kindF (foldS s.data.toList) = k) := hk.symm
  rw [← hk]
  obtain ⟨b, hbk⟩ : ∃ b, b = decide (k ≠ 0) := ⟨_, rfl⟩
  have HBk := Lib.hid hbk
  rw [← hbk]
  obtain ⟨A, hA⟩ : ∃ A, A = csA k := ⟨_, rfl⟩
  have hAs : A.size = 2 := by rw [hA]; exact csA_size k
  have hA1 := csA_one k
  rw [← hA] at hA1 ⊢
  have HA := Lib.hid hA
  have HR0 : Hid (csR (.agg #[.nilFunc, .nilFunc]) = some (.lit (.int .i64 0), [])) := csR_at (k := 0) (by decide)
  clear hk hF hA hbk
  go_enter Tryd.func42, Tryd.ntmps42
  go_wp2_with fail
  with_reducible refine (HCs.out _).mono ?_
  rintro e w1 ⟨bm, D, rfl, hown1, hD, hb1⟩
  have hr1 : w1.heap[w.heap.size]? = some (.cells #[.nilFunc, .nilFunc] 75 (0, 0)) := (hb1.block _ (by simp)).trans (heap_alloc_new w _)
  have HB1 : Hid (Below w.heap.size w w1) := ((Below.refl w.heap.size w).alloc (Nat.le_refl _) _).trans (hb1.mono (by simp))
  have HO1 := Lib.hid hown1
  have HD := Lib.hid hD
  have HR1 := Lib.hid hr1
  clear hown1 hD hb1 hr1 HCs
  go_wp2_with fail
  with_reducible refine (HFo.out _).mono ?_
  rintro e w2 ⟨rfl, hb2⟩
  have HO2 : Hid (w2.ownsMap Tryd.prog 9 csR bm 6 D) := HO1.out.kept (row := none) ⟨hb2.os, hb2.tape, hb2.output, hb2.size, fun k hk _ => hb2.block k hk⟩ (by simp)
  have hl1 : w.heap.size < w1.heap.size := (Array.getElem?_eq_some_iff.1 HR1.out).1
  have HR2 : Hid (w2.heap[w.heap.size]? = _) := (hb2.block _ hl1).trans HR1.out
  have HB2 := Lib.hid (HB1.out.trans (hb2.mono HB1.out.size))
  have hl2 : w.heap.size < w2.heap.size := (Array.getElem?_eq_some_iff.1 HR2.out).1
  have HH : Hid (Maps.has D (.string (foldS s.data.toList)) = b) := by unfold Hid; rw [(HD.out _).1, HKk.out, HBk.out]
  have HAt : Hid (D.atKey (.string (foldS s.data.toList)) (.lit (.int .i64 0)) = .lit (.int .i64 (k : Int))) := by unfold Hid; rw [(HD.out _).2, HKk.out]
  have HNew := Lib.hid (heap_alloc_new w2 (.cells #[.nilFunc, .nilFunc] 75))
  have hi2 : (Tryd.prog.info? 75).map (·.size) = some A.size := by rw [hAs]; exact cs_info
  have hold : (#[Value.nilFunc, Value.nilFunc] : Array Value).size = A.size := hAs.symm
  have HI2 := Lib.hid hi2
  have HOld := Lib.hid hold
  have HA1 := Lib.hid hA1
  clear hb2 HO1 HR1 HB1 hi2 hold hA1
  go_wp2_with (first
    | (at_lookup; refine wpList_lookup_own_ok _ rfl _ _ 86 rfl 9 75 keyLaw Tryd.underlying86 csR (zeroCs _) (.lit (.int .i64 0)) [] HR0.out bm 6 D rfl HO2.out _ _ rfl HK.out ?_; intro v ps hv; obtain rfl : v = .agg A := (by rw [HAt.out] at hv; rw [csR_inv hv, HA.out]; rfl); rw [HH.out])
    | (refine wpList_store_row' rfl 75 (.tmp 4) (.tmp 11) rfl w2.heap.size A rfl rfl 75 _ HNew.out HI2.out HOld.out HA1.out ?_; intro W3 hW3
       have R3 : Hid (W3.heap[w2.heap.size]? = some (.cells A 75 (0, 0))) := (by unfold Hid; rw [hW3.out]; exact setRow_heap _ _ _ _ _ _ HNew.out)
       have Q3 : Hid (W3.heap[w.heap.size]? = some (.cells #[.nilFunc, .nilFunc] 75 (0, 0))) := (by unfold Hid; rw [hW3.out, setRow_other _ _ _ _ (by omega), Below.heap_alloc _ _ _ hl2]; exact HR2.out)
       have B3 : Hid (Below w.heap.size w W3) := (by unfold Hid; rw [hW3.out]; exact below_setRow (HB2.out.alloc HB2.out.size _) (by omega) _)
       clear hW3)
    | (refine wpList_load_row rfl 75 (.tmp 4) rfl w2.heap.size rfl 75 A (0, 0) _ R3.out Tryd.underlying75 rfl HI2.out ?_)
    | (refine wpList_store_row' rfl 75 (.tmp 2) (.tmp 13) rfl w.heap.size A rfl rfl 75 _ Q3.out HI2.out HOld.out HA1.out ?_; intro WE hWE))
  (try simp only [Exit.inBlock, Exit.then])
  have hrow := setRow_heap _ w.heap.size _ A _ _ Q3.out
  rw [← hWE.out] at hrow
  refine bodyPost_ret (results_row_tmp (P := Tryd.prog) Tryd.results42 _ _ w.heap.size 75 _ (0, 0) _ rfl hrow Tryd.underlying75 rfl HI2.out) rfl ?_
  exact ⟨rfl, by rw [hWE.out]; exact below_setRow B3.out (Nat.le_refl _) _⟩

end Go.Proofs.YtolkjaebhhbilaaDoor
