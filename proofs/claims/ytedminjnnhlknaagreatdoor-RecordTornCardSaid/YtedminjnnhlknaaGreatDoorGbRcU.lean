/- Contracts: errors.As at a number of an error that a record's fault wraps; package record's numberOf. -/
import Derived.Test.YtedminjnnhlknaaGreatDoorGbRcG
import Derived.Test.YtedminjnnhlknaaGreatDoorGbRcT
namespace Go.Proofs.YtedminjnnhlknaaGreatDoor
open Go Go.RowKit Go.Extern.Stop Go.Stop Go.Extern
theorem asMU (z : Int) (h : Value) (w : World) : (Go.method 425 117 (.agg #[.int .i64 z, h]) "Unwrap").run Tryz.prog w = .ok (218, .agg #[.int .i64 z, h]) w := by kernel_rfl
set_option maxRecDepth 100000 in
set_option maxHeartbeats 4000000 in
theorem as_any (z x : Int) (t : Nat) (a : Addr) (old : Value) (w : World) (ha : w.cell? a = some (.pointer (some ⟨t, 0, none⟩))) (ht : w.cell? ⟨t, 0, none⟩ = some old) (hf : w.frozen? ⟨t, 0, none⟩ = false) :
  Calls Tryz.prog 77 #[fltV z x, .iface 106 (.pointer (some ⟨t, 0, none⟩)), .agg #[.pointer (some ⟨9, 106, none⟩), .pointer (some a), .int .u64 150], .iface 191 (.agg #[.pointer (some ⟨9, 32, none⟩)])] w
   fun e w' => e = .returned (.bool true) ∧ Gr t w w' ∧ w'.cell? ⟨t, 0, none⟩ = some (.int .i64 x) := by
 have hal := World.block_lt_of_cell? _ _ ha
 have htl : t < w.heap.size := World.block_lt_of_cell? _ _ ht
 have h74 := @run_callFunc_extern Tryz.prog 74 _ (fun args => ReflectliteValue.unpack (args.getD 0 (.tuple #[]))) Tryz.func74 (by kernel_rfl) (by kernel_rfl) (by kernel_rfl) (by kernel_rfl)
 have h102 := @run_callFunc_extern Tryz.prog 102 _ ReflectliteType.typeOf Tryz.func102 (by kernel_rfl) (by kernel_rfl) (by kernel_rfl) (by kernel_rfl)
 have h223 := @run_callFunc_extern Tryz.prog 223 _ (ReflectliteType.relation "AssignableTo" ReflectliteType.assignableTo) Tryz.func223 (by kernel_rfl) (by kernel_rfl) (by kernel_rfl) (by kernel_rfl)
 have h103 := @run_callFunc_extern Tryz.prog 103 _ (ReflectliteValue.method (ReflectliteValue.valueError "reflectlite.Value.Elem" 0) ReflectliteValue.elem) Tryz.func103 (by kernel_rfl) (by kernel_rfl) (by kernel_rfl) (by kernel_rfl)
 have h104 := @run_callFunc_extern Tryz.prog 104 _ ReflectliteValue.set Tryz.func104 (by kernel_rfl) (by kernel_rfl) (by kernel_rfl) (by kernel_rfl)
 have tO1 := asTO1
 have tO2 := asTO2
 have mA := asMA
 have a1 := asA1
 have a2 := asA2
 have v2 := asV2
 have sA := asAs
 have sU := asUn
 obtain ⟨W1, hW1⟩ : ∃ W1, W1 = w.alloc (.cells #[.pointer (some ⟨9, 106, none⟩), .pointer (some a), .int .u64 150] 158) := ⟨_, rfl⟩
 have HFl := Lib.hid (asFault_any z x W1)
 obtain ⟨W2, hW2⟩ : ∃ W2, W2 = W1.alloc (.cells #[.int .i64 z, .iface 32 (.int .i64 x)] 117) := ⟨_, rfl⟩
 have hb1 : Below w.heap.size w W1 := by rw [hW1]; exact below_new w _
 have hb2 : Below w.heap.size w W2 := by rw [hW2]; exact hb1.trans ((below_new W1 _).mono hb1.size)
 have hz1 : W1.heap.size = w.heap.size + 1 := by rw [hW1]; simp
 have hz2 : W2.heap.size = w.heap.size + 2 := by rw [hW2]; simp [hz1]
 have c6 : W1.cell? ⟨w.heap.size, 0, none⟩ = some (.pointer (some ⟨9, 106, none⟩)) := by rw [hW1]; simp only [World.cell?, heap_alloc_new]; rfl
 have c7 : W1.cell? ⟨w.heap.size, 1, none⟩ = some (.pointer (some a)) := by rw [hW1]; simp only [World.cell?, heap_alloc_new]; rfl
 have c8 : W1.cell? ⟨w.heap.size, 2, none⟩ = some (.int .u64 150) := by rw [hW1]; simp only [World.cell?, heap_alloc_new]; rfl
 have hb12 : Below W1.heap.size W1 W2 := by rw [hW2]; exact below_new W1 _
 have d6 := (hb12.cell (p := ⟨w.heap.size, 0, none⟩) (by show w.heap.size < W1.heap.size; omega)).trans c6
 have d7 := (hb12.cell (p := ⟨w.heap.size, 1, none⟩) (by show w.heap.size < W1.heap.size; omega)).trans c7
 have d8 := (hb12.cell (p := ⟨w.heap.size, 2, none⟩) (by show w.heap.size < W1.heap.size; omega)).trans c8
 have mU := asMU z
 have eL := asEV a ⟨t, 0, none⟩ W2 ((hb2.cell hal).trans ha)
 have hb3 : Below w.heap.size w (W2.alloc (.cells #[.int .i64 x] 32)) := hb2.trans ((below_new W2 _).mono hb2.size)
 have sT := asSet ⟨t, 0, none⟩ ⟨W2.heap.size, 0, none⟩ x old (W2.alloc (.cells #[.int .i64 x] 32)) (by simp only [World.cell?, heap_alloc_new]; rfl) ((hb3.cell (p := ⟨t, 0, none⟩) htl).trans ht) ((World.frozen?_of_block (a := ⟨t, 0, none⟩) (hb3.block t htl)).trans hf)
 unfold fltV
 go_enter Tryz.func77, Tryz.ntmps77
 go_wp2_with fail
 refine wp_loop_rounds 2 ?_
 rw [rounds_succ]
 rw [← hW1]
 have HW2 := Lib.hid hW2
 have HB3 := Lib.hid hb3
 have HT3 := Lib.hid ((hb3.cell (p := ⟨t, 0, none⟩) htl).trans ht)
 clear hW1 hW2 hz1 hz2 hb1 hb2 hb12 hb3 hal htl ha ht hf
 go_wp2_with fail
 with_reducible refine HFl.out.mono ?_
 rintro e w2 ⟨rfl, rfl⟩
 rw [← HW2.out]
 go_wp2_with fail
 rw [rounds_succ]
 go_wp2_with fail
 go_ret
 exact ⟨rfl, (gr_below' HB3.out).set 0 _, World.cell?_setCell_same _ _ _ HT3.out⟩
set_option maxRecDepth 100000 in
set_option maxHeartbeats 4000000 in
theorem errorsAs_any (z x : Int) (t : Nat) (old : Value) (w : World) (hg : w.cell? ⟨0, 0, none⟩ = some (.iface 191 (.agg #[.pointer (some ⟨9, 61, none⟩)]))) (ht : w.cell? ⟨t, 0, none⟩ = some old) (hf : w.frozen? ⟨t, 0, none⟩ = false) :
  Calls Tryz.prog 47 #[fltV z x, .iface 106 (.pointer (some ⟨t, 0, none⟩))] w
   fun e w' => e = .returned (.bool true) ∧ Gr t w w' ∧ w'.cell? ⟨t, 0, none⟩ = some (.int .i64 x) := by
 have htl : t < w.heap.size := World.block_lt_of_cell? _ _ ht
 have hgl : 0 < w.heap.size := World.block_lt_of_cell? _ _ hg
 have h74 := @run_callFunc_extern Tryz.prog 74 _ (fun args => ReflectliteValue.unpack (args.getD 0 (.tuple #[]))) Tryz.func74 (by kernel_rfl) (by kernel_rfl) (by kernel_rfl) (by kernel_rfl)
 have h75 := @run_callFunc_extern Tryz.prog 75 _ (ReflectliteValue.methodAny (ReflectliteValue.valueError "reflectlite.Value.Type" 0) (fun t _ _ _ => ReflectliteType.toType t)) Tryz.func75 (by kernel_rfl) (by kernel_rfl) (by kernel_rfl) (by kernel_rfl)
 have h76 := @run_callFunc_extern Tryz.prog 76 _ (ReflectliteValue.method (ReflectliteValue.valueError "reflectlite.Value.IsNil" 0) ReflectliteValue.isNil) Tryz.func76 (by kernel_rfl) (by kernel_rfl) (by kernel_rfl) (by kernel_rfl)
 have h27 := @run_callFunc_extern Tryz.prog 213 _ (ReflectliteType.abiMethod fun t => do pure (.int .u8 (← Rtype.kind t))) Tryz.func213 (by kernel_rfl) (by kernel_rfl) (by kernel_rfl) (by kernel_rfl)
 have h37 := @run_callFunc_extern Tryz.prog 225 _ (ReflectliteType.method ReflectliteType.elem) Tryz.func225 (by kernel_rfl) (by kernel_rfl) (by kernel_rfl) (by kernel_rfl)
 have h38 := @run_callFunc_extern Tryz.prog 226 _ (ReflectliteType.relation "Implements" ReflectliteType.implements_) Tryz.func226 (by kernel_rfl) (by kernel_rfl) (by kernel_rfl) (by kernel_rfl)
 obtain ⟨W1, hW1⟩ : ∃ W1, W1 = w.alloc (.cells #[.pointer (some ⟨t, 0, none⟩)] 106) := ⟨_, rfl⟩
 obtain ⟨W2, hW2⟩ : ∃ W2, W2 = W1.alloc (.cells #[.pointer (some ⟨9, 106, none⟩), .pointer (some ⟨w.heap.size, 0, none⟩), .int .u64 150] 158) := ⟨_, rfl⟩
 have hb1 : Below w.heap.size w W1 := by rw [hW1]; exact below_new w _
 have hz1 : W1.heap.size = w.heap.size + 1 := by rw [hW1]; simp
 have hb12 : Below W1.heap.size W1 W2 := by rw [hW2]; exact below_new W1 _
 have hb2 : Below w.heap.size w W2 := hb1.trans (hb12.mono hb1.size)
 have b0 : W1.cell? ⟨w.heap.size, 0, none⟩ = some (.pointer (some ⟨t, 0, none⟩)) := by rw [hW1]; simp only [World.cell?, heap_alloc_new]; rfl
 have b1 := (hb12.cell (p := ⟨w.heap.size, 0, none⟩) (by show w.heap.size < W1.heap.size; omega)).trans b0
 have v0 : (ReflectliteValue.unpack (.iface 106 (.pointer (some ⟨t, 0, none⟩)))).run Tryz.prog w = .ok (.agg #[.pointer (some ⟨9, 106, none⟩), .pointer (some ⟨w.heap.size, 0, none⟩), .int .u64 150]) W1 := by rw [hW1]; exact asVO ⟨t, 0, none⟩ w
 obtain ⟨B, hB⟩ : ∃ B, B = W1.heap.size := ⟨_, rfl⟩
 have c6 : W2.cell? ⟨B, 0, none⟩ = some (.pointer (some ⟨9, 106, none⟩)) := by rw [hW2, hB]; simp only [World.cell?, heap_alloc_new]; rfl
 have c7 : W2.cell? ⟨B, 1, none⟩ = some (.pointer (some ⟨w.heap.size, 0, none⟩)) := by rw [hW2, hB]; simp only [World.cell?, heap_alloc_new]; rfl
 have c8 : W2.cell? ⟨B, 2, none⟩ = some (.int .u64 150) := by rw [hW2, hB]; simp only [World.cell?, heap_alloc_new]; rfl
 have vT := asVT
 have mK := asMK
 have k1 := asK1
 have k2 := asK2
 have nI := asNil ⟨w.heap.size, 0, none⟩ ⟨t, 0, none⟩ W2 b1
 have mE := asME
 have mI := asMI
 have e1 := asE1
 have iM := asIm
 have g2 := (hb2.cell (p := ⟨0, 0, none⟩) hgl).trans hg
 have HA := Lib.hid (as_any z x t ⟨w.heap.size, 0, none⟩ old W2 b1 ((hb2.cell (p := ⟨t, 0, none⟩) htl).trans ht) ((World.frozen?_of_block (a := ⟨t, 0, none⟩) (hb2.block t htl)).trans hf))
 have HB2 := Lib.hid hb2
 have HW1 := Lib.hid hW1
 have HW2 := Lib.hid hW2
 have HBB := Lib.hid hB
 unfold fltV at HA ⊢
 clear hW1 hW2 hz1 hb1 hb12 hb2 b0 htl hgl ht hf hg hB
 go_enter Tryz.func47, Tryz.ntmps47
 go_upto_region 6 with fail
 (try rw [← HW2.out])
 (try rw [← HBB.out])
 go_wp2_with fail
 with_reducible refine HA.out.mono ?_
 rintro e w3 ⟨rfl, hgr, hc⟩
 have HG := Lib.hid ((gr_below' (R := t) HB2.out).trans hgr)
 have HC := Lib.hid hc
 clear hgr hc
 go_wp2_with fail
 go_ret
 exact ⟨rfl, HG.out, HC.out⟩
set_option maxRecDepth 100000 in
set_option maxHeartbeats 4000000 in
theorem numberOf_any (z x : Int) (w : World) (hg : w.cell? ⟨0, 0, none⟩ = some (.iface 191 (.agg #[.pointer (some ⟨9, 61, none⟩)]))) :
  Calls Tryz.prog 22 #[fltV z x] w fun e w' => e = .returned (.int .i64 x) ∧ Below w.heap.size w w' := by
 have hgl : 0 < w.heap.size := World.block_lt_of_cell? _ _ hg
 obtain ⟨X, hX⟩ : ∃ X, X = w.alloc (.cells #[.int .i64 0] 32) := ⟨_, rfl⟩
 have hb : Below w.heap.size w X := by rw [hX]; exact below_new w _
 have b0 : X.cell? ⟨w.heap.size, 0, none⟩ = some (.int .i64 0) := by rw [hX]; simp only [World.cell?, heap_alloc_new]; rfl
 have f0 : X.frozen? ⟨w.heap.size, 0, none⟩ = false := by rw [hX]; simp only [World.frozen?, heap_alloc_new]; rfl
 have HA := Lib.hid (errorsAs_any z x w.heap.size (.int .i64 0) X ((hb.cell (p := ⟨0, 0, none⟩) hgl).trans hg) b0 f0)
 have HB := Lib.hid hb
 clear hb b0 f0 hgl hg
 go_enter Tryz.func22, Tryz.ntmps22
 go_wp2_with fail
 rw [← hX]
 clear hX
 with_reducible refine HA.out.mono ?_
 rintro e w3 ⟨rfl, hgr, hc⟩
 have HG := Lib.hid (below_base (w0 := w) (Below.refl _ _) (Nat.le_refl _) ((gr_below' (R := w.heap.size) HB.out).trans hgr))
 clear hgr
 go_wp2_with fail
 go_ret
 exact ⟨rfl, HG.out⟩
end Go.Proofs.YtedminjnnhlknaaGreatDoor
