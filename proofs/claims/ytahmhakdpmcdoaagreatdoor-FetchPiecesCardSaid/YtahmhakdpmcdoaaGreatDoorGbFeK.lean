/- The example that every statement asks first: its tree. -/
import Derived.Test.YtahmhakdpmcdoaaGreatDoorGbTrI
import Derived.Lib.SlBytesConst
import Derived.Great.BuildSlice
import Derived.Test.YtahmhakdpmcdoaaGreatDoorGbFeH
import Derived.Test.YtahmhakdpmcdoaaGreatDoorGbFeN
namespace Go.Proofs.YtahmhakdpmcdoaaGreatDoor
open Go Go.RowKit

def exB : List UInt8 := [67, 111, 110, 116, 101, 110, 116, 45, 84, 121, 112, 101, 58, 32, 109, 117, 108, 116, 105, 112, 97, 114, 116, 47, 109, 105, 120, 101, 100, 59, 32, 98, 111, 117, 110, 100, 97, 114, 121, 61, 98, 13, 10, 13, 10, 112, 114, 101, 13, 10, 45, 45, 98, 13, 10, 13, 10, 111, 110, 101, 13, 10, 45, 45, 98, 13, 10, 67, 111, 110, 116, 101, 110, 116, 45, 84, 121, 112, 101, 58, 32, 109, 101, 115, 115, 97, 103, 101, 47, 114, 102, 99, 56, 50, 50, 13, 10, 13, 10, 83, 117, 98, 106, 101, 99, 116, 58, 32, 115, 13, 10, 13, 10, 116, 119, 111, 13, 10, 45, 45, 98, 45, 45, 13, 10, 112, 111, 115, 116]
def exK : Tr := .mk 2 (67, 99) (99, 116) [.mk 0 (99, 113) (113, 116) [] [] (0, 0)] [] (0, 0)
def exT : Tr := .mk 1 (0, 45) (45, 129) [.mk 0 (55, 57) (57, 60) [] [] (0, 0), exK] [(48, 55), (60, 67)] (116, 125)
set_option maxRecDepth 100000 in
theorem ex_tree : treeS exB = exT := by kernel_rfl
def exZ : List Int := [67, 111, 110, 116, 101, 110, 116, 45, 84, 121, 112, 101, 58, 32, 109, 117, 108, 116, 105, 112, 97, 114, 116, 47, 109, 105, 120, 101, 100, 59, 32, 98, 111, 117, 110, 100, 97, 114, 121, 61, 98, 13, 10, 13, 10, 112, 114, 101, 13, 10, 45, 45, 98, 13, 10, 13, 10, 111, 110, 101, 13, 10, 45, 45, 98, 13, 10, 67, 111, 110, 116, 101, 110, 116, 45, 84, 121, 112, 101, 58, 32, 109, 101, 115, 115, 97, 103, 101, 47, 114, 102, 99, 56, 50, 50, 13, 10, 13, 10, 83, 117, 98, 106, 101, 99, 116, 58, 32, 115, 13, 10, 13, 10, 116, 119, 111, 13, 10, 45, 45, 98, 45, 45, 13, 10, 112, 111, 115, 116]
def exC : Array Value := (exZ.map (Value.int .u8)).toArray
theorem exC_row : exC.toList = exB.map byteV := by kernel_rfl
theorem exC_size : exC.size = 129 := by kernel_rfl
set_option maxRecDepth 100000 in
theorem ex_row (w : World) (t : TypeId) (fr : Nat × Nat) : bytesArg (w.alloc (.cells exC t fr)) (.slice (some ⟨w.heap.size, 0, none⟩) 129 129) exB :=
  (sliceAt_new w t fr exC exB exC_row).arg (cap := 129) (by decide) (by unfold maxLen; decide)
theorem own_len {S : Nat → Prop} {W : World} {ty : TypeId} {size n cn cc : Nat} {ca : Option Addr} {xs : List Value} (h : ownS S W ty size (.slice ca cn cc) n xs) : cn = n := by
  rcases h.1.2 with ⟨e, h0⟩ | ⟨g, cap, cur, e, _⟩
  · obtain ⟨_, rfl, _⟩ := Value.slice.inj e; exact h0.symm
  · obtain ⟨_, rfl, _⟩ := Value.slice.inj e; rfl
theorem kids_len {S : Nat → Prop} {W : World} {t : Tr} {k1 k2 k3 k4 k5 k8 k9 : Value} {a : Option Addr} {n c : Nat} {cs : Value} (h : treeAt S W t (.agg #[k1, k2, k3, k4, k5, .slice a n c, cs, k8, k9])) : n = t.kids.length := by
  obtain ⟨ka, kn, kc, ca, cn, cc, us, he, _, ho, hk⟩ := treeAt_open h
  have h1 := (kids_at ho hk).1
  simp only [Value.agg.injEq, Array.mk.injEq, List.cons.injEq, Value.slice.injEq] at he
  rw [he.2.2.2.2.2.1.2.1]
  exact h1
end Go.Proofs.YtahmhakdpmcdoaaGreatDoor

/- The example that every statement of layer 16 asks first. -/
namespace Go.Proofs.YtahmhakdpmcdoaaGreatDoor
open Go Go.RowKit

theorem rowOf_one (W : World) (ty : TypeId) (u : Value) : rowOf (W.alloc (.cells #[u] ty)) (.slice (some ⟨W.heap.size, 0, none⟩) 1 1) [u] := by
  refine ⟨_, 1, rfl, .inr ⟨W.heap.size, 0, rfl, by simp, fun j hj => ?_⟩⟩
  obtain rfl : j = 0 := by simpa using hj
  simp only [World.cell?, heap_alloc_new]
  rfl
theorem rowOf_two (W : World) (ty : TypeId) (u u2 : Value) : rowOf (W.alloc (.cells #[u, u2] ty)) (.slice (some ⟨W.heap.size, 0, none⟩) 2 2) [u, u2] := by
  refine ⟨_, 2, rfl, .inr ⟨W.heap.size, 0, rfl, by simp, fun j hj => ?_⟩⟩
  match j, hj with
  | 0, _ =>
    simp only [World.cell?, heap_alloc_new]
    rfl
  | 1, _ =>
    simp only [World.cell?, heap_alloc_new]
    rfl
theorem rowOf_emp (W : World) : rowOf W (.slice none 0 0) [] := ⟨none, 0, rfl, .inl rfl⟩
theorem strs_emp (W : World) : strsArg W (.slice none 0 0) [] := ⟨none, 0, rfl, Nat.le_refl _, Nat.zero_le _, (fun _ h => by cases h), .inl rfl⟩
/-- A spec without names, and one with the name that was just laid. -/
theorem spF_bare {W : World} {p : List Int} {q x y : Int} {c : Bool} {a1 : Option Addr} {c1 : Nat} (hp : rowOf W (.slice a1 p.length c1) (p.map intV)) : SpF W ⟨p, q, [], c, x, y⟩ a1 none c1 0 :=
  ⟨⟨hp, rowOf_emp W, fun _ h => by cases h⟩, strs_emp W⟩
theorem spF_name {W : World} {p : List Int} {q x y : Int} {c : Bool} {a1 : Option Addr} {c1 : Nat} {n : List UInt8} {ty : TypeId} {B : Nat} (hB : B = W.heap.size) (hn : n.length ≤ 1000) (hp : rowOf W (.slice a1 p.length c1) (p.map intV)) :
    SpF (W.alloc (.cells #[.string ⟨n.toArray⟩] ty)) ⟨p, q, [n], c, x, y⟩ a1 (some ⟨B, 0, none⟩) c1 1 := by
  subst hB
  refine ⟨⟨hp.below ((Below.refl _ _).alloc (Nat.le_refl _) _), rowOf_one W ty (.string ⟨n.toArray⟩), fun a h => ?_⟩, ?_⟩
  · rw [List.mem_singleton.1 h]
    omega
  · refine ⟨_, 1, rfl, Nat.le_refl _, by unfold maxLen; decide, fun s h => ?_, .inr ⟨W.heap.size, 0, rfl, by simp, fun j hj => ?_⟩⟩
    · have e : s = ⟨n.toArray⟩ := List.mem_singleton.1 h
      rw [e]
      show n.toArray.size ≤ maxLen
      unfold maxLen
      simp
      omega
    · obtain rfl : j = 0 := by simpa [bsL] using hj
      simp only [World.cell?, heap_alloc_new]
      rfl
set_option maxRecDepth 100000 in
theorem ex_get1 : getL exB exT ⟨[1], 0, [], false, 0, 0⟩ = [111, 110, 101] := by kernel_rfl
set_option maxRecDepth 100000 in
theorem ex_get2 : getL exB exT ⟨[2, 1], 0, [], false, 0, 0⟩ = [116, 119, 111] := by kernel_rfl
set_option maxRecDepth 100000 in
theorem ex_get3 : getL exB exT ⟨[2], 2, [[115, 117, 98, 106, 101, 99, 116]], false, 0, 0⟩ = [83, 117, 98, 106, 101, 99, 116, 58, 32, 115, 13, 10, 13, 10] := by kernel_rfl
set_option maxRecDepth 100000 in
theorem ex_get4 : getL exB exT ⟨[1], 0, [], true, 1, 9⟩ = [110, 101] := by kernel_rfl
theorem ex_find : downT true exT [3] = none := by kernel_rfl
set_option maxRecDepth 100000 in
theorem ex_okT : okT exB.length exT := by rw [← ex_tree]; exact tree_okT exB
set_option maxRecDepth 100000 in
set_option maxHeartbeats 4000000 in
theorem fawake_any (w : World) (he : env w) : Calls Tryz.prog 7 #[] w fun e w' => e = .returned (.bool true) ∧ Below w.heap.size w w' := by
  have HE := Lib.hid he
  have HPa : Hid (∀ W v, bytesArg W v exB → env W → Calls Tryz.prog 9 #[v] W fun e w' => ∃ ka kn kc ca cn cc, e = .returned (.tuple #[.agg #[.int .i64 1, .int .i64 0, .int .i64 45, .int .i64 45, .int .i64 129, .slice ka kn kc, .slice ca cn cc, .int .i64 116, .int .i64 125], .int .i64 0]) ∧
      treeAt (fun k => W.heap.size ≤ k) w' exT (.agg #[.int .i64 1, .int .i64 0, .int .i64 45, .int .i64 45, .int .i64 129, .slice ka kn kc, .slice ca cn cc, .int .i64 116, .int .i64 125]) ∧ Below W.heap.size W w') := fun W v h hE => by
    have := treeParse_any v exB W h (by decide) hE
    unfold treePost at this
    rw [ex_tree] at this
    exact this
  have kc := fun (w : World) (C : Array Value) (n c : Nat) => Lib.run_convert_bytes_const (P := Tryz.prog) w 22 5 C n c Tryz.underlying22 Tryz.underlying5
  clear he
  go_enter Tryz.func7, Tryz.ntmps7
  go_upto_region 1 with fail
  apply wp_region_lit
  refine wpList_buildFlat rfl 22 5 129 _ rfl .u8 exZ Tryz.underlying22 (by kernel_rfl) (by kernel_rfl) (by kernel_rfl) (by decide) (by decide) (by kernel_rfl) ?_
  have hC : (exZ.map (Value.int .u8)).toArray = exC := rfl
  rw [hC]
  clear hC
  go_wp2_with fail
  with_reducible refine (HPa.out _ _ ?h1 ?h2).mono ?_
  case h1 => exact ex_row _ _ _
  case h2 => exact HE.out.below ((Below.refl _ _).alloc (Nat.le_refl _) _)
  rintro e w5 ⟨ka, kn, kc', ca, cn, cc, rfl, ht, hb5⟩
  have HB5 : Hid (Below w.heap.size w w5) := ((Below.refl _ _).alloc (Nat.le_refl _) _).trans (hb5.mono (by simp))
  have hrow := bytesArg.below (ex_row w 5 (exC.size, exC.size + 1)) hb5
  have hta : tAt w5 exT (ptV exT (.slice ka kn kc') (.slice ca cn cc)) := tAt.of ht
  have HG1 : Hid (∀ (W : World) (a1 : Option Addr) (c1 : Nat), Below w5.heap.size w5 W → SpF W ⟨[1], 0, [], false, 0, 0⟩ a1 none c1 0 → Calls Tryz.prog 10 #[.slice (some ⟨w.heap.size, 0, none⟩) 129 129, .agg #[.int .i64 1, .int .i64 0, .int .i64 45, .int .i64 45, .int .i64 129, .slice ka kn kc', .slice ca cn cc, .int .i64 116, .int .i64 125], .agg #[.slice a1 1 c1, .int .i64 0, .slice none 0 0, .bool false, .int .i64 0, .int .i64 0]] W fun e w' => ∃ u, e = .returned u ∧ bytesArg w' u [111, 110, 101] ∧ Below W.heap.size W w') := fun W a1 c1 hb h => by
    have hg := fget_any _ exB exT (.slice ka kn kc') (.slice ca cn cc) ⟨[1], 0, [], false, 0, 0⟩ a1 none c1 0 W (bytesArg.below hrow hb) (by decide) ex_okT (hta.below hb) h
    rw [ex_get1] at hg
    exact hg
  have HG2 : Hid (∀ (W : World) (a1 : Option Addr) (c1 : Nat), Below w5.heap.size w5 W → SpF W ⟨[2, 1], 0, [], false, 0, 0⟩ a1 none c1 0 → Calls Tryz.prog 10 #[.slice (some ⟨w.heap.size, 0, none⟩) 129 129, .agg #[.int .i64 1, .int .i64 0, .int .i64 45, .int .i64 45, .int .i64 129, .slice ka kn kc', .slice ca cn cc, .int .i64 116, .int .i64 125], .agg #[.slice a1 2 c1, .int .i64 0, .slice none 0 0, .bool false, .int .i64 0, .int .i64 0]] W fun e w' => ∃ u, e = .returned u ∧ bytesArg w' u [116, 119, 111] ∧ Below W.heap.size W w') := fun W a1 c1 hb h => by
    have hg := fget_any _ exB exT (.slice ka kn kc') (.slice ca cn cc) ⟨[2, 1], 0, [], false, 0, 0⟩ a1 none c1 0 W (bytesArg.below hrow hb) (by decide) ex_okT (hta.below hb) h
    rw [ex_get2] at hg
    exact hg
  have HG3 : Hid (∀ (W : World) (a1 a2 : Option Addr) (c1 c2 : Nat), Below w5.heap.size w5 W → SpF W ⟨[2], 2, [[115, 117, 98, 106, 101, 99, 116]], false, 0, 0⟩ a1 a2 c1 c2 → Calls Tryz.prog 10 #[.slice (some ⟨w.heap.size, 0, none⟩) 129 129, .agg #[.int .i64 1, .int .i64 0, .int .i64 45, .int .i64 45, .int .i64 129, .slice ka kn kc', .slice ca cn cc, .int .i64 116, .int .i64 125], .agg #[.slice a1 1 c1, .int .i64 2, .slice a2 1 c2, .bool false, .int .i64 0, .int .i64 0]] W fun e w' => ∃ u, e = .returned u ∧ bytesArg w' u [83, 117, 98, 106, 101, 99, 116, 58, 32, 115, 13, 10, 13, 10] ∧ Below W.heap.size W w') := fun W a1 a2 c1 c2 hb h => by
    have hg := fget_any _ exB exT (.slice ka kn kc') (.slice ca cn cc) ⟨[2], 2, [[115, 117, 98, 106, 101, 99, 116]], false, 0, 0⟩ a1 a2 c1 c2 W (bytesArg.below hrow hb) (by decide) ex_okT (hta.below hb) h
    rw [ex_get3] at hg
    exact hg
  have HG4 : Hid (∀ (W : World) (a1 : Option Addr) (c1 : Nat), Below w5.heap.size w5 W → SpF W ⟨[1], 0, [], true, 1, 9⟩ a1 none c1 0 → Calls Tryz.prog 10 #[.slice (some ⟨w.heap.size, 0, none⟩) 129 129, .agg #[.int .i64 1, .int .i64 0, .int .i64 45, .int .i64 45, .int .i64 129, .slice ka kn kc', .slice ca cn cc, .int .i64 116, .int .i64 125], .agg #[.slice a1 1 c1, .int .i64 0, .slice none 0 0, .bool true, .int .i64 1, .int .i64 9]] W fun e w' => ∃ u, e = .returned u ∧ bytesArg w' u [110, 101] ∧ Below W.heap.size W w') := fun W a1 c1 hb h => by
    have hg := fget_any _ exB exT (.slice ka kn kc') (.slice ca cn cc) ⟨[1], 0, [], true, 1, 9⟩ a1 none c1 0 W (bytesArg.below hrow hb) (by decide) ex_okT (hta.below hb) h
    rw [ex_get4] at hg
    exact hg
  have HF : Hid (∀ (W : World) (a1 : Option Addr) (c1 : Nat), Below w5.heap.size w5 W → rowOf W (.slice a1 1 c1) [intV 3] → Calls Tryz.prog 12 #[.agg #[.int .i64 1, .int .i64 0, .int .i64 45, .int .i64 45, .int .i64 129, .slice ka kn kc', .slice ca cn cc, .int .i64 116, .int .i64 125], .slice a1 1 c1] W fun e w' => e = .returned (.tuple #[.agg #[.int .i64 0, .int .i64 0, .int .i64 0, .int .i64 0, .int .i64 0, .slice none 0 0, .slice none 0 0, .int .i64 0, .int .i64 0], .bool false]) ∧ Below W.heap.size W w') := fun W a1 c1 hb h => ffind_none exT (.slice ka kn kc') (.slice ca cn cc) [3] a1 c1 W (hta.below hb) h (by decide) (by decide) ex_find
  clear ht hb5 hrow hta HPa kc
  go_upto_region 3 with fail
  have HX0 : Hid ((w5.alloc (.cells #[.int .i64 1, .int .i64 0, .int .i64 45, .int .i64 45, .int .i64 129, .slice ka kn kc', .slice ca cn cc, .int .i64 116, .int .i64 125] 35)).heap[w5.heap.size]? = some (partO 1 0 45 45 129 (.slice ka kn kc') (.slice ca cn cc) 116 125)) := heap_alloc_new w5 _
  have HC0 : Hid (Below w5.heap.size w5 (w5.alloc (.cells #[.int .i64 1, .int .i64 0, .int .i64 45, .int .i64 45, .int .i64 129, .slice ka kn kc', .slice ca cn cc, .int .i64 116, .int .i64 125] 35))) := (Below.refl _ _).alloc (Nat.le_refl _) _
  generalize (w5.alloc (.cells #[.int .i64 1, .int .i64 0, .int .i64 45, .int .i64 45, .int .i64 129, .slice ka kn kc', .slice ca cn cc, .int .i64 116, .int .i64 125] 35)) = x0 at HX0 HC0 ⊢
  obtain ⟨t0, t1, t2, t3, t4, t5, t6, t7, t8⟩ := part_cells HX0.out
  have hx0 : w5.heap.size < x0.heap.size := (Array.getElem?_eq_some_iff.1 HX0.out).1
  go_wp2_with fail
  with_reducible refine (HG1.out _ _ 1 ?k1 ?k2).mono ?_
  case k1 => exact HC0.out.alloc HC0.out.size _
  case k2 => exact spF_bare (rowOf_one _ _ _)
  rintro e x1 ⟨u1, rfl, hu, hb⟩
  have HU1 := Lib.hid hu
  have hg1 : Below x0.heap.size x0 x1 := ((Below.refl _ _).alloc (Nat.le_refl _) _).trans (hb.mono (by simp))
  have HX1 := Lib.hid ((hg1.block _ hx0).trans HX0.out)
  have HC1 := Lib.hid (HC0.out.trans (hg1.mono HC0.out.size))
  have HD1 := Lib.hid hg1
  clear hb hg1 t0 t1 t2 t3 t4 t5 t6 t7 t8 hu
  obtain ⟨t0, t1, t2, t3, t4, t5, t6, t7, t8⟩ := part_cells HX1.out
  have hx1 : w5.heap.size < x1.heap.size := (Array.getElem?_eq_some_iff.1 HX1.out).1
  go_wp2_with fail
  with_reducible refine (HG2.out _ _ 2 ?k1 ?k2).mono ?_
  case k1 => exact HC1.out.alloc HC1.out.size _
  case k2 => exact spF_bare (rowOf_two _ _ _ _)
  rintro e x2 ⟨u2, rfl, hu, hb⟩
  have HU2 := Lib.hid hu
  have hg2 : Below x1.heap.size x1 x2 := ((Below.refl _ _).alloc (Nat.le_refl _) _).trans (hb.mono (by simp))
  have HX2 := Lib.hid ((hg2.block _ hx1).trans HX1.out)
  have HC2 := Lib.hid (HC1.out.trans (hg2.mono HC1.out.size))
  have HD2 := Lib.hid hg2
  clear hb hg2 t0 t1 t2 t3 t4 t5 t6 t7 t8 hu
  obtain ⟨t0, t1, t2, t3, t4, t5, t6, t7, t8⟩ := part_cells HX2.out
  have hx2 : w5.heap.size < x2.heap.size := (Array.getElem?_eq_some_iff.1 HX2.out).1
  go_wp2_with fail
  with_reducible refine (HG3.out _ _ _ 1 1 ?k1 ?k2).mono ?_
  case k1 => exact (HC2.out.alloc HC2.out.size _).alloc (by have := HC2.out.size; simp; omega) _
  case k2 => exact spF_name (p := [2]) (n := [115, 117, 98, 106, 101, 99, 116]) (by simp) (by decide) (rowOf_one _ _ _)
  rintro e x3 ⟨u3, rfl, hu, hb⟩
  have HU3 := Lib.hid hu
  have hg3 : Below x2.heap.size x2 x3 := (((Below.refl _ _).alloc (Nat.le_refl _) _).alloc (by simp) _).trans (hb.mono (by simp; omega))
  have HX3 := Lib.hid ((hg3.block _ hx2).trans HX2.out)
  have HC3 := Lib.hid (HC2.out.trans (hg3.mono HC2.out.size))
  have HD3 := Lib.hid hg3
  clear hb hg3 t0 t1 t2 t3 t4 t5 t6 t7 t8 hu
  obtain ⟨t0, t1, t2, t3, t4, t5, t6, t7, t8⟩ := part_cells HX3.out
  have hx3 : w5.heap.size < x3.heap.size := (Array.getElem?_eq_some_iff.1 HX3.out).1
  go_wp2_with fail
  with_reducible refine (HG4.out _ _ 1 ?k1 ?k2).mono ?_
  case k1 => exact HC3.out.alloc HC3.out.size _
  case k2 => exact spF_bare (rowOf_one _ _ _)
  rintro e x4 ⟨u4, rfl, hu, hb⟩
  have HU4 := Lib.hid hu
  have hg4 : Below x3.heap.size x3 x4 := ((Below.refl _ _).alloc (Nat.le_refl _) _).trans (hb.mono (by simp))
  have HX4 := Lib.hid ((hg4.block _ hx3).trans HX3.out)
  have HC4 := Lib.hid (HC3.out.trans (hg4.mono HC3.out.size))
  have HD4 := Lib.hid hg4
  clear hb hg4 t0 t1 t2 t3 t4 t5 t6 t7 t8 hu
  obtain ⟨t0, t1, t2, t3, t4, t5, t6, t7, t8⟩ := part_cells HX4.out
  have hx4 : w5.heap.size < x4.heap.size := (Array.getElem?_eq_some_iff.1 HX4.out).1
  go_wp2_with fail
  with_reducible refine (HF.out _ _ 1 ?k1 ?k2).mono ?_
  case k1 => exact HC4.out.alloc HC4.out.size _
  case k2 => exact rowOf_one _ _ _
  rintro e x5 ⟨rfl, hb⟩
  have hg5 : Below x4.heap.size x4 x5 := ((Below.refl _ _).alloc (Nat.le_refl _) _).trans (hb.mono (by simp))
  have HX5 := Lib.hid ((hg5.block _ hx4).trans HX4.out)
  have HC5 := Lib.hid (HC4.out.trans (hg5.mono HC4.out.size))
  have HD5 := Lib.hid hg5
  clear hb hg5 t0 t1 t2 t3 t4 t5 t6 t7 t8
  have HK1 := Lib.hid (fun (W : World) (hb : Below x5.heap.size x5 W) => bytesArg_string (bytesArg.below HU1.out (HD2.out.trans ((HD3.out.trans ((HD4.out.trans ((HD5.out.trans (hb.mono HD5.out.size)).mono HD4.out.size)).mono HD3.out.size)).mono HD2.out.size))))
  have HK2 := Lib.hid (fun (W : World) (hb : Below x5.heap.size x5 W) => bytesArg_string (bytesArg.below HU2.out (HD3.out.trans ((HD4.out.trans ((HD5.out.trans (hb.mono HD5.out.size)).mono HD4.out.size)).mono HD3.out.size))))
  have HK3 := Lib.hid (fun (W : World) (hb : Below x5.heap.size x5 W) => bytesArg_string (bytesArg.below HU3.out (HD4.out.trans ((HD5.out.trans (hb.mono HD5.out.size)).mono HD4.out.size))))
  have HK4 := Lib.hid (fun (W : World) (hb : Below x5.heap.size x5 W) => bytesArg_string (bytesArg.below HU4.out (HD5.out.trans (hb.mono HD5.out.size))))
  have hba : Below x5.heap.size x5 (x5.alloc (.cells #[.int .i64 0, .int .i64 0, .int .i64 0, .int .i64 0, .int .i64 0, .slice none 0 0, .slice none 0 0, .int .i64 0, .int .i64 0] 35)) := (Below.refl _ _).alloc (Nat.le_refl _) _
  have k1 := HK1.out _ hba
  have k2 := HK2.out _ hba
  have k3 := HK3.out _ hba
  have k4 := HK4.out _ hba
  have HBA := Lib.hid hba
  clear hba
  go_wp2_with fail
  go_ret
  exact ⟨rfl, (HB5.out.trans (HC5.out.mono HB5.out.size)).trans (HBA.out.mono (HB5.out.trans (HC5.out.mono HB5.out.size)).size)⟩
end Go.Proofs.YtahmhakdpmcdoaaGreatDoor

/- What a law of layer 16 knows of the tree that it parsed. -/
namespace Go.Proofs.YtahmhakdpmcdoaaGreatDoor
open Go Go.RowKit

theorem fparse_any (v : Value) (l : List UInt8) (w : World) (hv : bytesArg w v l) (hl : l.length ≤ 100000) (he : env w) :
    Calls Tryz.prog 9 #[v] w fun e w' => ∃ ka kc ca cn cc, e = .returned (.tuple #[ptV (treeS l) (.slice ka (treeS l).kids.length kc) (.slice ca cn cc), .int .i64 0]) ∧ tAt w' (treeS l) (ptV (treeS l) (.slice ka (treeS l).kids.length kc) (.slice ca cn cc)) ∧
      rowQ w' w' ka kc (treeS l).kids ∧ Below w.heap.size w w' := by
  refine (treeParse_any v l w hv hl he).mono ?_
  rintro e w' ⟨ka, kn, kc, ca, cn, cc, rfl, ht, hb⟩
  have hta : tAt w' (treeS l) (ptV (treeS l) (.slice ka kn kc) (.slice ca cn cc)) := tAt.of ht
  obtain ⟨ka', kc', ca', cn', cc', h1, h2, h3⟩ := hta.kids
  obtain ⟨rfl, rfl, rfl⟩ := Value.slice.inj h1
  exact ⟨_, _, _, _, _, rfl, hta, h3, hb⟩
/-- A spec of a path of one number that was just laid. -/
theorem spF_one (W : World) (ty : TypeId) (n q : Int) : SpF (W.alloc (.cells #[.int .i64 n] ty)) ⟨[n], q, [], false, 0, 0⟩ (some ⟨W.heap.size, 0, none⟩) none 1 0 := spF_bare (rowOf_one W ty (intV n))
theorem spF_zero (W : World) (q : Int) : SpF W ⟨[], q, [], false, 0, 0⟩ none none 0 0 := spF_bare (rowOf_emp W)
theorem whole_plain (l : List UInt8) : getL l (treeS l) ⟨[], 0, [], false, 0, 0⟩ = l ∧ getL l (treeS l) ⟨[], 1, [], false, 0, 0⟩ ++ getL l (treeS l) ⟨[], 4, [], false, 0, 0⟩ = l := by
  obtain ⟨h1, h2, h3⟩ := tree_root l
  obtain ⟨⟨o1, o2, o3, o4⟩, _⟩ := okT_open (tree_okT l)
  rw [get_top _ _ 0 (.inl rfl), get_top _ _ 1 (.inr (.inl rfl)), get_top _ _ 4 (.inr (.inr rfl))]
  simp only [show ¬ ((0 : Int) = 4) by decide, show ¬ ((1 : Int) = 4) by decide, show ¬ ((1 : Int) = 0) by decide, if_false, if_true]
  rw [h1, h2]
  refine ⟨part_whole l, ?_⟩
  rw [h3, part_two l (Nat.zero_le _) (by omega)]
  exact part_whole l
/-- A leaf, or a message: part 1 is itself, its text is its body. -/
theorem one_plain {l : List UInt8} {t : Tr} (h : ¬ t.kind = 1) : getL l t ⟨[1], 0, [], false, 0, 0⟩ = getL l t ⟨[], 4, [], false, 0, 0⟩ ∧ ∀ n : Nat, n ≤ 65535 → getL l t ⟨[2 + (n : Int)], 0, [], false, 0, 0⟩ = [] := by
  have hp : partsM t = [t] := by unfold partsM; rw [if_neg h]
  have h1 : nthT (partsM t) 1 = some t := by rw [hp]; rfl
  refine ⟨?_, fun n hn => ?_⟩
  · rw [get_at l t t (by decide) (by decide) 0 (.inl rfl) h1, get_top _ _ 4 (.inr (.inr rfl))]
    rfl
  · have h2 : nthT (partsM t) (2 + (n : Int)) = none := by
      rw [hp]
      exact nth_high (by simp; omega)
    exact get_no l t (by omega) (by omega) 0 (.inl rfl) h2
/-- A multipart: each kid by its number; none behind the last. -/
theorem kid_plain {l : List UInt8} {t : Tr} (h : t.kind = 1) (hk : okT l.length t) {i : Nat} (hi : i < t.kids.length) (hb : i + 1 ≤ 4294967295) : getL l t ⟨[(i : Int) + 1], 5, [], false, 0, 0⟩ ++ getL l t ⟨[(i : Int) + 1], 0, [], false, 0, 0⟩ = partS l t.kids[i].hd.1 t.kids[i].bd.2 ∧
    t.kids[i].hd.1 ≤ t.kids[i].bd.2 ∧ t.kids[i].bd.2 ≤ l.length := by
  have hp : partsM t = t.kids := by unfold partsM; rw [if_pos h]
  have h1 : nthT (partsM t) ((i : Int) + 1) = some t.kids[i] := by rw [hp]; exact nth_at hi
  obtain ⟨⟨o1, o2, o3, o4⟩, _⟩ := okT_open (okK_mem (okT_open hk).2 t.kids[i] (List.getElem_mem hi))
  rw [get_at l t _ (by omega) (by omega) 5 (.inr (.inr (.inr rfl))) h1, get_at l t _ (by omega) (by omega) 0 (.inl rfl) h1]
  refine ⟨?_, by omega, o4⟩
  show partS l t.kids[i].hd.1 t.kids[i].hd.2 ++ partS l t.kids[i].bd.1 t.kids[i].bd.2 = _
  rw [o2]
  exact part_two l (by omega) o3
theorem kid_none {l : List UInt8} {t : Tr} (h : t.kind = 1) (n : Nat) (hb : t.kids.length + 1 + n ≤ 4294967295) : getL l t ⟨[(t.kids.length : Int) + 1 + (n : Int)], 0, [], false, 0, 0⟩ = [] := by
  have hp : partsM t = t.kids := by unfold partsM; rw [if_pos h]
  exact get_no l t (by omega) (by omega) 0 (.inl rfl) (by rw [hp]; exact nth_high (by omega))
theorem getL_len {l : List UInt8} {t : Tr} (s : Spc) (h : okT l.length t) : (getL l t s).length ≤ 3 * l.length + 2 := by
  have := allL_len s h
  unfold getL
  split
  · unfold cut16
    split
    · simp
    · rw [List.length_take, List.length_drop]
      omega
  · exact this
end Go.Proofs.YtahmhakdpmcdoaaGreatDoor
