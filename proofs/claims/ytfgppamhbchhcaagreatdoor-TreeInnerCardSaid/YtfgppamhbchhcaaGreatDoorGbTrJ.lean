/- The example that every statement asks first: its tree. -/
import Derived.Test.YtfgppamhbchhcaaGreatDoorGb32
import Derived.Lib.SlBytesConst
import Derived.Great.BuildSlice
namespace Go.Proofs.YtfgppamhbchhcaaGreatDoor
open Go Go.RowKit

def exB : List UInt8 := [67, 111, 110, 116, 101, 110, 116, 45, 84, 121, 112, 101, 58, 32, 109, 117, 108, 116, 105, 112, 97, 114, 116, 47, 109, 105, 120, 101, 100, 59, 32, 98, 111, 117, 110, 100, 97, 114, 121, 61, 98, 13, 10, 13, 10, 112, 114, 101, 13, 10, 45, 45, 98, 13, 10, 13, 10, 111, 110, 101, 13, 10, 45, 45, 98, 13, 10, 67, 111, 110, 116, 101, 110, 116, 45, 84, 121, 112, 101, 58, 32, 109, 101, 115, 115, 97, 103, 101, 47, 114, 102, 99, 56, 50, 50, 13, 10, 13, 10, 83, 117, 98, 106, 101, 99, 116, 58, 32, 115, 13, 10, 13, 10, 116, 119, 111, 13, 10, 45, 45, 98, 45, 45, 13, 10, 112, 111, 115, 116]
def exK : Tr := .mk 2 (67, 99) (99, 116) [.mk 0 (99, 113) (113, 116) [] [] (0, 0)] [] (0, 0)
def exT : Tr := .mk 1 (0, 45) (45, 129) [.mk 0 (55, 57) (57, 60) [] [] (0, 0), exK] [(48, 55), (60, 67)] (116, 125)
set_option maxRecDepth 100000 in
theorem ex_tree : treeS exB = exT := by kernel_rfl
def exZ : List Int := [67, 111, 110, 116, 101, 110, 116, 45, 84, 121, 112, 101, 58, 32, 109, 117, 108, 116, 105, 112, 97, 114, 116, 47, 109, 105, 120, 101, 100, 59, 32, 98, 111, 117, 110, 100, 97, 114, 121, 61, 98, 13, 10, 13, 10, 112, 114, 101, 13, 10, 45, 45, 98, 13, 10, 13, 10, 111, 110, 101, 13, 10, 45, 45, 98, 13, 10, 67, 111, 110, 116, 101, 110, 116, 45, 84, 121, 112, 101, 58, 32, 109, 101, 115, 115, 97, 103, 101, 47, 114, 102, 99, 56, 50, 50, 13, 10, 13, 10, 83, 117, 98, 106, 101, 99, 116, 58, 32, 115, 13, 10, 13, 10, 116, 119, 111, 13, 10, 45, 45, 98, 45, 45, 13, 10, 112, 111, 115, 116]
def exC : Array Value := (exZ.map (Value.int .u8)).toArray
theorem exC_row : exC.toList = exB.map byteV := by kernel_rfl
theorem exC_size : exC.size = 129 := by kernel_rfl
set_option maxRecDepth 100000 in
theorem ex_row (w : World) (t : TypeId) (fr : Nat × Nat) : bytesArg (w.alloc (.cells exC t fr)) (.slice (some ⟨w.heap.size, 0, none⟩) 129 129) exB :=
  (sliceAt_new w t fr exC exB exC_row).arg (cap := 129) (by decide) (by unfold maxLen; decide)
theorem own_len {S : Nat → Prop} {W : World} {ty : TypeId} {size n cn cc : Nat} {ca : Option Addr} {xs : List Value} (h : ownS S W ty size (.slice ca cn cc) n xs) : cn = n := by
  rcases h.1.2 with ⟨e, h0⟩ | ⟨g, cap, cur, e, _⟩
  · obtain ⟨_, rfl, _⟩ := Value.slice.inj e; exact h0.symm
  · obtain ⟨_, rfl, _⟩ := Value.slice.inj e; rfl
theorem kids_len {S : Nat → Prop} {W : World} {t : Tr} {k1 k2 k3 k4 k5 k8 k9 : Value} {a : Option Addr} {n c : Nat} {cs : Value} (h : treeAt S W t (.agg #[k1, k2, k3, k4, k5, .slice a n c, cs, k8, k9])) : n = t.kids.length := by
  obtain ⟨ka, kn, kc, ca, cn, cc, us, he, _, ho, hk⟩ := treeAt_open h
  have h1 := (kids_at ho hk).1
  simp only [Value.agg.injEq, Array.mk.injEq, List.cons.injEq, Value.slice.injEq] at he
  rw [he.2.2.2.2.2.1.2.1]
  exact h1
set_option maxRecDepth 100000 in
set_option maxHeartbeats 4000000 in
theorem awake_any (w : World) (he : env w) : Calls Tryz.prog 8 #[] w fun e w' => e = .returned (.bool true) ∧ Below w.heap.size w w' := by
  have HE := Lib.hid he
  have HPa : Hid (∀ W v, bytesArg W v exB → env W → Calls Tryz.prog 9 #[v] W fun e w' => ∃ ka kn kc ca cn cc, e = .returned (.tuple #[.agg #[.int .i64 1, .int .i64 0, .int .i64 45, .int .i64 45, .int .i64 129, .slice ka kn kc, .slice ca cn cc, .int .i64 116, .int .i64 125], .int .i64 0]) ∧
      treeAt (fun k => W.heap.size ≤ k) w' exT (.agg #[.int .i64 1, .int .i64 0, .int .i64 45, .int .i64 45, .int .i64 129, .slice ka kn kc, .slice ca cn cc, .int .i64 116, .int .i64 125]) ∧ Below W.heap.size W w') := fun W v h hE => by
    have := treeParse_any v exB W h (by decide) hE
    unfold treePost at this
    rw [ex_tree] at this
    exact this
  have kc := fun (w : World) (C : Array Value) (n c : Nat) => Lib.run_convert_bytes_const (P := Tryz.prog) w 24 5 C n c Tryz.underlying24 Tryz.underlying5
  clear he
  go_enter Tryz.func8, Tryz.ntmps8
  go_upto_region 1 with fail
  apply wp_region_lit
  refine wpList_buildFlat rfl 24 5 129 _ rfl .u8 exZ Tryz.underlying24 (by kernel_rfl) (by kernel_rfl) (by kernel_rfl) (by decide) (by decide) (by kernel_rfl) ?_
  have hC : (exZ.map (Value.int .u8)).toArray = exC := rfl
  rw [hC]
  clear hC
  go_wp2_with fail
  with_reducible refine (HPa.out _ _ ?h1 ?h2).mono ?_
  case h1 => exact ex_row _ _ _
  case h2 => exact HE.out.below ((Below.refl _ _).alloc (Nat.le_refl _) _)
  rintro e w5 ⟨ka, kn, kc, ca, cn, cc, rfl, ht, hb5⟩
  have HB5 : Hid (Below w.heap.size w w5) := ((Below.refl _ _).alloc (Nat.le_refl _) _).trans (hb5.mono (by simp))
  have HRow := Lib.hid (bytesArg.below (ex_row w 5 (exC.size, exC.size + 1)) hb5)
  have HT := Lib.hid ht
  obtain ⟨ka', kn', kc', ca', cn', cc', us, he, hcu, ho, hk⟩ := treeAt_open ht
  simp only [Value.agg.injEq, Array.mk.injEq, List.cons.injEq, Value.slice.injEq] at he
  obtain ⟨_, _, _, _, _, ⟨rfl, rfl, rfl⟩, ⟨rfl, rfl, rfl⟩, _⟩ := he
  obtain rfl : cn = 2 := own_len hcu
  obtain ⟨hkn, hkc, hkm, hat⟩ := kids_at ho hk
  obtain rfl : kn = 2 := hkn
  obtain ⟨g, a, n, c, a2, n2, c2, rfl, hg, _, h9, _⟩ := hat 0 (by decide)
  obtain ⟨g', b, nb, cb, b2, nb2, cb2, he', _, _, k9, htk⟩ := hat 1 (by decide)
  have hgg : g' = g := by injection he' with e1; injection e1 with e2; exact e2.symm
  subst hgg
  obtain rfl : nb = 1 := kids_len htk
  have p3 : w5.cell? ⟨g', 3, none⟩ = some (.int .i64 57) := h9.2.2.2.1
  have p4 : w5.cell? ⟨g', 4, none⟩ = some (.int .i64 60) := h9.2.2.2.2.1
  have p9 : w5.cell? ⟨g', 9, none⟩ = some (.int .i64 2) := k9.1
  have p14 : w5.cell? ⟨g', 14, none⟩ = some (.slice b 1 cb) := k9.2.2.2.2.2.1
  clear h9 k9 hat htk he' hb5 hcu ho hk ht HPa
  unfold maxLen at hkm
  have hone : bytesArg w5 (.slice (some ⟨w.heap.size, 57, none⟩) 3 72) [111, 110, 101] := by
    obtain ⟨ao, cap, he, h1, h2, h3⟩ := HRow.out
    obtain ⟨rfl, _, rfl⟩ := Value.slice.inj he
    have h4 : sliceAt w5 (some ⟨w.heap.size, 0, none⟩) exB := h3
    have h5 := (h4.drop (k := 57)).take 3
    have h6 : (exB.drop 57).take 3 = [111, 110, 101] := rfl
    rw [h6, Nat.zero_add] at h5
    exact h5.arg (cap := 72) (by decide) (by unfold maxLen; decide)
  have hconv := fun W (hb : Below w5.heap.size w5 W) => bytesArg_string (bytesArg.below hone hb)
  have HCv := Lib.hid hconv
  clear hone hconv
  have HCn := Lib.hid (fun (W : World) (hb : Below w5.heap.size w5 W) => count_any _ exT (Nat.le_refl _) (fun k => (w.alloc (.cells exC 5 (exC.size, exC.size + 1))).heap.size ≤ k) W _ (treeAt.keep (fun q hS hq => ⟨hb.block q hq, hS⟩) _ _ HT.out) (by decide))
  have HDp := Lib.hid (fun (W : World) (hb : Below w5.heap.size w5 W) => deep_any _ exT (Nat.le_refl _) (fun k => (w.alloc (.cells exC 5 (exC.size, exC.size + 1))).heap.size ≤ k) W _ (treeAt.keep (fun q hS hq => ⟨hb.block q hq, hS⟩) _ _ HT.out) (by decide) (by decide))
  have hc4 : (countT exT : Int) = 4 := rfl
  have hd2 : (deepT exT : Int) = 2 := rfl
  rw [hc4] at HCn
  rw [hd2] at HDp
  clear hc4 hd2
  go_upto_region 6 with fail
  obtain ⟨X, hX⟩ : ∃ X, X = (w5.alloc (.cells #[.int .i64 1, .int .i64 0, .int .i64 45, .int .i64 45, .int .i64 129, .slice (some ⟨g', 0, none⟩) 2 kc, .slice ca 2 cc, .int .i64 (exT.e.1 : Int), .int .i64 (exT.e.2 : Int)] 30)).alloc (.cells #[.int .i64 57, .int .i64 60] 26) := ⟨_, rfl⟩
  have hBX : Below w5.heap.size w5 X := by rw [hX]; exact ((Below.refl _ _).alloc (Nat.le_refl _) _).alloc (by simp) _
  have o0 : X.heap[w5.heap.size]? = some (partO 1 0 45 45 129 (.slice (some ⟨g', 0, none⟩) 2 kc) (.slice ca 2 cc) exT.e.1 exT.e.2) := by rw [hX]; exact heap_alloc2_old _ _ _
  have o1 : X.heap[w5.heap.size + 1]? = some (.cells #[.int .i64 57, .int .i64 60] 26 (0, 0)) := by rw [hX]; exact heap_alloc2_new _ _ _
  have hz : X.heap.size = w5.heap.size + 2 := by rw [hX]; simp
  rw [← hX]
  have hone := HCv.out X hBX
  obtain ⟨x0, x1, x2, x3, x4, x5, x6, x7, x8⟩ := part_cells o0
  have y0 : X.cell? ⟨w5.heap.size + 1, 0, none⟩ = some (.int .i64 57) := by simp [World.cell?, o1]
  have y1 : X.cell? ⟨w5.heap.size + 1, 1, none⟩ = some (.int .i64 60) := by simp [World.cell?, o1]
  have hgX : X.heap[g']? = w5.heap[g']? := hBX.block g' hg
  have z9 : X.cell? ⟨g', 9, none⟩ = some (.int .i64 2) := (World.cell?_of_block (a := ⟨g', 9, none⟩) hgX).trans p9
  have O0 := Lib.hid o0
  have HBX := Lib.hid hBX
  have Hz := Lib.hid hz
  clear hX hz hgX p3 p4 p9 p14 o0 o1 hBX
  go_wp2_with fail
  refine (HCn.out X HBX.out).mono ?_
  rintro e w6 ⟨rfl, hb6⟩
  have O6 := Lib.hid ((hb6.block w5.heap.size (by have := Hz.out; omega)).trans O0.out)
  have HB6 := Lib.hid (HBX.out.trans (hb6.mono HBX.out.size))
  clear hb6 x0 x1 x2 x3 x4 x5 x6 x7 x8 y0 y1 z9
  obtain ⟨x0, x1, x2, x3, x4, x5, x6, x7, x8⟩ := part_cells O6.out
  go_wp2_with fail
  refine (HDp.out w6 HB6.out).mono ?_
  rintro e w7 ⟨rfl, hb7⟩
  have HB7 := Lib.hid (HB6.out.trans (hb7.mono HB6.out.size))
  clear hb7
  go_wp2_with fail
  go_ret
  exact ⟨rfl, HB5.out.trans (HB7.out.mono HB5.out.size)⟩
end Go.Proofs.YtfgppamhbchhcaaGreatDoor
