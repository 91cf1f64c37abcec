/- Contracts of package tree: entity whole, Parse. -/
import Derived.Test.YtbphnlaoiikebaaGreatDoorGbTrG
import Derived.Test.YtbphnlaoiikebaaGreatDoorGbEnF
import Derived.Test.YtbphnlaoiikebaaGreatDoorGbTrP
import Derived.Lib.SlBytesConst
import Derived.Great.BuildSlice
namespace Go.Proofs.YtbphnlaoiikebaaGreatDoor
open Go Go.RowKit

theorem entity_any (M : Nat) (v : Value) (l : List UInt8) (w0 : World) (he : env w0) (hv : bytesArg w0 v l) (hbig : l.length ≤ 100000) (hM0 : w0.heap.size ≤ M) : ∀ (d : Nat), d ≤ 32 →
    ∀ (s : Sp) (g : Bool) (c : Nat) (w : World), s.1 ≤ s.2 → s.2 ≤ l.length → c ≤ 1000 → Below w0.heap.size w0 w → Mk w M v c →
      Calls Tryz.prog 20 #[.pointer (some ⟨M, 0, none⟩), .agg #[.int .i64 (s.1 : Int), .int .i64 (s.2 : Int)], .int .i64 ((32 - d : Nat) : Int), .bool g] w (entPost M v (entS l d s g c) w)
  | 0, hd => fun s g c w h1 h2 h3 h4 h5 => entity_step M v l w0 he hv hbig hM0 0 hd (fun d' e => by omega) s g c w h1 h2 h3 h4 h5
  | d + 1, hd => fun s g c w h1 h2 h3 h4 h5 => entity_step M v l w0 he hv hbig hM0 (d + 1) hd (fun d' e => by
      obtain rfl : d = d' := by omega
      exact entity_any M v l w0 he hv hbig hM0 d (by omega)) s g c w h1 h2 h3 h4 h5
def treePost (l : List UInt8) (w : World) (e : Ending) (w' : World) : Prop :=
  ∃ ka kn kc ca cn cc, e = .returned (.tuple #[.agg #[.int .i64 ((treeS l).kind : Int), .int .i64 ((treeS l).hd.1 : Int), .int .i64 ((treeS l).hd.2 : Int), .int .i64 ((treeS l).bd.1 : Int), .int .i64 ((treeS l).bd.2 : Int), .slice ka kn kc, .slice ca cn cc, .int .i64 ((treeS l).e.1 : Int), .int .i64 ((treeS l).e.2 : Int)], .int .i64 0]) ∧
    treeAt (fun k => w.heap.size ≤ k) w' (treeS l) (.agg #[.int .i64 ((treeS l).kind : Int), .int .i64 ((treeS l).hd.1 : Int), .int .i64 ((treeS l).hd.2 : Int), .int .i64 ((treeS l).bd.1 : Int), .int .i64 ((treeS l).bd.2 : Int), .slice ka kn kc, .slice ca cn cc, .int .i64 ((treeS l).e.1 : Int), .int .i64 ((treeS l).e.2 : Int)]) ∧ Below w.heap.size w w'
set_option maxRecDepth 100000 in
set_option maxHeartbeats 2000000 in
theorem treeParse_any (v : Value) (l : List UInt8) (w : World) (hv : bytesArg w v l) (hbig : l.length ≤ 100000) (he : env w) :
    Calls Tryz.prog 11 #[v] w (treePost l w) := by
  have HV := Lib.hid hv
  have HE := Lib.hid he
  obtain ⟨ao, cap, rfl, hc, hm, hs⟩ := hv
  have HT : Hid ((entS l 32 (0, l.length) false 1).1 = treeS l) := rfl
  obtain ⟨X, hX⟩ : ∃ X, X = (w.alloc (partO 0 0 0 0 0 (.slice none 0 0) (.slice none 0 0) 0 0)).alloc (.cells #[.slice ao l.length cap, .int .i64 1] 71) := ⟨_, rfl⟩
  have hz : X.heap.size = w.heap.size + 2 := by rw [hX]; simp
  have hB : Below w.heap.size w X := by rw [hX]; exact ((Below.refl _ _).alloc (Nat.le_refl _) _).alloc (by simp) _
  have o2 : X.heap[w.heap.size]? = some (partO 0 0 0 0 0 (.slice none 0 0) (.slice none 0 0) 0 0) := by rw [hX]; exact heap_alloc2_old _ _ _
  have o4 : X.heap[w.heap.size + 1]? = some (.cells #[.slice ao l.length cap, .int .i64 1] 71 (0, 0)) := by rw [hX]; exact heap_alloc2_new _ _ _
  have hMk : Mk X (w.heap.size + 1) (.slice ao l.length cap) 1 := ⟨by simp [World.cell?, o4], by simp [World.cell?, o4], by simp [World.frozen?, o4]⟩
  have HEn : Hid (Calls Tryz.prog 20 #[.pointer (some ⟨w.heap.size + 1, 0, none⟩), .agg #[.int .i64 0, .int .i64 (l.length : Int)], .int .i64 0, .bool false] X (entPost (w.heap.size + 1) (.slice ao l.length cap) (entS l 32 (0, l.length) false 1) X)) := (entity_any (w.heap.size + 1) (.slice ao l.length cap) l w he HV.out hbig (Nat.le_succ _) 32 (Nat.le_refl _) (0, l.length) false 1 X (Nat.zero_le _) (Nat.le_refl _) (by decide) hB hMk)
  have hbb : decide ((67108864 : Int) < (l.length : Int)) = false := decide_eq_false (by omega)
  have hbi : ¬ (67108864 : Int) < (l.length : Int) := by omega
  have HO2 := Lib.hid o2
  have HBX := Lib.hid hB
  have Hz := Lib.hid hz
  unfold entPost Gr at HEn
  unfold partO at hX
  clear hMk o2 o4 hB hz hs he
  go_enter Tryz.func11, Tryz.ntmps11
  go_wp2_with fail
  rw [← hX]
  clear hX
  with_reducible refine HEn.out.mono ?_
  rintro e w5 ⟨u, rfl, ht, hg, hm⟩
  rw [HT.out] at ht
  obtain ⟨tr, htr⟩ : ∃ tr, tr = treeS l := ⟨_, rfl⟩
  rw [← htr] at ht
  have HTE := Lib.hid htr
  obtain ⟨ka, kn, kc, ca, cn, cc, rfl⟩ := treeAt_agg ht
  have HTr := Lib.hid ht
  have HB5 : Hid (Below w.heap.size w w5) := gr_below HBX.out (Nat.le_succ _) hg
  have P2 := Lib.hid ((hg.block w.heap.size (by have := Hz.out; omega) (by intro e; have := Option.some.inj e; omega)).trans HO2.out)
  obtain ⟨b0, b1, b2, b3, b4, b5, b6, b7, b8⟩ := part_cells P2.out
  obtain ⟨f0, f1, f2, f3, f4, f5, f6, f7, f8⟩ := part_frozen P2.out
  clear ht hm HEn htr
  go_wp2_with fail
  (try simp only [Exit.inBlock, Exit.then])
  have h9 := row_set9 (a0 := .int .i64 (tr.kind : Int)) (a1 := .int .i64 (tr.hd.1 : Int)) (a2 := .int .i64 (tr.hd.2 : Int)) (a3 := .int .i64 (tr.bd.1 : Int)) (a4 := .int .i64 (tr.bd.2 : Int)) (a5 := .slice ka kn kc) (a6 := .slice ca cn cc) (a7 := .int .i64 (tr.e.1 : Int)) (a8 := .int .i64 (tr.e.2 : Int)) P2.out
  obtain ⟨g0, g1, g2, g3, g4, g5, g6, g7, g8⟩ := part_cells (k := (tr.kind : Int)) (a := (tr.hd.1 : Int)) (b := (tr.hd.2 : Int)) (c := (tr.bd.1 : Int)) (d := (tr.bd.2 : Int)) (ks := .slice ka kn kc) (cs := .slice ca cn cc) (e := (tr.e.1 : Int)) (f := (tr.e.2 : Int)) h9
  refine bodyPost_ret (v := .tuple #[.agg #[.int .i64 (tr.kind : Int), .int .i64 (tr.hd.1 : Int), .int .i64 (tr.hd.2 : Int), .int .i64 (tr.bd.1 : Int), .int .i64 (tr.bd.2 : Int), .slice ka kn kc, .slice ca cn cc, .int .i64 (tr.e.1 : Int), .int .i64 (tr.e.2 : Int)], .int .i64 0]) (by simp [results, Tryz.results11, go_sem, g0, g1, g2, g3, g4, g5, g6, g7, g8]) rfl ?_
  unfold treePost
  rw [← HTE.out]
  refine ⟨ka, kn, kc, ca, cn, cc, rfl, ?_, below_set9 HB5.out (Nat.le_refl _)⟩
  refine treeAt.keep ?_ _ _ HTr.out
  intro q hq _
  have hq' : X.heap.size ≤ q := hq
  have := Hz.out
  exact ⟨heap_set9 (by omega), by omega⟩
end Go.Proofs.YtbphnlaoiikebaaGreatDoor

/- Layer 19: the example that every statement asks first. -/
namespace Go.Proofs.YtbphnlaoiikebaaGreatDoor
open Go Go.RowKit

def exM : List UInt8 := [83, 117, 98, 106, 101, 99, 116, 58, 32, 104, 105, 13, 10, 70, 114, 111, 109, 58, 32, 65, 32, 60, 98, 64, 99, 62, 13, 10, 13, 10]
def exMT : Tr := .mk 0 (0, 30) (30, 30) [] [] (0, 0)
set_option maxRecDepth 100000 in
theorem exM_tree : treeS exM = exMT := by kernel_rfl
def exMZ : List Int := [83, 117, 98, 106, 101, 99, 116, 58, 32, 104, 105, 13, 10, 70, 114, 111, 109, 58, 32, 65, 32, 60, 98, 64, 99, 62, 13, 10, 13, 10]
def exMC : Array Value := (exMZ.map (Value.int .u8)).toArray
theorem exMC_row : exMC.toList = exM.map byteV := by kernel_rfl
theorem exMC_size : exMC.size = 30 := by kernel_rfl
set_option maxRecDepth 100000 in
theorem exM_row (w : World) (t : TypeId) (fr : Nat × Nat) : bytesArg (w.alloc (.cells exMC t fr)) (.slice (some ⟨w.heap.size, 0, none⟩) 30 30) exM :=
  (sliceAt_new w t fr exMC exM exMC_row).arg (cap := 30) (by decide) (by unfold maxLen; decide)
def exA : List Adx := [⟨0, [65], [98], [99]⟩]
def exE : Env := ⟨[], [104, 105], exA, exA, exA, [], [], [], [], [], false, true, false, false⟩
set_option maxRecDepth 100000 in
theorem exM_of : ofE exM (fsOf exM 0 30) = exE := by kernel_rfl
def exP : List UInt8 := [40, 78, 73, 76, 32, 34, 104, 105, 34, 32, 40, 40, 34, 65, 34, 32, 78, 73, 76, 32, 34, 98, 34, 32, 34, 99, 34, 41, 41, 32, 40, 40, 34, 65, 34, 32, 78, 73, 76, 32, 34, 98, 34, 32, 34, 99, 34, 41, 41, 32, 40, 40, 34, 65, 34, 32, 78, 73, 76, 32, 34, 98, 34, 32, 34, 99, 34, 41, 41, 32, 78, 73, 76, 32, 78, 73, 76, 32, 78, 73, 76, 32, 78, 73, 76, 32, 78, 73, 76, 41]
set_option maxRecDepth 100000 in
theorem exM_put : putE exE = exP := by kernel_rfl
theorem exE_small : smallE exE 1048576 50 := by
  have h : smallX exA 1048576 := by
    intro a ha
    obtain rfl := List.mem_singleton.1 ha
    decide
  have h0 : smallX [] 1048576 := by
    intro a ha
    cases ha
  exact ⟨by decide, by decide, by decide, by decide, h, h, h, h0, h0, h0, by decide, by decide, by decide, by decide, by decide, by decide⟩
set_option maxRecDepth 100000 in
set_option maxHeartbeats 8000000 in
theorem awake19_any (w : World) (he : env w) : Calls Tryz.prog 6 #[] w fun e w' => e = .returned (.bool true) ∧ Below w.heap.size w w' := by
  have HE := Lib.hid he
  have HPa : Hid (∀ W v, bytesArg W v exM → env W → Calls Tryz.prog 11 #[v] W fun e w' => ∃ ka kn kc ca cn cc, e = .returned (.tuple #[.agg #[.int .i64 0, .int .i64 0, .int .i64 30, .int .i64 30, .int .i64 30, .slice ka kn kc, .slice ca cn cc, .int .i64 0, .int .i64 0], .int .i64 0]) ∧ Below W.heap.size W w') := fun W v h hE => by
    have := treeParse_any v exM W h (by decide) hE
    unfold treePost at this
    rw [exM_tree] at this
    exact this.mono fun e w' ⟨ka, kn, kc, ca, cn, cc, h1, _, h2⟩ => ⟨ka, kn, kc, ca, cn, cc, h1, h2⟩
  have HOf : Hid (∀ W v ka kn kc ca cn cc, bytesArg W v exM → Calls Tryz.prog 12 #[v, .agg #[.int .i64 0, .int .i64 0, .int .i64 30, .int .i64 30, .int .i64 30, .slice ka kn kc, .slice ca cn cc, .int .i64 0, .int .i64 0]] W fun e w' =>
      ∃ a0 k0 a1 k1 a2 k2 a3 k3 a4 k4 a5 k5, e = .returned (.agg #[.string ⟨#[]⟩, .string ⟨#[104, 105]⟩, .slice a0 1 k0, .slice a1 1 k1, .slice a2 1 k2, .slice a3 0 k3, .slice a4 0 k4, .slice a5 0 k5, .string ⟨#[]⟩, .string ⟨#[]⟩, .bool false, .bool true, .bool false, .bool false]) ∧
        EnvAt w' exE (.slice a0 1 k0) (.slice a1 1 k1) (.slice a2 1 k2) (.slice a3 0 k3) (.slice a4 0 k4) (.slice a5 0 k5) ∧ Below W.heap.size W w') := fun W v ka kn kc ca cn cc h => by
    have := eof_any v exM 0 30 0 30 30 0 0 ka ca kn kc cn cc W h (by decide) (by decide) (by decide)
    unfold ofPost at this
    rw [exM_of] at this
    refine this.mono fun e w' ⟨u0, u1, u2, u3, u4, u5, h1, h2, h3⟩ => ?_
    obtain ⟨a0, k0, rfl, _⟩ := h2.r0.at
    obtain ⟨a1, k1, rfl, _⟩ := h2.r1.at
    obtain ⟨a2, k2, rfl, _⟩ := h2.r2.at
    obtain ⟨a3, k3, rfl, _⟩ := h2.r3.at
    obtain ⟨a4, k4, rfl, _⟩ := h2.r4.at
    obtain ⟨a5, k5, rfl, _⟩ := h2.r5.at
    exact ⟨a0, k0, a1, k1, a2, k2, a3, k3, a4, k4, a5, k5, h1, h2, h3⟩
  have HPu : Hid (∀ W a0 k0 a1 k1 a2 k2 a3 k3 a4 k4 a5 k5, EnvAt W exE (.slice a0 1 k0) (.slice a1 1 k1) (.slice a2 1 k2) (.slice a3 0 k3) (.slice a4 0 k4) (.slice a5 0 k5) → tab W →
      Calls Tryz.prog 10 #[.agg #[.string ⟨#[]⟩, .string ⟨#[104, 105]⟩, .slice a0 1 k0, .slice a1 1 k1, .slice a2 1 k2, .slice a3 0 k3, .slice a4 0 k4, .slice a5 0 k5, .string ⟨#[]⟩, .string ⟨#[]⟩, .bool false, .bool true, .bool false, .bool false]] W fun e w' => e = .returned (.string ⟨exP.toArray⟩) ∧ Below W.heap.size W w') := fun W a0 k0 a1 k1 a2 k2 a3 k3 a4 k4 a5 k5 h ht => by
    have := eput_any exE _ _ _ _ _ _ W h exE_small ht
    rw [exM_put] at this
    exact this
  have HLi : Hid (∀ W, tab W → Calls Tryz.prog 7 #[.slice none 0 0] W fun e w' => e = .returned (.string ⟨#[78, 73, 76]⟩) ∧ Below W.heap.size W w') := fun W ht =>
    elist_any (.slice none 0 0) [] W ⟨none, 0, rfl, Nat.le_refl _, Nat.zero_le _, .inl rfl⟩ (fun a ha => by cases ha) (by decide) ht
  have kc := fun (w : World) (C : Array Value) (n c : Nat) => Lib.run_convert_bytes_const (P := Tryz.prog) w 39 5 C n c Tryz.underlying39 Tryz.underlying5
  clear he
  go_enter Tryz.func6, Tryz.ntmps6
  go_upto_region 1 with fail
  apply wp_region_lit
  refine wpList_buildFlat rfl 39 5 30 _ rfl .u8 exMZ Tryz.underlying39 (by kernel_rfl) (by kernel_rfl) (by kernel_rfl) (by decide) (by decide) (by kernel_rfl) ?_
  have hC : (exMZ.map (Value.int .u8)).toArray = exMC := rfl
  rw [hC]
  clear hC
  go_wp2_with fail
  with_reducible refine (HPa.out _ _ ?h1 ?h2).mono ?_
  case h1 => exact exM_row _ _ _
  case h2 => exact HE.out.below ((Below.refl _ _).alloc (Nat.le_refl _) _)
  rintro e w5 ⟨ka, kn, kc', ca, cn, cc, rfl, hb5⟩
  have HB5 : Hid (Below w.heap.size w w5) := ((Below.refl _ _).alloc (Nat.le_refl _) _).trans (hb5.mono (by simp))
  have hrow := bytesArg.below (exM_row w 5 (exMC.size, exMC.size + 1)) hb5
  have HRow := Lib.hid hrow
  clear hb5 hrow HPa kc
  go_wp2_with fail
  with_reducible refine (HOf.out _ _ _ _ _ _ _ _ ?h3).mono ?_
  case h3 => exact bytesArg.below HRow.out ((Below.refl _ _).alloc (Nat.le_refl _) _)
  rintro e w6 ⟨a0, k0, a1, k1, a2, k2, a3, k3, a4, k4, a5, k5, rfl, hen, hb6⟩
  have HB6 : Hid (Below w.heap.size w w6) := (HB5.out.alloc HB5.out.size _).trans (hb6.mono (by have := HB5.out.size; simp; omega))
  have HEn := Lib.hid hen
  clear hen hb6 HOf HRow HB5
  go_wp2_with fail
  with_reducible refine (HPu.out _ _ _ _ _ _ _ _ _ _ _ _ _ ?h4 ?h5).mono ?_
  case h4 => exact HEn.out.below ((Below.refl _ _).alloc (Nat.le_refl _) _)
  case h5 => exact (HE.out.below (HB6.out.alloc HB6.out.size _)).1
  rintro e w7 ⟨rfl, hb7⟩
  have HB7 : Hid (Below w.heap.size w w7) := (HB6.out.alloc HB6.out.size _).trans (hb7.mono (by have := HB6.out.size; simp; omega))
  clear hb7 HPu HEn HB6
  go_wp2_with fail
  with_reducible refine (HLi.out _ ?h6).mono ?_
  case h6 => exact (HE.out.below HB7.out).1
  rintro e w8 ⟨rfl, hb8⟩
  go_wp2_with fail
  go_ret
  exact ⟨rfl, HB7.out.trans (hb8.mono HB7.out.size)⟩
end Go.Proofs.YtbphnlaoiikebaaGreatDoor
