/- Contracts of package lines, and of the document's: Within, Text. -/
import Derived.Test.YtbphnlaoiikebaaGreatDoorProg
import Derived.Test.YtbphnlaoiikebaaGreatDoorGbHdrM
import Derived.LoopN
import Derived.Outline
import Derived.BigQuiet
import Derived.Deep.QuietTactic
import Derived.Test.YtbphnlaoiikebaaGreatDoorShelf
import Derived.RangeFuncNested
import Derived.RangeFuncBound
import Derived.RangeFuncCalls
import Derived.RangeFuncLeaves
import Derived.Shelf.Abstract
import Derived.Shelf.RegionOpen
import Derived.WalkKit
import Derived.OwnWalkIn
import Derived.TacticsInMore
import Derived.LoopNIn
import Derived.LoopIn
import Derived.Test.YtbphnlaoiikebaaGreatDoorGbParC
import Derived.Maps.AppendAt
namespace Go.Proofs.YtbphnlaoiikebaaGreatDoor
open Go Go.RowKit

def withinB (f t n : Int) : Bool := decide (0 ≤ f ∧ f ≤ t ∧ t ≤ n)
theorem withinB_yes {f t n : Int} (h : 0 ≤ f ∧ f ≤ t ∧ t ≤ n) : withinB f t n = true := decide_eq_true h
theorem withinB_no {f t n : Int} (h : ¬ (0 ≤ f ∧ f ≤ t ∧ t ≤ n)) : withinB f t n = false := decide_eq_false h

theorem within_any (f t n : Int) (w : World) : Calls Tryz.prog 69 #[.agg #[.int .i64 f, .int .i64 t], .int .i64 n] w fun e w' => e = .returned (.bool (withinB f t n)) ∧ Below w.heap.size w w' := by
  by_cases h1 : 0 ≤ f
  · by_cases h2 : f ≤ t
    · by_cases h3 : t ≤ n
      · have HE : Hid (withinB f t n = true) := withinB_yes ⟨h1, h2, h3⟩
        go_enter Tryz.func69, Tryz.ntmps69
        go_wp2
        go_ret
        exact ⟨ret_bool (by rw [HE.out]), (Below.refl _ _).alloc (Nat.le_refl _) _⟩
      · have HE : Hid (withinB f t n = false) := withinB_no (fun h => h3 h.2.2)
        go_enter Tryz.func69, Tryz.ntmps69
        go_wp2
        go_ret
        exact ⟨ret_bool (by rw [HE.out]), (Below.refl _ _).alloc (Nat.le_refl _) _⟩
    · have HE : Hid (withinB f t n = false) := withinB_no (fun h => h2 h.2.1)
      go_enter Tryz.func69, Tryz.ntmps69
      go_wp2
      go_ret
      exact ⟨ret_bool (by rw [HE.out]), (Below.refl _ _).alloc (Nat.le_refl _) _⟩
  · have HE : Hid (withinB f t n = false) := withinB_no (fun h => h1 h.1)
    go_enter Tryz.func69, Tryz.ntmps69
    go_wp2
    go_ret
    exact ⟨ret_bool (by rw [HE.out]), (Below.refl _ _).alloc (Nat.le_refl _) _⟩

theorem box2_cells {W W' : World} {t : TypeId} {a b : Value} (h : Below (W.alloc (.cells #[a, b] t)).heap.size (W.alloc (.cells #[a, b] t)) W') :
    W'.cell? ⟨W.heap.size, 0, none⟩ = some a ∧ W'.cell? ⟨W.heap.size, 1, none⟩ = some b := by
  have e : W'.heap[W.heap.size]? = some (.cells #[a, b] t (0, 0)) := (h.block _ (by simp)).trans (heap_alloc_new W _)
  simp [World.cell?, e]
theorem box3_cells {W W' : World} {t : TypeId} {a b c : Value} (h : Below (W.alloc (.cells #[a, b, c] t)).heap.size (W.alloc (.cells #[a, b, c] t)) W') :
    W'.cell? ⟨W.heap.size, 0, none⟩ = some a ∧ W'.cell? ⟨W.heap.size, 1, none⟩ = some b ∧ W'.cell? ⟨W.heap.size, 2, none⟩ = some c := by
  have e : W'.heap[W.heap.size]? = some (.cells #[a, b, c] t (0, 0)) := (h.block _ (by simp)).trans (heap_alloc_new W _)
  simp [World.cell?, e]

/-- A cut of bytes that came in is what it says. -/
theorem sliceAt.cut {W : World} {ao : Option Addr} {l : List UInt8} (h : sliceAt W ao l) (F T : Nat) : sliceAt W (ao.map fun x => x.add F) (partS l F T) := by
  rcases h with rfl | ⟨b, off, rfl, hlt, hc⟩
  · exact .inl (by simp [partS])
  · show sliceAt W (some ((⟨b, off, none⟩ : Addr).add F)) _
    rw [Addr.add_lit]
    exact (sliceAt.drop (k := F) (.inr ⟨b, off, rfl, hlt, hc⟩)).take _
theorem cut_string {W : World} {ao : Option Addr} {l : List UInt8} {cap F T : Nat} (hs : sliceAt W ao l) (h1 : F ≤ T) (h2 : T ≤ l.length) (h3 : l.length ≤ cap) (h4 : cap ≤ maxLen) :
    (convert 39 9 (.slice (ao.map fun x => x.add F) (T - F) (cap - F))).run Tryz.prog W = .ok (.string ⟨(partS l F T).toArray⟩) W := by
  have := bytesArg_string (v := .slice (ao.map fun x => x.add F) (T - F) (cap - F)) (l := partS l F T) (W := W)
    ⟨_, cap - F, by rw [partS_len l h2], by rw [partS_len l h2]; omega, by omega, hs.cut F T⟩
  exact this
theorem cut_string0 {W : World} {ao : Option Addr} {l : List UInt8} {F T : Nat} (h1 : F ≤ T) (h2 : T ≤ l.length) (h3 : l.length ≤ F) :
    (convert 39 9 (.slice ao (T - F) 0)).run Tryz.prog W = .ok (.string ⟨(partS l F T).toArray⟩) W := by
  have e : partS l F T = [] := List.eq_nil_of_length_eq_zero (by rw [partS_len l h2]; omega)
  rw [e, show T - F = 0 by omega]
  exact bytesArg_string (v := .slice ao 0 0) (l := []) (W := W) ⟨_, 0, rfl, Nat.le_refl _, Nat.zero_le _, .inl rfl⟩
end Go.Proofs.YtbphnlaoiikebaaGreatDoor

/- Contracts of package lines: Text. -/
namespace Go.Proofs.YtbphnlaoiikebaaGreatDoor
open Go Go.RowKit

def textS (l : List UInt8) (f t : Int) : List UInt8 := if withinB f t l.length = true then partS l f.toNat t.toNat else []
theorem textS_nat (l : List UInt8) {f t : Nat} (h1 : f ≤ t) (h2 : t ≤ l.length) : textS l f t = partS l f t := by
  unfold textS
  rw [withinB_yes (by omega), if_pos rfl]
  rfl
theorem textS_no (l : List UInt8) {f t : Int} (h : withinB f t l.length = false) : textS l f t = [] := by
  unfold textS
  rw [h]
  rfl

set_option maxHeartbeats 1000000 in
theorem text_any (v : Value) (l : List UInt8) (f t n : Int) (w : World) (hv : bytesArg w v l) :
    Calls Tryz.prog 73 #[v, .agg #[.int .i64 f, .int .i64 t, .int .i64 n]] w fun e w' => e = .returned (.string ⟨(textS l f t).toArray⟩) ∧ Below w.heap.size w w' := by
  obtain ⟨ao, cap, rfl, hc, hm, hs⟩ := hv
  rcases Bool.eq_false_or_eq_true (withinB f t l.length) with hw | hw
  · have hw' := of_decide_eq_true hw
    obtain ⟨F, rfl⟩ : ∃ F : Nat, f = F := ⟨f.toNat, by omega⟩
    obtain ⟨T, rfl⟩ : ∃ T : Nat, t = T := ⟨t.toNat, by omega⟩
    have hft : F ≤ T := by omega
    have htl : T ≤ l.length := by omega
    have HW := Lib.hid (within_any (F : Int) (T : Int) (l.length : Int))
    have HE := Lib.hid hw
    have HS : Hid (sliceAt w ao l) := hs
    clear hw hw' hs
    go_enter Tryz.func73, Tryz.ntmps73
    go_wp2_with fail
    with_reducible refine (HW.out _).mono ?_
    rintro e w1 ⟨rfl, hb1⟩
    rw [HE.out]
    have HB1 := Lib.hid hb1
    obtain ⟨c0, c1, _⟩ := box3_cells hb1
    clear hb1
    have HB : Hid (Below w.heap.size w w1) := ((Below.refl _ _).alloc (Nat.le_refl _) _).trans (HB1.out.mono (by simp))
    have HT : Hid (textS l (F : Int) (T : Int) = partS l F T) := textS_nat l hft htl
    by_cases hcF : cap = F
    · subst hcF
      have hcv := cut_string0 (W := w1) (ao := ao) hft htl hc
      go_wp2
      go_ret
      exact ⟨ret_str (by rw [HT.out]), HB.out⟩
    · have hcv := cut_string (sliceAt.below HS.out HB.out) hft htl hc hm
      go_wp2
      go_ret
      exact ⟨ret_str (by rw [HT.out]), HB.out⟩
  · have HW := Lib.hid (within_any f t (l.length : Int))
    have HE := Lib.hid hw
    have HT := Lib.hid (textS_no l hw)
    clear hw hs
    go_enter Tryz.func73, Tryz.ntmps73
    go_wp2_with fail
    with_reducible refine (HW.out _).mono ?_
    rintro e w1 ⟨rfl, hb1⟩
    rw [HE.out]
    have HB : Hid (Below w.heap.size w w1) := ((Below.refl _ _).alloc (Nat.le_refl _) _).trans (hb1.mono (by simp))
    obtain ⟨c0, c1, _⟩ := box3_cells hb1
    clear hb1
    go_wp2
    go_ret
    exact ⟨ret_str (by rw [HT.out]), HB.out⟩
end Go.Proofs.YtbphnlaoiikebaaGreatDoor

/- Contracts of package lines: first. -/
namespace Go.Proofs.YtbphnlaoiikebaaGreatDoor
open Go Go.RowKit

def intsOf (l : List UInt8) : List Int := l.map fun b => (b.toNat : Int)
theorem intsOf_len (l : List UInt8) : (intsOf l).length = l.length := by simp [intsOf]
theorem bytesOf_ints (l : List UInt8) : Lib.bytesOf (intsOf l) = l := by
  unfold Lib.bytesOf intsOf
  rw [List.map_map]
  conv => rhs; rw [← List.map_id l]
  apply List.map_congr_left
  intro b _
  apply toNat_eq
  have := b.toNat_lt
  simp
theorem sliceAt.ints {w : World} {ao : Option Addr} {l : List UInt8} (h : sliceAt w ao l) : Lib.BytesIn w ao l.length (intsOf l) := by
  intro hn
  rcases h with rfl | ⟨b, off, rfl, hb, hc⟩
  · simp at hn
  · refine ⟨b, off, rfl, fun i hi => ?_⟩
    rw [hc i hi]
    simp [byteV, intsOf, List.getD, hi]
theorem index_any (b off n cap : Nat) (p : List UInt8) (w : World) (hn : p.length = n) (hs : sliceAt w (some ⟨b, off, none⟩) p) :
    Calls Tryz.prog 151 #[.slice (some ⟨b, off, none⟩) n cap, .int .u8 10] w fun e w' => e = .returned (.int .i64 (if feedI p < n then (feedI p : Int) else -1)) ∧ w = w' := by
  subst hn
  refine (Tryz.bytes_IndexByte_at ⟨b, off, none⟩ p.length cap (intsOf p) 10 w (intsOf_len p) fun i hi => ?_).mono ?_
  · rcases hs with rfl | ⟨b', off', e, _, hc⟩
    · simp at hi
    · cases e
      rw [Addr.add_lit, hc i hi]
      simp [byteV, intsOf, List.getD, hi]
  · rintro e w' ⟨rfl, rfl⟩
    refine ⟨ret_int ?_, rfl⟩
    rw [bytesOf_ints]
    exact indexByte_feed p
theorem suffix_13 (p : List UInt8) : Lib.hasSuffix p [13] = decide (0 < p.length ∧ p.getD (p.length - 1) 0 = 13) := by
  unfold Lib.hasSuffix
  rw [Bool.eq_iff_iff, List.isSuffixOf_iff_suffix, decide_eq_true_iff]
  constructor
  · rintro ⟨t, rfl⟩
    simp [List.getD]
  · rintro ⟨h1, h2⟩
    refine ⟨p.take (p.length - 1), ?_⟩
    rw [List.getD_eq_getElem?_getD, List.getElem?_eq_getElem (by omega)] at h2
    simp only [Option.getD_some] at h2
    have := List.take_succ_eq_append_getElem (l := p) (i := p.length - 1) (by omega)
    rw [h2, show p.length - 1 + 1 = p.length by omega, List.take_length] at this
    exact this.symm
theorem suffix_any (b o n c B : Nat) (p : List UInt8) (w : World) (hn : p.length = n) (hc : n ≤ c) (hm : c ≤ maxLen) (hs : sliceAt w (some ⟨b, o, none⟩) p) (hB : sliceAt w (some ⟨B, 0, none⟩) [13]) :
    Calls Tryz.prog 152 #[.slice (some ⟨b, o, none⟩) n c, .slice (some ⟨B, 0, none⟩) 1 1] w fun e w' =>
      e = .returned (.slice (some ⟨b, o, none⟩) (if 0 < n ∧ p.getD (n - 1) 0 = 13 then n - 1 else n) c) ∧ w = w' := by
  subst hn
  refine (Tryz.bytes_TrimSuffix_all (some ⟨b, o, none⟩) (some ⟨B, 0, none⟩) p.length c 1 1 (intsOf p) (intsOf [13]) w (intsOf_len p) (intsOf_len [13]) hc (by unfold maxLen at hm; omega) hs.ints hB.ints).mono ?_
  rintro e w' ⟨rfl, rfl⟩
  refine ⟨?_, rfl⟩
  show Ending.returned (Lib.bytesTrimSuffix b o p.length c (intsOf p) (intsOf [13])) = _
  unfold Lib.bytesTrimSuffix
  rw [bytesOf_ints, bytesOf_ints, suffix_13, intsOf_len]
  by_cases h : 0 < p.length ∧ p.getD (p.length - 1) 0 = 13
  · rw [if_pos h, decide_eq_true h, if_pos rfl]
    rfl
  · rw [if_neg h, decide_eq_false h]
    rfl

theorem ret_ln {x : Ln} {a b c : Int} (h1 : a = (x.f : Int)) (h2 : b = (x.t : Int)) (h3 : c = (x.n : Int)) : Ending.returned (.agg #[.int .i64 a, .int .i64 b, .int .i64 c]) = .returned (lnV x) := by subst h1 h2 h3; rfl
theorem firstS_feed (l : List UInt8) {F T K : Nat} (hK : K = feedI (partS l F T)) (h : K < T - F) :
    firstS l F T = ⟨F, F + (if 0 < K ∧ ((partS l F T).take K).getD (K - 1) 0 = 13 then K - 1 else K), F + K + 1⟩ := by
  subst hK
  unfold firstS
  rw [if_pos h]
  congr 1
  unfold endA
  by_cases h0 : 0 < feedI (partS l F T)
  · have e : ((partS l F T).take (feedI (partS l F T))).getD (feedI (partS l F T) - 1) 0 = l.getD (F + feedI (partS l F T) - 1) 0 := by
      rw [List.getD_eq_getElem?_getD, List.getElem?_take, if_pos (by omega), ← List.getD_eq_getElem?_getD, partS_at l (by omega)]
      congr 1
      omega
    rw [e]
    by_cases h1 : l.getD (F + feedI (partS l F T) - 1) 0 = 13
    · rw [if_pos ⟨by omega, h1⟩, if_pos ⟨h0, h1⟩]
      omega
    · rw [if_neg (fun h => h1 h.2), if_neg (fun h => h1 h.2)]
  · rw [if_neg (fun h => h0 (by omega)), if_neg (fun h => h0 h.1)]
theorem heap3 (w : World) (A B C : Obj) : (((w.alloc A).alloc B).alloc C).heap[w.heap.size + 1]? = some B :=
  (Below.heap_alloc _ C _ (by simp)).trans (heap_alloc2_new w A B)
theorem sliceAt_new' (w : World) (t : TypeId) (fr : Nat × Nat) (cs : Array Value) (B : Nat) (l : List UInt8) (hB : B = w.heap.size) (h : cs.toList = l.map byteV) : sliceAt (w.alloc (.cells cs t fr)) (some ⟨B, 0, none⟩) l := by
  subst hB
  exact sliceAt_new w t fr cs l h
set_option maxHeartbeats 1000000 in
theorem first_any (v : Value) (l : List UInt8) (F T : Nat) (w : World) (hv : bytesArg w v l) (hft : F < T) (htl : T ≤ l.length) (hbig : l.length ≤ 1048576) :
    Calls Tryz.prog 124 #[v, .agg #[.int .i64 (F : Int), .int .i64 (T : Int)]] w fun e w' => e = .returned (lnV (firstS l F T)) ∧ Below w.heap.size w w' := by
  obtain ⟨ao, cap, rfl, hc, hm, hs⟩ := hv
  obtain ⟨b, off, rfl, hbl, _⟩ := sliceAt.cell hs 0 (by omega)
  have hcut : sliceAt w (some ⟨b, off + F, none⟩) (partS l F T) := (sliceAt.drop (k := F) hs).take _
  have hpl := partS_len l (a := F) htl
  obtain ⟨K, hK⟩ : ∃ K, K = feedI (partS l F T) := ⟨_, rfl⟩
  have HS := Lib.hid hcut
  clear hs
  by_cases hk : K < T - F
  · have HX := Lib.hid (fun W h => index_any b (off + F) (T - F) (cap - F) (partS l F T) W hpl h)
    have HF := Lib.hid (firstS_feed l hK hk)
    obtain ⟨M, hM⟩ : ∃ M, M = (if 0 < K ∧ ((partS l F T).take K).getD (K - 1) 0 = 13 then K - 1 else K) := ⟨_, rfl⟩
    have hMK : M ≤ K := by rw [hM]; split <;> omega
    have HT := Lib.hid (fun B W h1 h2 => suffix_any b (off + F) K (cap - F) B ((partS l F T).take K) W (by rw [List.length_take]; omega) (by omega) (by omega) h1 h2)
    have HZ : Hid ((if K < T - F then (K : Int) else -1) = K) := if_pos hk
    rw [← hM] at HF HT
    rw [← hK] at HX
    have HSK : Hid (sliceAt w (some ⟨b, off + F, none⟩) ((partS l F T).take K)) := hcut.take K
    clear hM hK hcut hpl
    go_enter Tryz.func124, Tryz.ntmps124
    go_wp2_with fail
    with_reducible refine (HX.out _ (sliceAt.below HS.out (((Below.refl _ _).alloc (Nat.le_refl _) _).alloc (by simp) _))).mono ?_
    rintro e w1 ⟨rfl, rfl⟩
    rw [HZ.out]
    go_wp2_with fail
    with_reducible refine (HT.out _ _ ?h1 ?h2).mono ?_
    case h1 => exact sliceAt.below HSK.out ((((Below.refl _ _).alloc (Nat.le_refl _) _).alloc (by simp) _).alloc (by simp; omega) _)
    case h2 => exact sliceAt_new' _ _ _ _ _ [13] (by simp) rfl
    rintro e w2 ⟨rfl, rfl⟩
    go_wp2
    (try simp only [Exit.inBlock, Exit.then])
    refine bodyPost_ret (results_cell_row (P := Tryz.prog) Tryz.results124 _ _ (w.heap.size + 1) 103 _ (0, 0) _ rfl (heap3 _ _ _ _) Tryz.underlying103 rfl (by kernel_rfl)) rfl ?_
    have e := HF.out
    exact ⟨ret_ln (by rw [e]) (by rw [e]; simp only <;> omega) (by rw [e]; simp only <;> omega), (((Below.refl _ _).alloc (Nat.le_refl _) _).alloc (by simp) _).alloc (by simp; omega) _⟩
  · have HX := Lib.hid (fun W h => index_any b (off + F) (T - F) (cap - F) (partS l F T) W hpl h)
    have HZ : Hid ((if K < T - F then (K : Int) else -1) = -1) := if_neg hk
    have HF : Hid (firstS l F T = ⟨F, T, T⟩) := by unfold Hid firstS; rw [← hK, if_neg hk]
    rw [← hK] at HX
    clear hK hcut hpl hk
    go_enter Tryz.func124, Tryz.ntmps124
    go_wp2_with fail
    with_reducible refine (HX.out _ (sliceAt.below HS.out (((Below.refl _ _).alloc (Nat.le_refl _) _).alloc (by simp) _))).mono ?_
    rintro e w1 ⟨rfl, rfl⟩
    rw [HZ.out]
    go_wp2
    (try simp only [Exit.inBlock, Exit.then])
    refine bodyPost_ret (results_cell_row (P := Tryz.prog) Tryz.results124 _ _ (w.heap.size + 1) 103 _ (0, 0) _ rfl (heap_alloc2_new _ _ _) Tryz.underlying103 rfl (by kernel_rfl)) rfl ?_
    have e := HF.out
    exact ⟨ret_ln (by rw [e]) (by rw [e]) (by rw [e]), ((Below.refl _ _).alloc (Nat.le_refl _) _).alloc (by simp) _⟩
end Go.Proofs.YtbphnlaoiikebaaGreatDoor

/- Contracts of package lines: the iterator each. -/
namespace Go.Proofs.YtbphnlaoiikebaaGreatDoor
open Go Go.RowKit Go.Shelf
attribute [local go_sem] Oper.semAt_some

/-- The blocks that are a loop body's own: its variable's box, and the row of the slice that this holds. -/
def ownsB (A : Nat) (W : World) (k : Nat) : Prop := k = A ∨ ∃ u, W.cell? ⟨A, 0, none⟩ = some u ∧ u.ownBlock = some k
/-- What a round keeps: what lay below, and all cells but the body's own. -/
structure KeepK (n0 A : Nat) (W W' : World) : Prop where
  below : Below n0 W W'
  kept : ∀ k o, W.heap[k]? = some o → o.isCells = true → ¬ ownsB A W k → W'.heap[k]? = some o ∧ ¬ ownsB A W' k
  lie : (∀ k, ownsB A W k → k < W.heap.size) → ∀ k, ownsB A W' k → k < W'.heap.size
theorem KeepK.trans {n0 A : Nat} {X Y Z : World} (h : KeepK n0 A X Y) (k : KeepK n0 A Y Z) : KeepK n0 A X Z :=
  ⟨h.below.trans k.below, fun i o h1 h2 h3 => by
    obtain ⟨e1, e2⟩ := h.kept i o h1 h2 h3
    exact k.kept i o e1 h2 e2, fun hl => k.lie (h.lie hl)⟩
theorem ownsB_same {A : Nat} {W W' : World} (h : W'.heap[A]? = W.heap[A]?) (k : Nat) : ownsB A W' k ↔ ownsB A W k := by
  unfold ownsB
  have : W'.cell? ⟨A, 0, none⟩ = W.cell? ⟨A, 0, none⟩ := World.cell?_of_block h
  rw [this]
theorem KeepK.turn {n0 A : Nat} {w : World} (hn : n0 ≤ w.heap.size) (hA : A < w.heap.size) (W : World) (l : Nat) (o o' : Obj) (hl : w.heap.size ≤ l) (h : W.heap[l]? = some o) (h1 : o.isCells = false) (h2 : o.isWalk = false) : KeepK n0 A W (W.putObj l o') := by
  have hs : ∀ k, ownsB A (W.putObj l o') k ↔ ownsB A W k := ownsB_same (World.putObj_heap_other (by omega))
  refine ⟨belowK_b hn W l o o' hl h h1 h2, fun k u hk hc hno => ⟨?_, fun hh => hno ((hs k).1 hh)⟩, fun hl k hk => ?_⟩
  · refine (World.putObj_heap_other ?_).trans hk
    rintro rfl
    rw [h] at hk
    cases hk
    rw [h1] at hc
    cases hc
  · have := hl k ((hs k).1 hk)
    simpa using this
/-- New blocks alone. -/
theorem KeepK.grow {n0 A : Nat} {W W' : World} (hn : n0 ≤ W.heap.size) (hA : A < W.heap.size) (h : Below W.heap.size W W') : KeepK n0 A W W' := by
  have hs : ∀ k, ownsB A W' k ↔ ownsB A W k := ownsB_same (h.block A hA)
  refine ⟨h.mono hn, fun k u hk hc hno => ⟨(h.block k (Array.getElem?_eq_some_iff.1 hk).1).trans hk, fun hh => hno ((hs k).1 hh)⟩, fun hl k hk => ?_⟩
  have := hl k ((hs k).1 hk)
  exact Nat.lt_of_lt_of_le this h.size
theorem below_grown {W W' : World} (h : Below W.heap.size W W') : W.grownBy W' none := ⟨h.os, h.tape, h.output, h.size, fun k hk _ => h.block k hk⟩

/-- What the iterator stands on. -/
structure Seat (wb : World) (A Bs Bb : Nat) (v : Value) (f t : Int) (W : World) : Prop where
  below : Below wb.heap.size wb W
  base : wb.heap.size ≤ W.heap.size
  span : W.heap[Bs]? = some (.cells #[.int .i64 f, .int .i64 t] 45 (0, 0))
  row : W.heap[Bb]? = some (.cells #[v] 39 (0, 0))
  nspan : ¬ ownsB A W Bs
  nrow : ¬ ownsB A W Bb
  lie : ∀ k, ownsB A W k → k < W.heap.size
theorem Seat.keep {wb : World} {A Bs Bb : Nat} {v : Value} {f t : Int} {W W' : World} (h : Seat wb A Bs Bb v f t W) (k : KeepK wb.heap.size A W W') : Seat wb A Bs Bb v f t W' := by
  obtain ⟨e1, e2⟩ := k.kept Bs _ h.span rfl h.nspan
  obtain ⟨e3, e4⟩ := k.kept Bb _ h.row rfl h.nrow
  exact ⟨h.below.trans k.below, Nat.le_trans h.base k.below.size, e1, e3, e2, e4, k.lie h.lie⟩
theorem Seat.own {wb : World} {A Bs Bb : Nat} {v : Value} {f t : Int} {W : World} (h : Seat wb A Bs Bb v f t W) : A < W.heap.size := h.lie A (.inl rfl)
theorem Seat.grow {wb : World} {A Bs Bb : Nat} {v : Value} {f t : Int} {W W' : World} (h : Seat wb A Bs Bb v f t W) (k : Below W.heap.size W W') : Seat wb A Bs Bb v f t W' := h.keep (.grow h.base h.own k)
theorem Seat.c0 {wb : World} {A Bs Bb : Nat} {v : Value} {f t : Int} {W : World} (h : Seat wb A Bs Bb v f t W) : W.cell? ⟨Bs, 0, none⟩ = some (.int .i64 f) := by simp [World.cell?, h.span]
theorem Seat.c1 {wb : World} {A Bs Bb : Nat} {v : Value} {f t : Int} {W : World} (h : Seat wb A Bs Bb v f t W) : W.cell? ⟨Bs, 1, none⟩ = some (.int .i64 t) := by simp [World.cell?, h.span]
theorem Seat.cb {wb : World} {A Bs Bb : Nat} {v : Value} {f t : Int} {W : World} (h : Seat wb A Bs Bb v f t W) : W.cell? ⟨Bb, 0, none⟩ = some v := by simp [World.cell?, h.row]

/-- The lines of a part, none if it isn't there. -/
def linesZ (l : List UInt8) (f t : Int) : List Ln := if withinB f t l.length = true then linesS l f.toNat t.toNat else []

set_option maxRecDepth 100000 in
set_option maxHeartbeats 2000000 in
theorem each1_in (n : Nat) (hn : 1 ≤ n) (Lp A Bs Bb : Nat) (wb : World) (v : Value) (l : List UInt8) (f t : Int) (hv : bytesArg wb v l) (hbig : l.length ≤ 1048576) (J Jx : List Ln → World → Prop)
    (W : World) (hJ : AbidesFrom W.heap.size J)
    (hY : ∀ pre x W1, J pre W1 → pre.length < l.length → YieldAt Fence.wide (n - 1) Tryz.prog Lp #[lnV x] W1 fun e W' =>
      (e = .returned (.bool true) ∧ J (pre ++ [x]) W' ∧ KeepK wb.heap.size A W1 W') ∨ (e = .returned (.bool false) ∧ Jx (pre ++ [x]) W'))
    (hS : Seat wb A Bs Bb v f t W) (h0 : J [] W) :
    CallsIn Fence.wide n Tryz.prog 123 #[.func (.yield Lp) #[] #[], .pointer (some ⟨Bs, 0, none⟩), .pointer (some ⟨Bb, 0, none⟩)] W fun e W' => (∃ v, e = .returned v) ∧
      ((∃ ys, ys = linesZ l f t ∧ J ys W') ∨ (∃ pre, Jx pre W')) := by
  obtain ⟨ao, cap, rfl, hc, hm, hs⟩ := hv
  have c0 := hS.c0
  have c1 := hS.c1
  have cb := hS.cb
  have HV : Hid (bytesArg wb (.slice ao l.length cap) l) := ⟨ao, cap, rfl, hc, hm, hs⟩
  have HSe := Lib.hid hS
  clear hS hs
  rcases Bool.eq_false_or_eq_true (withinB f t l.length) with hw | hw
  · have hw' := of_decide_eq_true hw
    obtain ⟨F, rfl⟩ : ∃ F : Nat, f = F := ⟨f.toNat, by omega⟩
    obtain ⟨T, rfl⟩ : ∃ T : Nat, t = T := ⟨t.toNat, by omega⟩
    have hft : F ≤ T := by omega
    have htl : T ≤ l.length := by omega
    have HW := Lib.hid (within_any (F : Int) (T : Int) (l.length : Int))
    have HE := Lib.hid hw
    have HL : Hid (linesZ l (F : Int) (T : Int) = linesS l F T) := by unfold Hid linesZ; rw [if_pos hw]; rfl
    clear hw hw'
    refine callsIn_of_wp Tryz.func123 rfl trivial ?_ rfl
    simp only [Tryz.ntmps123, List.size_toArray, List.length_cons, List.length_nil, Nat.reduceAdd, Nat.reduceSub, Array.replicate_succ, Array.replicate_zero, List.push_toArray, List.append_toArray, List.nil_append, List.cons_append]
    gi_wp2
    refine ⟨trivial, ?_⟩
    with_reducible refine (callsIn_wide.2 (HW.out _)).mono ?_
    rintro e w1 ⟨rfl, hb1⟩
    rw [HE.out]
    have HS1 := Lib.hid (HSe.out.grow hb1)
    have HJ1 : Hid (J [] w1) := hJ [] W w1 none h0 (below_grown hb1) (fun r e => by cases e)
    clear c0 c1 cb hb1
    have c0 := HS1.out.c0
    gi_wp2
    gi_loopw [4] (fun i wr => ∃ (a : Nat) (pre : List Ln), i = .int .i64 a ∧ F ≤ a ∧ a ≤ T ∧ Hid (linesS l F T = pre ++ linesS l a T) ∧ Hid (J pre wr) ∧ Hid (Seat wb A Bs Bb (.slice ao l.length cap) F T wr))
      (fun i _ => T - (intOf i).toNat)
    case atStart => exact ⟨F, [], rfl, Nat.le_refl _, hft, rfl, HJ1, HS1⟩
    case round =>
      obtain ⟨a, pre, rfl, h1, h2, HP, HJr, HSr⟩ := hrel
      have c1 := HSr.out.c1
      have cb := HSr.out.cb
      by_cases hlt : a < T
      · have HB3 : Hid (bytesArg wr (.slice ao l.length cap) l) := HV.out.below HSr.out.below
        have HF := Lib.hid (first_any _ l a T wr HB3.out hlt htl hbig)
        have HSt := Lib.hid (linesS_step l hlt htl)
        have HBo := Lib.hid (firstS_bounds l hlt)
        obtain ⟨x, hx⟩ : ∃ x, x = firstS l a T := ⟨_, rfl⟩
        rw [← hx] at HF HSt HBo
        have hlen : pre.length < l.length := by
          have e := HP.out
          rw [HSt.out] at e
          have e2 := congrArg List.length e
          have e3 := linesS_len l F T
          simp only [List.length_append, List.length_cons] at e2
          omega
        clear hx
        gi_wp2
        refine ⟨trivial, ?_⟩
        with_reducible refine (callsIn_wide.2 HF.out).mono ?_
        rintro e w2 ⟨rfl, hb2⟩
        simp only [lnV]
        have hb3 := hb2.alloc hb2.size (.cells #[.int .i64 (x.f : Int), .int .i64 (x.t : Int), .int .i64 (x.n : Int)] 103)
        have HS3 := Lib.hid (HSr.out.grow hb3)
        have HJ3 : Hid (J pre (w2.alloc (.cells #[.int .i64 (x.f : Int), .int .i64 (x.t : Int), .int .i64 (x.n : Int)] 103))) := hJ pre wr _ none HJr.out (below_grown hb3) (fun r e => by cases e)
        have HN3 : Hid (¬ ownsB A (w2.alloc (.cells #[.int .i64 (x.f : Int), .int .i64 (x.t : Int), .int .i64 (x.n : Int)] 103)) w2.heap.size) := by
          intro hh
          have h5 := HSr.out.lie _ ((ownsB_same (hb3.block A HSr.out.own) _).1 hh)
          have := hb2.size
          omega
        have HH3 : Hid ((w2.alloc (.cells #[.int .i64 (x.f : Int), .int .i64 (x.t : Int), .int .i64 (x.n : Int)] 103)).heap[w2.heap.size]? = some (.cells #[.int .i64 (x.f : Int), .int .i64 (x.t : Int), .int .i64 (x.n : Int)] 103 (0, 0))) := heap_alloc_new w2 _
        obtain ⟨fn, tmps, assign, body, hy, hR⟩ := hY pre x _ HJ3.out hlen
        have HR := Lib.hid hR
        dsimp only [lnV] at hy
        clear hb2 hb3 c1 cb hR
        gi_wp2
        refine HR.out.mono ?_
        rintro e W3 (⟨rfl, hJ4, hk4⟩ | ⟨rfl, hJx4⟩)
        · have HS4 := Lib.hid (HS3.out.keep hk4)
          have HJ4 := Lib.hid hJ4
          have hc5 : W3.cell? ⟨w2.heap.size, 2, none⟩ = some (.int .i64 (x.n : Int)) := by
            have := (hk4.kept _ _ HH3.out rfl HN3.out).1
            simp [World.cell?, this]
          clear hk4 hJ4
          gi_wp2
          go_roundw
          case rel =>
            obtain ⟨e1, e2, e3, e4, e5, e6⟩ := HBo.out
            exact ⟨x.n, pre ++ [x], rfl, by omega, by omega, by unfold Hid; rw [HP.out, HSt.out]; simp, HJ4, HS4⟩
          case measure =>
            obtain ⟨e1, e2, e3, e4, e5, e6⟩ := HBo.out
            simp [intOf]
            omega
        · gi_wp2
          refine bodyPost_ret (results_none rfl _ _ _) rfl ?_
          exact ⟨⟨_, rfl⟩, .inr ⟨_, hJx4⟩⟩
      · obtain rfl : a = T := by omega
        gi_wp2
        go_end0
        exact ⟨⟨_, rfl⟩, .inl ⟨pre, by rw [HL.out, HP.out, linesS_nil l (Nat.lt_irrefl _), List.append_nil], HJr.out⟩⟩
  · have HW := Lib.hid (within_any f t (l.length : Int))
    have HE := Lib.hid hw
    have HL : Hid (linesZ l f t = []) := by unfold Hid linesZ; rw [hw]; rfl
    clear hw
    refine callsIn_of_wp Tryz.func123 rfl trivial ?_ rfl
    simp only [Tryz.ntmps123, List.size_toArray, List.length_cons, List.length_nil, Nat.reduceAdd, Nat.reduceSub, Array.replicate_succ, Array.replicate_zero, List.push_toArray, List.append_toArray, List.nil_append, List.cons_append]
    gi_wp2
    refine ⟨trivial, ?_⟩
    with_reducible refine (callsIn_wide.2 (HW.out _)).mono ?_
    rintro e w1 ⟨rfl, hb1⟩
    rw [HE.out]
    have HJ1 : Hid (J [] w1) := hJ [] W w1 none h0 (below_grown hb1) (fun r e => by cases e)
    clear hb1
    gi_wp2
    refine bodyPost_ret (results_none rfl _ _ _) rfl ?_
    exact ⟨⟨_, rfl⟩, .inl ⟨[], HL.out.symm, HJ1.out⟩⟩
end Go.Proofs.YtbphnlaoiikebaaGreatDoor

/- A law of my own, of no function: an append in a loop over an iterator, with where the new row lies. -/
namespace Go.Proofs.YtbphnlaoiikebaaGreatDoor
open Go Go.RowKit

/-- Behind an append the row is the old one, or the heap's newest block. -/
theorem run_append_at {P : Program} (w : World) (base : Nat) (t ty e : TypeId) (i : TypeInfo) (z : Value) (size bytes : Nat) (ht : P.underlying t = some (.slice e)) (hi : P.info? e = some i) (hz : i.zero = some z)
    (hsize : i.size = size) (hby : i.bytes = bytes) (v : Value) (n : Nat) (xs : List Value) (hown : w.ownsRow base e size v n xs)
    (a : Addr) (m c : Nat) (news : List Value) (hl : news.length = m * size) (hnews : ∀ j u, news[j]? = some u → w.cell? (a.add j) = some u) (h1 : ∀ u ∈ news, u.oneCell' = true)
    (h63 : n + m ≤ maxLen) (hbytes : (n + m) * bytes ≤ 140737488355328) (hm : 0 < m) {v' : Value} {w' : World} (hr : (Builtin.append_ #[t, t] ty #[v, .slice (some a) m c]).run P w = .ok v' w') :
    v'.ownBlock = v.ownBlock ∨ v'.ownBlock = some w.heap.size := by
  subst hsize
  subst hby
  have hsmall : n + m ≤ 9223372036854775807 := by simp only [maxLen] at h63; omega
  rcases hown.2 with ⟨rfl, rfl⟩ | ⟨g, cap, cur, rfl, hbg, hg, hnc, hcm, hcs, htake⟩
  · have hr2 := run_append_nil (P := P) w t ty e i z ht hi hz a m c news hl hnews (by omega) (by omega) (by have hb := hbytes; simp only [Nat.zero_add] at hb; omega)
    rw [hr2] at hr
    cases hr
    exact .inr rfl
  · by_cases hroom : n + m ≤ cap
    · have hfit : n * i.size + news.length ≤ cur.size := by rw [hl, hcs, ← Nat.add_mul]; exact Nat.mul_le_mul_right _ hroom
      have hr2 := run_append_room (P := P) w t ty e i ht hi g n cap cur hg a m c news hl hnews h1 hroom hfit
      rw [hr2] at hr
      cases hr
      exact .inl rfl
    · have holds : ∀ j u, xs[j]? = some u → w.cell? ((⟨g, 0, none⟩ : Addr).add j) = some u := hown.cells (g := g) rfl
      have hr2 := run_append_grow (P := P) w t ty e i z ht hi hz ⟨g, 0, none⟩ n cap xs hown.1 holds a m c news hl hnews (by omega) (by omega) (growslice_fits (by omega) hbytes)
      rw [hr2] at hr
      cases hr
      exact .inr rfl
theorem wpListIn_append_at {F : Fence} {n : Nat} {P : Program} (w : World) {ops : Array Oper} {rest : List Oper} {o : Oper} {a : Act} {Q : Exit → Act → World → Prop}
    (hg : o.guard = none) (s x : Operand) (t : TypeId) (hop : o.op = Op.call { callee := Callee.builtin Builtin.append, args := #[s, x], argTypes := #[t, t] })
    (base : Nat) (e : TypeId) (i : TypeInfo) (z : Value) (size bytes : Nat) (h1 : P.underlying t = some (.slice e)) (h2 : P.info? e = some i) (h3 : i.zero = some z) (h4 : i.size = size) (h5 : i.bytes = bytes) (h6 : z.cells.size = size) (h7 : 0 < size)
    (v : Value) (k : Nat) (xs : List Value) (hs : a.eval s = v) (hown : w.ownsRow base e size v k xs) (ad : Addr) (m c : Nat) (news : List Value) (hx : a.eval x = .slice (some ad) m c) (hn : news.length = m * size)
    (hc : ∀ j u, news[j]? = some u → w.cell? (ad.add j) = some u) (h1c : ∀ u ∈ news, u.oneCell' = true) (b1 : k + m ≤ maxLen) (b2 : (k + m) * bytes ≤ 140737488355328) (b3 : base ≤ w.heap.size) (hm : 0 < m)
    (hK : ∀ v' w', w'.ownsRow base e size v' (k + m) (xs ++ news) → w.grownBy w' v.ownBlock → (v'.ownBlock = v.ownBlock ∨ v'.ownBlock = some w.heap.size) → wpListIn F n P ops Q rest (a.put o.dst v') w') :
    wpListIn F n P ops Q (o :: rest) a w := by
  refine wpListIn_plain hg fun K hK' => ?_
  obtain ⟨v', w', hrun, r1, r2, r3⟩ := run_append_own (P := P) w base t o.type e i z size bytes h1 h2 h3 h4 h5 h6 h7 v k xs hown ad m c news hn hc h1c b1 b2 b3
  have hat := run_append_at (P := P) w base t o.type e i z size bytes h1 h2 h3 h4 h5 v k xs hown ad m c news hn hc h1c b1 b2 hm hrun
  unfold Oper.wpIn
  refine ⟨?_, ?_⟩
  · simp [Oper.about, hop, resolve, Target.leads, Sem.run_pure]
  · rw [Oper.semAt_plain F _ _ (by rw [hop]; intro c hc'; cases hc')]
    simp [execOp, hop, resolve, invoke, builtin, hs, hx, hrun, Result.andThen]
    exact hK' _ _ (hK v' w' r1 r2 hat)
end Go.Proofs.YtbphnlaoiikebaaGreatDoor

/- Contracts of package lines: each, Count, Of. -/
namespace Go.Proofs.YtbphnlaoiikebaaGreatDoor
open Go Go.RowKit Go.Shelf
attribute [local go_sem] Oper.semAt_some

theorem each_any (v : Value) (f t : Int) (w : World) (ao : Option Addr) (n c : Nat) (hv : v = .slice ao n c) :
    Calls Tryz.prog 99 #[v, .agg #[.int .i64 f, .int .i64 t]] w fun e w' =>
      e = .returned (.func (.func 123) #[] #[.pointer (some ⟨w.heap.size + 1, 0, none⟩), .pointer (some ⟨w.heap.size, 0, none⟩)]) ∧
      w' = (w.alloc (.cells #[v] 39)).alloc (.cells #[.int .i64 f, .int .i64 t] 45) := by
  subst hv
  go_enter Tryz.func99, Tryz.ntmps99
  go_wp2
  go_ret
  exact ⟨rfl, rfl⟩

theorem each_stops (n : Nat) (hn : 1 ≤ n) (A Bs Bb : Nat) (wb w0 : World) (v : Value) (l : List UInt8) (f t : Int) (hv : bytesArg wb v l) (hbig : l.length ≤ 1048576) (hS : Seat wb A Bs Bb v f t w0) :
    SeqStopsK Fence.wide n Tryz.prog 123 #[.pointer (some ⟨Bs, 0, none⟩), .pointer (some ⟨Bb, 0, none⟩)] (fun x : Ln => #[lnV x]) (KeepK wb.heap.size A) (fun ys => ys = linesZ l f t) (fun _ => True) l.length w0 :=
  fun Lp J Jx W hW hJ _ hY h0 => (each1_in n hn Lp A Bs Bb wb v l f t hv hbig J Jx W hJ hY (hS.grow hW) h0).mono fun _ _ ⟨h1, h2⟩ => ⟨h1, h2.imp id fun ⟨pre, h⟩ => ⟨pre, trivial, h⟩⟩

theorem boxed_owns {W : World} {A : Nat} {t : TypeId} {v : Value} (h : Boxed W A t v) (k : Nat) : ownsB A W k ↔ k = A ∨ v.ownBlock = some k := by
  unfold ownsB
  rw [h.cell]
  constructor
  · rintro (h | ⟨u, hu, h⟩)
    · exact .inl h
    · cases hu
      exact .inr h
  · rintro (h | h)
    · exact .inl h
    · exact .inr ⟨v, rfl, h⟩
/-- A store into the body's own variable. -/
theorem keep_set {n0 A : Nat} {W : World} {t : TypeId} {v v' : Value} (hv : Boxed W A t v) (hn : n0 ≤ A) (h0 : v'.ownBlock = none) : KeepK n0 A W (W.setCell ⟨A, 0, none⟩ v') := by
  have hv' := hv.set v'
  refine ⟨(Below.refl n0 W).setCell (p := ⟨A, 0, none⟩) hn _, fun k o hk hc hno => ?_, fun hl k hk => ?_⟩
  · have hkA : k ≠ A := fun e => hno (.inl e)
    refine ⟨(Below.heap_setCell _ _ _ k hkA).trans hk, fun hh => ?_⟩
    rcases (boxed_owns hv' k).1 hh with h | h
    · exact hkA h
    · rw [h0] at h; cases h
  · rcases (boxed_owns hv' k).1 hk with h | h
    · subst h; exact hv'.lt
    · rw [h0] at h; cases h
theorem keep_append {W w1 : World} {n0 A : Nat} {t e : TypeId} {size : Nat} {v v' : Value} {k m : Nat} {xs ys : List Value} {tmp : Obj}
    (hv : Boxed W A t v) (hte : t ≠ e) (hrow : W.ownsRow n0 e size v k xs) (hn₀ : n0 ≤ W.heap.size) (hB : n0 ≤ A)
    (hown' : w1.ownsRow n0 e size v' m ys) (hgrow : (W.alloc tmp).grownBy w1 v.ownBlock) (hat : v'.ownBlock = v.ownBlock ∨ v'.ownBlock = some (W.alloc tmp).heap.size) :
    KeepK n0 A W (w1.setCell ⟨A, 0, none⟩ v') := by
  obtain ⟨h1, h2, h3, h4, h5⟩ := hv.appended hte hrow hn₀ hB hown' hgrow
  refine ⟨h5, fun j o hj hc hno => ?_, fun hl j hj => ?_⟩
  · have hlt := (Array.getElem?_eq_some_iff.1 hj).1
    have hjA : j ≠ A := fun e => hno ((boxed_owns hv j).2 (.inl e))
    have hjv : some j ≠ v.ownBlock := fun e => hno ((boxed_owns hv j).2 (.inr e.symm))
    refine ⟨?_, fun hh => ?_⟩
    · rw [Below.heap_setCell _ _ _ j hjA, hgrow.block j (by simp; omega) hjv, Below.heap_alloc _ _ _ hlt, hj]
    · rcases (boxed_owns h2 j).1 hh with h | h
      · exact hjA h
      · rcases hat with ha | ha
        · exact hjv (h.symm.trans ha)
        · rw [h] at ha
          simp at ha
          omega
  · rcases (boxed_owns h2 j).1 hj with h | h
    · subst h; exact h2.lt
    · rcases h3.2 with ⟨rfl, _⟩ | ⟨g, cap, cur, rfl, _, hg, _⟩
      · cases h
      · cases h
        exact (Array.getElem?_eq_some_iff.1 hg).1

def lnCells (ls : List Ln) : List Value := ls.flatMap lnC
theorem lnCells_len (ls : List Ln) : (lnCells ls).length = ls.length * 3 := by
  induction ls with
  | nil => rfl
  | cons x r ih => simp only [lnCells, List.flatMap_cons, List.length_append, lnC, List.length_cons, List.length_nil] at ih ⊢; omega
theorem lnCells_snoc (ls : List Ln) (x : Ln) : lnCells (ls ++ [x]) = lnCells ls ++ lnC x := by simp [lnCells]
theorem Tryz.infoL : (Tryz.prog.info? 103).map (fun i => (i.zero, i.size, i.bytes)) = some (some (.agg #[.int .i64 0, .int .i64 0, .int .i64 0]), 3, 24) := by kernel_rfl

theorem seat_new (w : World) (u : Obj) (v : Value) (t : TypeId) (x : Value) (f g : Int) (hx : x.ownBlock = none) (hu : u = .cells #[x] t) :
    Seat w (w.heap.size + 1) (w.heap.size + 3) (w.heap.size + 2) v f g ((((w.alloc (.cells #[.int .i64 f, .int .i64 g] 45)).alloc u).alloc (.cells #[v] 39)).alloc (.cells #[.int .i64 f, .int .i64 g] 45)) := by
  subst hu
  obtain ⟨W1, h1⟩ : ∃ W1, w.alloc (.cells #[.int .i64 f, .int .i64 g] 45) = W1 := ⟨_, rfl⟩
  have s1 : W1.heap.size = w.heap.size + 1 := by rw [← h1]; simp
  have hB : Below w.heap.size w W1 := by rw [← h1]; exact (Below.refl _ _).alloc (Nat.le_refl _) _
  rw [h1]
  clear h1
  have b1 := ((Boxed.new W1 t x).alloc (.cells #[v] 39)).alloc (.cells #[.int .i64 f, .int .i64 g] 45)
  rw [s1] at b1
  have own := boxed_owns b1
  refine ⟨((hB.alloc (by omega) _).alloc (by simp; omega) _).alloc (by simp; omega) _, by simp; omega, ?_, ?_, ?_, ?_, ?_⟩
  · have := heap_alloc_new ((W1.alloc (.cells #[x] t)).alloc (.cells #[v] 39)) (.cells #[.int .i64 f, .int .i64 g] 45)
    simp only [World.size_alloc, s1] at this
    exact this
  · have := Boxed.new (W1.alloc (.cells #[x] t)) 39 v
    simp only [World.size_alloc, s1] at this
    exact this.alloc _
  · rw [own, hx]
    rintro (h | h)
    · omega
    · cases h
  · rw [own, hx]
    rintro (h | h)
    · omega
    · cases h
  · intro k hk
    rw [own, hx] at hk
    rcases hk with h | h
    · subst h; exact b1.lt
    · cases h

end Go.Proofs.YtbphnlaoiikebaaGreatDoor
