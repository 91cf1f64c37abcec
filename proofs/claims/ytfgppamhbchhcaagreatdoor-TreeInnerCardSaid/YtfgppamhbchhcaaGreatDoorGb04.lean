/- Contracts of package lines, and of the document's: Within, Text. -/
import Derived.Test.YtfgppamhbchhcaaGreatDoorProg
import Derived.Test.YtfgppamhbchhcaaGreatDoorGb01
import Derived.LoopN
import Derived.Outline
import Derived.BigQuiet
import Derived.Deep.QuietTactic
import Derived.Test.YtfgppamhbchhcaaGreatDoorShelf
namespace Go.Proofs.YtfgppamhbchhcaaGreatDoor
open Go Go.RowKit

def withinB (f t n : Int) : Bool := decide (0 ≤ f ∧ f ≤ t ∧ t ≤ n)
theorem withinB_yes {f t n : Int} (h : 0 ≤ f ∧ f ≤ t ∧ t ≤ n) : withinB f t n = true := decide_eq_true h
theorem withinB_no {f t n : Int} (h : ¬ (0 ≤ f ∧ f ≤ t ∧ t ≤ n)) : withinB f t n = false := decide_eq_false h

theorem within_any (f t n : Int) (w : World) : Calls Tryz.prog 33 #[.agg #[.int .i64 f, .int .i64 t], .int .i64 n] w fun e w' => e = .returned (.bool (withinB f t n)) ∧ Below w.heap.size w w' := by
  by_cases h1 : 0 ≤ f
  · by_cases h2 : f ≤ t
    · by_cases h3 : t ≤ n
      · have HE : Hid (withinB f t n = true) := withinB_yes ⟨h1, h2, h3⟩
        go_enter Tryz.func33, Tryz.ntmps33
        go_wp2
        go_ret
        exact ⟨ret_bool (by rw [HE.out]), (Below.refl _ _).alloc (Nat.le_refl _) _⟩
      · have HE : Hid (withinB f t n = false) := withinB_no (fun h => h3 h.2.2)
        go_enter Tryz.func33, Tryz.ntmps33
        go_wp2
        go_ret
        exact ⟨ret_bool (by rw [HE.out]), (Below.refl _ _).alloc (Nat.le_refl _) _⟩
    · have HE : Hid (withinB f t n = false) := withinB_no (fun h => h2 h.2.1)
      go_enter Tryz.func33, Tryz.ntmps33
      go_wp2
      go_ret
      exact ⟨ret_bool (by rw [HE.out]), (Below.refl _ _).alloc (Nat.le_refl _) _⟩
  · have HE : Hid (withinB f t n = false) := withinB_no (fun h => h1 h.1)
    go_enter Tryz.func33, Tryz.ntmps33
    go_wp2
    go_ret
    exact ⟨ret_bool (by rw [HE.out]), (Below.refl _ _).alloc (Nat.le_refl _) _⟩

theorem box2_cells {W W' : World} {t : TypeId} {a b : Value} (h : Below (W.alloc (.cells #[a, b] t)).heap.size (W.alloc (.cells #[a, b] t)) W') :
    W'.cell? ⟨W.heap.size, 0, none⟩ = some a ∧ W'.cell? ⟨W.heap.size, 1, none⟩ = some b := by
  have e : W'.heap[W.heap.size]? = some (.cells #[a, b] t (0, 0)) := (h.block _ (by simp)).trans (heap_alloc_new W _)
  simp [World.cell?, e]
theorem box3_cells {W W' : World} {t : TypeId} {a b c : Value} (h : Below (W.alloc (.cells #[a, b, c] t)).heap.size (W.alloc (.cells #[a, b, c] t)) W') :
    W'.cell? ⟨W.heap.size, 0, none⟩ = some a ∧ W'.cell? ⟨W.heap.size, 1, none⟩ = some b ∧ W'.cell? ⟨W.heap.size, 2, none⟩ = some c := by
  have e : W'.heap[W.heap.size]? = some (.cells #[a, b, c] t (0, 0)) := (h.block _ (by simp)).trans (heap_alloc_new W _)
  simp [World.cell?, e]

/-- A cut of bytes that came in is what it says. -/
theorem sliceAt.cut {W : World} {ao : Option Addr} {l : List UInt8} (h : sliceAt W ao l) (F T : Nat) : sliceAt W (ao.map fun x => x.add F) (partS l F T) := by
  rcases h with rfl | ⟨b, off, rfl, hlt, hc⟩
  · exact .inl (by simp [partS])
  · show sliceAt W (some ((⟨b, off, none⟩ : Addr).add F)) _
    rw [Addr.add_lit]
    exact (sliceAt.drop (k := F) (.inr ⟨b, off, rfl, hlt, hc⟩)).take _
theorem cut_string {W : World} {ao : Option Addr} {l : List UInt8} {cap F T : Nat} (hs : sliceAt W ao l) (h1 : F ≤ T) (h2 : T ≤ l.length) (h3 : l.length ≤ cap) (h4 : cap ≤ maxLen) :
    (convert 24 9 (.slice (ao.map fun x => x.add F) (T - F) (cap - F))).run Tryz.prog W = .ok (.string ⟨(partS l F T).toArray⟩) W := by
  have := bytesArg_string (v := .slice (ao.map fun x => x.add F) (T - F) (cap - F)) (l := partS l F T) (W := W)
    ⟨_, cap - F, by rw [partS_len l h2], by rw [partS_len l h2]; omega, by omega, hs.cut F T⟩
  exact this
theorem cut_string0 {W : World} {ao : Option Addr} {l : List UInt8} {F T : Nat} (h1 : F ≤ T) (h2 : T ≤ l.length) (h3 : l.length ≤ F) :
    (convert 24 9 (.slice ao (T - F) 0)).run Tryz.prog W = .ok (.string ⟨(partS l F T).toArray⟩) W := by
  have e : partS l F T = [] := List.eq_nil_of_length_eq_zero (by rw [partS_len l h2]; omega)
  rw [e, show T - F = 0 by omega]
  exact bytesArg_string (v := .slice ao 0 0) (l := []) (W := W) ⟨_, 0, rfl, Nat.le_refl _, Nat.zero_le _, .inl rfl⟩
end Go.Proofs.YtfgppamhbchhcaaGreatDoor

/- Contracts of package lines: Text. -/
namespace Go.Proofs.YtfgppamhbchhcaaGreatDoor
open Go Go.RowKit

def textS (l : List UInt8) (f t : Int) : List UInt8 := if withinB f t l.length = true then partS l f.toNat t.toNat else []
theorem textS_nat (l : List UInt8) {f t : Nat} (h1 : f ≤ t) (h2 : t ≤ l.length) : textS l f t = partS l f t := by
  unfold textS
  rw [withinB_yes (by omega), if_pos rfl]
  rfl
theorem textS_no (l : List UInt8) {f t : Int} (h : withinB f t l.length = false) : textS l f t = [] := by
  unfold textS
  rw [h]
  rfl

set_option maxHeartbeats 1000000 in
theorem text_any (v : Value) (l : List UInt8) (f t n : Int) (w : World) (hv : bytesArg w v l) :
    Calls Tryz.prog 51 #[v, .agg #[.int .i64 f, .int .i64 t, .int .i64 n]] w fun e w' => e = .returned (.string ⟨(textS l f t).toArray⟩) ∧ Below w.heap.size w w' := by
  obtain ⟨ao, cap, rfl, hc, hm, hs⟩ := hv
  rcases Bool.eq_false_or_eq_true (withinB f t l.length) with hw | hw
  · have hw' := of_decide_eq_true hw
    obtain ⟨F, rfl⟩ : ∃ F : Nat, f = F := ⟨f.toNat, by omega⟩
    obtain ⟨T, rfl⟩ : ∃ T : Nat, t = T := ⟨t.toNat, by omega⟩
    have hft : F ≤ T := by omega
    have htl : T ≤ l.length := by omega
    have HW := Lib.hid (within_any (F : Int) (T : Int) (l.length : Int))
    have HE := Lib.hid hw
    have HS : Hid (sliceAt w ao l) := hs
    clear hw hw' hs
    go_enter Tryz.func51, Tryz.ntmps51
    go_wp2_with fail
    with_reducible refine (HW.out _).mono ?_
    rintro e w1 ⟨rfl, hb1⟩
    rw [HE.out]
    have HB1 := Lib.hid hb1
    obtain ⟨c0, c1, _⟩ := box3_cells hb1
    clear hb1
    have HB : Hid (Below w.heap.size w w1) := ((Below.refl _ _).alloc (Nat.le_refl _) _).trans (HB1.out.mono (by simp))
    have HT : Hid (textS l (F : Int) (T : Int) = partS l F T) := textS_nat l hft htl
    by_cases hcF : cap = F
    · subst hcF
      have hcv := cut_string0 (W := w1) (ao := ao) hft htl hc
      go_wp2
      go_ret
      exact ⟨ret_str (by rw [HT.out]), HB.out⟩
    · have hcv := cut_string (sliceAt.below HS.out HB.out) hft htl hc hm
      go_wp2
      go_ret
      exact ⟨ret_str (by rw [HT.out]), HB.out⟩
  · have HW := Lib.hid (within_any f t (l.length : Int))
    have HE := Lib.hid hw
    have HT := Lib.hid (textS_no l hw)
    clear hw hs
    go_enter Tryz.func51, Tryz.ntmps51
    go_wp2_with fail
    with_reducible refine (HW.out _).mono ?_
    rintro e w1 ⟨rfl, hb1⟩
    rw [HE.out]
    have HB : Hid (Below w.heap.size w w1) := ((Below.refl _ _).alloc (Nat.le_refl _) _).trans (hb1.mono (by simp))
    obtain ⟨c0, c1, _⟩ := box3_cells hb1
    clear hb1
    go_wp2
    go_ret
    exact ⟨ret_str (by rw [HT.out]), HB.out⟩
end Go.Proofs.YtfgppamhbchhcaaGreatDoor

/- Contracts of package lines: first. -/
namespace Go.Proofs.YtfgppamhbchhcaaGreatDoor
open Go Go.RowKit

def intsOf (l : List UInt8) : List Int := l.map fun b => (b.toNat : Int)
theorem intsOf_len (l : List UInt8) : (intsOf l).length = l.length := by simp [intsOf]
theorem bytesOf_ints (l : List UInt8) : Lib.bytesOf (intsOf l) = l := by
  unfold Lib.bytesOf intsOf
  rw [List.map_map]
  conv => rhs; rw [← List.map_id l]
  apply List.map_congr_left
  intro b _
  apply toNat_eq
  have := b.toNat_lt
  simp
theorem sliceAt.ints {w : World} {ao : Option Addr} {l : List UInt8} (h : sliceAt w ao l) : Lib.BytesIn w ao l.length (intsOf l) := by
  intro hn
  rcases h with rfl | ⟨b, off, rfl, hb, hc⟩
  · simp at hn
  · refine ⟨b, off, rfl, fun i hi => ?_⟩
    rw [hc i hi]
    simp [byteV, intsOf, List.getD, hi]
theorem index_any (b off n cap : Nat) (p : List UInt8) (w : World) (hn : p.length = n) (hs : sliceAt w (some ⟨b, off, none⟩) p) :
    Calls Tryz.prog 101 #[.slice (some ⟨b, off, none⟩) n cap, .int .u8 10] w fun e w' => e = .returned (.int .i64 (if feedI p < n then (feedI p : Int) else -1)) ∧ w = w' := by
  subst hn
  refine (Tryz.bytes_IndexByte_at ⟨b, off, none⟩ p.length cap (intsOf p) 10 w (intsOf_len p) fun i hi => ?_).mono ?_
  · rcases hs with rfl | ⟨b', off', e, _, hc⟩
    · simp at hi
    · cases e
      rw [Addr.add_lit, hc i hi]
      simp [byteV, intsOf, List.getD, hi]
  · rintro e w' ⟨rfl, rfl⟩
    refine ⟨ret_int ?_, rfl⟩
    rw [bytesOf_ints]
    exact indexByte_feed p
theorem suffix_13 (p : List UInt8) : Lib.hasSuffix p [13] = decide (0 < p.length ∧ p.getD (p.length - 1) 0 = 13) := by
  unfold Lib.hasSuffix
  rw [Bool.eq_iff_iff, List.isSuffixOf_iff_suffix, decide_eq_true_iff]
  constructor
  · rintro ⟨t, rfl⟩
    simp [List.getD]
  · rintro ⟨h1, h2⟩
    refine ⟨p.take (p.length - 1), ?_⟩
    rw [List.getD_eq_getElem?_getD, List.getElem?_eq_getElem (by omega)] at h2
    simp only [Option.getD_some] at h2
    have := List.take_succ_eq_append_getElem (l := p) (i := p.length - 1) (by omega)
    rw [h2, show p.length - 1 + 1 = p.length by omega, List.take_length] at this
    exact this.symm
theorem suffix_any (b o n c B : Nat) (p : List UInt8) (w : World) (hn : p.length = n) (hc : n ≤ c) (hm : c ≤ maxLen) (hs : sliceAt w (some ⟨b, o, none⟩) p) (hB : sliceAt w (some ⟨B, 0, none⟩) [13]) :
    Calls Tryz.prog 102 #[.slice (some ⟨b, o, none⟩) n c, .slice (some ⟨B, 0, none⟩) 1 1] w fun e w' =>
      e = .returned (.slice (some ⟨b, o, none⟩) (if 0 < n ∧ p.getD (n - 1) 0 = 13 then n - 1 else n) c) ∧ w = w' := by
  subst hn
  refine (Tryz.bytes_TrimSuffix_all (some ⟨b, o, none⟩) (some ⟨B, 0, none⟩) p.length c 1 1 (intsOf p) (intsOf [13]) w (intsOf_len p) (intsOf_len [13]) hc (by unfold maxLen at hm; omega) hs.ints hB.ints).mono ?_
  rintro e w' ⟨rfl, rfl⟩
  refine ⟨?_, rfl⟩
  show Ending.returned (Lib.bytesTrimSuffix b o p.length c (intsOf p) (intsOf [13])) = _
  unfold Lib.bytesTrimSuffix
  rw [bytesOf_ints, bytesOf_ints, suffix_13, intsOf_len]
  by_cases h : 0 < p.length ∧ p.getD (p.length - 1) 0 = 13
  · rw [if_pos h, decide_eq_true h, if_pos rfl]
    rfl
  · rw [if_neg h, decide_eq_false h]
    rfl

theorem ret_ln {x : Ln} {a b c : Int} (h1 : a = (x.f : Int)) (h2 : b = (x.t : Int)) (h3 : c = (x.n : Int)) : Ending.returned (.agg #[.int .i64 a, .int .i64 b, .int .i64 c]) = .returned (lnV x) := by subst h1 h2 h3; rfl
theorem firstS_feed (l : List UInt8) {F T K : Nat} (hK : K = feedI (partS l F T)) (h : K < T - F) :
    firstS l F T = ⟨F, F + (if 0 < K ∧ ((partS l F T).take K).getD (K - 1) 0 = 13 then K - 1 else K), F + K + 1⟩ := by
  subst hK
  unfold firstS
  rw [if_pos h]
  congr 1
  unfold endA
  by_cases h0 : 0 < feedI (partS l F T)
  · have e : ((partS l F T).take (feedI (partS l F T))).getD (feedI (partS l F T) - 1) 0 = l.getD (F + feedI (partS l F T) - 1) 0 := by
      rw [List.getD_eq_getElem?_getD, List.getElem?_take, if_pos (by omega), ← List.getD_eq_getElem?_getD, partS_at l (by omega)]
      congr 1
      omega
    rw [e]
    by_cases h1 : l.getD (F + feedI (partS l F T) - 1) 0 = 13
    · rw [if_pos ⟨by omega, h1⟩, if_pos ⟨h0, h1⟩]
      omega
    · rw [if_neg (fun h => h1 h.2), if_neg (fun h => h1 h.2)]
  · rw [if_neg (fun h => h0 (by omega)), if_neg (fun h => h0 h.1)]
theorem heap3 (w : World) (A B C : Obj) : (((w.alloc A).alloc B).alloc C).heap[w.heap.size + 1]? = some B :=
  (Below.heap_alloc _ C _ (by simp)).trans (heap_alloc2_new w A B)
theorem sliceAt_new' (w : World) (t : TypeId) (fr : Nat × Nat) (cs : Array Value) (B : Nat) (l : List UInt8) (hB : B = w.heap.size) (h : cs.toList = l.map byteV) : sliceAt (w.alloc (.cells cs t fr)) (some ⟨B, 0, none⟩) l := by
  subst hB
  exact sliceAt_new w t fr cs l h
set_option maxHeartbeats 1000000 in
theorem first_any (v : Value) (l : List UInt8) (F T : Nat) (w : World) (hv : bytesArg w v l) (hft : F < T) (htl : T ≤ l.length) (hbig : l.length ≤ 1048576) :
    Calls Tryz.prog 85 #[v, .agg #[.int .i64 (F : Int), .int .i64 (T : Int)]] w fun e w' => e = .returned (lnV (firstS l F T)) ∧ Below w.heap.size w w' := by
  obtain ⟨ao, cap, rfl, hc, hm, hs⟩ := hv
  obtain ⟨b, off, rfl, hbl, _⟩ := sliceAt.cell hs 0 (by omega)
  have hcut : sliceAt w (some ⟨b, off + F, none⟩) (partS l F T) := (sliceAt.drop (k := F) hs).take _
  have hpl := partS_len l (a := F) htl
  obtain ⟨K, hK⟩ : ∃ K, K = feedI (partS l F T) := ⟨_, rfl⟩
  have HS := Lib.hid hcut
  clear hs
  by_cases hk : K < T - F
  · have HX := Lib.hid (fun W h => index_any b (off + F) (T - F) (cap - F) (partS l F T) W hpl h)
    have HF := Lib.hid (firstS_feed l hK hk)
    obtain ⟨M, hM⟩ : ∃ M, M = (if 0 < K ∧ ((partS l F T).take K).getD (K - 1) 0 = 13 then K - 1 else K) := ⟨_, rfl⟩
    have hMK : M ≤ K := by rw [hM]; split <;> omega
    have HT := Lib.hid (fun B W h1 h2 => suffix_any b (off + F) K (cap - F) B ((partS l F T).take K) W (by rw [List.length_take]; omega) (by omega) (by omega) h1 h2)
    have HZ : Hid ((if K < T - F then (K : Int) else -1) = K) := if_pos hk
    rw [← hM] at HF HT
    rw [← hK] at HX
    have HSK : Hid (sliceAt w (some ⟨b, off + F, none⟩) ((partS l F T).take K)) := hcut.take K
    clear hM hK hcut hpl
    go_enter Tryz.func85, Tryz.ntmps85
    go_wp2_with fail
    with_reducible refine (HX.out _ (sliceAt.below HS.out (((Below.refl _ _).alloc (Nat.le_refl _) _).alloc (by simp) _))).mono ?_
    rintro e w1 ⟨rfl, rfl⟩
    rw [HZ.out]
    go_wp2_with fail
    with_reducible refine (HT.out _ _ ?h1 ?h2).mono ?_
    case h1 => exact sliceAt.below HSK.out ((((Below.refl _ _).alloc (Nat.le_refl _) _).alloc (by simp) _).alloc (by simp; omega) _)
    case h2 => exact sliceAt_new' _ _ _ _ _ [13] (by simp) rfl
    rintro e w2 ⟨rfl, rfl⟩
    go_wp2
    (try simp only [Exit.inBlock, Exit.then])
    refine bodyPost_ret (results_cell_row (P := Tryz.prog) Tryz.results85 _ _ (w.heap.size + 1) 88 _ (0, 0) _ rfl (heap3 _ _ _ _) Tryz.underlying88 rfl (by kernel_rfl)) rfl ?_
    have e := HF.out
    exact ⟨ret_ln (by rw [e]) (by rw [e]; simp only <;> omega) (by rw [e]; simp only <;> omega), (((Below.refl _ _).alloc (Nat.le_refl _) _).alloc (by simp) _).alloc (by simp; omega) _⟩
  · have HX := Lib.hid (fun W h => index_any b (off + F) (T - F) (cap - F) (partS l F T) W hpl h)
    have HZ : Hid ((if K < T - F then (K : Int) else -1) = -1) := if_neg hk
    have HF : Hid (firstS l F T = ⟨F, T, T⟩) := by unfold Hid firstS; rw [← hK, if_neg hk]
    rw [← hK] at HX
    clear hK hcut hpl hk
    go_enter Tryz.func85, Tryz.ntmps85
    go_wp2_with fail
    with_reducible refine (HX.out _ (sliceAt.below HS.out (((Below.refl _ _).alloc (Nat.le_refl _) _).alloc (by simp) _))).mono ?_
    rintro e w1 ⟨rfl, rfl⟩
    rw [HZ.out]
    go_wp2
    (try simp only [Exit.inBlock, Exit.then])
    refine bodyPost_ret (results_cell_row (P := Tryz.prog) Tryz.results85 _ _ (w.heap.size + 1) 88 _ (0, 0) _ rfl (heap_alloc2_new _ _ _) Tryz.underlying88 rfl (by kernel_rfl)) rfl ?_
    have e := HF.out
    exact ⟨ret_ln (by rw [e]) (by rw [e]) (by rw [e]), ((Below.refl _ _).alloc (Nat.le_refl _) _).alloc (by simp) _⟩
end Go.Proofs.YtfgppamhbchhcaaGreatDoor
