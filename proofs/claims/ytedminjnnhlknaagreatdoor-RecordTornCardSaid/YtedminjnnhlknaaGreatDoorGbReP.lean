/- The document's Get of a record: its head. -/
import Derived.Test.YtedminjnnhlknaaGreatDoorGbReL
import Derived.Test.YtedminjnnhlknaaGreatDoorGbReE
import Derived.Test.YtedminjnnhlknaaGreatDoorGbRdA
import Derived.RegionTactic
import Derived.BigRegion
import Derived.Deep.DeepCutAuto
import Derived.Deep.CutBlock
import Derived.Test.YtedminjnnhlknaaGreatDoorGbParH
import Derived.BigQuiet
import Derived.Test.YtedminjnnhlknaaGreatDoorGbRcW
import Derived.Test.YtedminjnnhlknaaGreatDoorGbTsE
import Derived.OrdersHeld
import Derived.Deep.RegionHeld
import Derived.Test.YtedminjnnhlknaaGreatDoorGbRcN
import Derived.Test.YtedminjnnhlknaaGreatDoorGbHdrG
namespace Go.Proofs.YtedminjnnhlknaaGreatDoor
open Go Go.RowKit
theorem bool_str_ne {a b : ByteArray} (h : ¬ a.data.toList = b.data.toList) : (a.toList == b.toList) = false ∧ ¬ a.toList = b.toList := by
 rw [ByteArray.toList_eq, ByteArray.toList_eq]
 exact ⟨by simpa using h, h⟩
theorem bool_str_eq {a b : ByteArray} (h : a.data.toList = b.data.toList) : (a.toList == b.toList) = true ∧ a.toList = b.toList := by
 rw [ByteArray.toList_eq, ByteArray.toList_eq, h]
 exact ⟨by simp, rfl⟩
theorem bool_lst_ne {a : ByteArray} {l : List UInt8} (h : ¬ a.data.toList = l) : (a.toList == l) = false ∧ ¬ a.toList = l := by
 rw [ByteArray.toList_eq]
 exact ⟨by simpa using h, h⟩
theorem bool_lst_eq {a : ByteArray} {l : List UInt8} (h : a.data.toList = l) : (a.toList == l) = true ∧ a.toList = l := by
 rw [ByteArray.toList_eq, h]
 exact ⟨by simp, rfl⟩
theorem ext_take (C : ByteArray) (k : Nat) : (C.extract 0 k).data.toList = C.data.toList.take k := by
 rw [extract_toList, List.drop_zero, Nat.sub_zero]
theorem ext_drop (C : ByteArray) (k : Nat) : (C.extract k C.size).data.toList = C.data.toList.drop k := by
 rw [extract_toList, List.take_of_length_le (by rw [List.length_drop, len_toList]; exact Nat.le_refl _)]
theorem seal_iff {l : List UInt8} (h : 4 ≤ l.length) : sealL (l.take (l.length - 4)) = l ↔ valL (l.drop (l.length - 4)) = crcN (l.take (l.length - 4)) := by
 unfold sealL
 constructor
 ·intro e
  have e2 := congrArg (List.drop (l.length - 4)) e
  rw [List.drop_append_of_le_length (by rw [List.length_take]; omega), List.drop_of_length_le (by rw [List.length_take]; omega), List.nil_append] at e2
  rw [← e2]
  exact valL_sum4 (crcN_lt _)
 ·intro e
  rw [← e, sum4_valL (by rw [List.length_drop]; omega)]
  exact List.take_append_drop _ _
set_option maxRecDepth 100000 in
set_option maxHeartbeats 4000000 in
theorem refBegin_any (C : ByteArray) (w : World) (hC : C.size ≤ 500000) :
  Calls Tryz.prog 23 #[.string C] w fun e w' => ∃ (T : ByteArray) (x : Nat), e = .returned (.tuple #[rV T 0, .int .i64 (x : Int)]) ∧ isSt (headP C.data.toList) T x ∧ Below w.heap.size w w' := by
 obtain ⟨X, hX⟩ : ∃ X, X = w.alloc (rO ⟨#[]⟩ 0) := ⟨_, rfl⟩
 have HBX : Hid (Below w.heap.size w X) := by unfold Hid; rw [hX]; exact (Below.refl _ _).alloc (Nat.le_refl _) _
 have HX0 : Hid (X.heap[w.heap.size]? = some (rO ⟨#[]⟩ 0)) := by unfold Hid; rw [hX]; exact heap_alloc_new w _
 unfold rO at hX HX0
 unfold rV
 obtain ⟨q, hq⟩ : ∃ q, q = headP C.data.toList := ⟨_, rfl⟩
 rw [← hq]
 have HQ := Lib.hid hq
 have hln : C.data.toList.length = C.size := len_toList _
 clear hq
 by_cases h4 : C.size < 4
 ·have g1 : (C.size : Int) < 4 := by omega
  have g1d : decide ((C.size : Int) < 4) = true := decide_eq_true g1
  have g1e : decide (C.size < 4) = true := decide_eq_true h4
  have HE : Hid (q = .no 10) := by unfold Hid; rw [HQ.out]; unfold headP; rw [if_pos (by rw [hln]; exact h4)]
  obtain ⟨f0, f1⟩ := two_frozen HX0.out
  obtain ⟨c0, c1⟩ := two_cells HX0.out
  clear hln
  go_enter Tryz.func23, Tryz.ntmps23
  go_upto_region 1 with fail
  rw [← hX]
  clear hX
  go_wp2_with fail
  (try simp only [Exit.inBlock, Exit.then])
  obtain ⟨r0, r1⟩ := res_two (.string ⟨#[]⟩) (.int .i64 0) HX0.out
  refine bodyPost_ret (v := .tuple #[.agg #[.string ⟨#[]⟩, .int .i64 0], .int .i64 10]) (by simp [results, Tryz.results23, go_sem, r0, r1]) rfl ?_
  refine ⟨⟨#[]⟩, 10, rfl, ?_, (HBX.out.setCell (p := ⟨w.heap.size, 0, none⟩) (Nat.le_refl _) _).setCell (p := ⟨w.heap.size, 1, none⟩) (Nat.le_refl _) _⟩
  rw [HE.out]
  exact ⟨rfl, by decide⟩
 have g1 : ¬ (C.size : Int) < 4 := by omega
 have g1d : decide ((C.size : Int) < 4) = false := decide_eq_false g1
 have g1e : decide (C.size < 4) = false := decide_eq_false h4
 obtain ⟨n, hn⟩ : ∃ n, n = C.size - 4 := ⟨_, rfl⟩
 have en : (C.size : Int) - 4 = (n : Int) := by omega
 have hnl : n ≤ C.size := by omega
 obtain ⟨S, hS⟩ : ∃ S, S = C.extract 0 n := ⟨_, rfl⟩
 have hSl : S.data.toList = C.data.toList.take n := by rw [hS, ext_take]
 have hSz : S.size = n := by rw [bytes_len, hSl, List.length_take, hln]; omega
 have ksl : C.extract 0 (C.size - 4) = S := by rw [← hn]; exact hS.symm
 have HSe := Lib.hid (fun W => refSeal_any S W (by omega))
 have HSl := Lib.hid hSl
 have hqn : q = if valL (C.data.toList.drop n) ≠ crcN S.data.toList then .no 15 else if S.data.toList.take 3 = [76, 66, 1] then .ok () (S.data.toList.drop 3) else .no 11 := by
  rw [HQ.out]
  unfold headP
  rw [if_neg (by rw [hln]; exact h4), hln, ← hn, hSl]
 have hsi : sealL S.data.toList = C.data.toList ↔ valL (C.data.toList.drop n) = crcN S.data.toList := by
  have h := seal_iff (l := C.data.toList) (by rw [hln]; omega)
  rw [hln, ← hn, ← hSl] at h
  exact h
 have HQn := Lib.hid hqn
 have HSi := Lib.hid hsi
 have hSlen : S.data.toList.length = S.size := len_toList _
 clear hqn hsi hSl hS
 go_enter Tryz.func23, Tryz.ntmps23
 go_upto_region 1 with fail
 rw [← hX]
 clear hX
 go_wp2_with fail
 with_reducible refine (HSe.out X).mono ?_
 rintro e w2 ⟨R, rfl, hR, hb2⟩
 have HB2 := Lib.hid (HBX.out.trans (hb2.mono HBX.out.size))
 have HX2 := Lib.hid ((hb2.block w.heap.size (Array.getElem?_eq_some_iff.1 HX0.out).1).trans HX0.out)
 obtain ⟨f0, f1⟩ := two_frozen HX2.out
 obtain ⟨c0, c1⟩ := two_cells HX2.out
 clear hb2
 by_cases hs : valL (C.data.toList.drop n) = crcN S.data.toList
 ·have q1 := bool_str_eq (hR.trans (HSi.out.2 hs))
  obtain ⟨q1a, q1b⟩ := q1
  by_cases h3 : S.size < 3
  ·have k1 : (S.size : Int) < 3 := by omega
   have k1d : decide ((S.size : Int) < 3) = true := decide_eq_true k1
   have k1e : decide (S.size < 3) = true := decide_eq_true h3
   have HE : Hid (q = .no 11) := by
    unfold Hid
    rw [HQn.out, if_neg (fun h => h hs), if_neg (fun h => by
     have h' := congrArg List.length h
     rw [List.length_take, hSlen] at h'
     simp at h'
     omega)]
   clear hs hR hSlen hln
   go_wp2_with fail
   (try simp only [Exit.inBlock, Exit.then])
   obtain ⟨r0, r1⟩ := res_two (.string ⟨#[]⟩) (.int .i64 0) HX2.out
   refine bodyPost_ret (v := .tuple #[.agg #[.string ⟨#[]⟩, .int .i64 0], .int .i64 11]) (by simp [results, Tryz.results23, go_sem, r0, r1]) rfl ?_
   refine ⟨⟨#[]⟩, 11, rfl, ?_, (HB2.out.setCell (p := ⟨w.heap.size, 0, none⟩) (Nat.le_refl _) _).setCell (p := ⟨w.heap.size, 1, none⟩) (Nat.le_refl _) _⟩
   rw [HE.out]
   exact ⟨rfl, by decide⟩
  ·have k1 : ¬ (S.size : Int) < 3 := by omega
   have k1d : decide ((S.size : Int) < 3) = false := decide_eq_false k1
   have k1e : decide (S.size < 3) = false := decide_eq_false h3
   have k3 : 3 ≤ S.size := by omega
   obtain ⟨F, hF⟩ : ∃ F, F = S.extract 0 3 := ⟨_, rfl⟩
   have hFl : F.data.toList = S.data.toList.take 3 := by rw [hF, ext_take]
   have ksf : S.extract 0 3 = F := hF.symm
   obtain ⟨T, hT⟩ : ∃ T, T = S.extract 3 S.size := ⟨_, rfl⟩
   have hTl : T.data.toList = S.data.toList.drop 3 := by rw [hT, ext_drop]
   have hTz : T.size ≤ 1000000 := by rw [bytes_len, hTl, List.length_drop, hSlen]; omega
   have kst : S.extract 3 (C.size - 4) = T := by rw [← hn, ← hSz]; exact hT.symm
   by_cases hm : S.data.toList.take 3 = [76, 66, 1]
   ·have HE : Hid (q = .ok () (S.data.toList.drop 3)) := by
     unfold Hid
     rw [HQn.out, if_neg (fun h => h hs), if_pos hm]
    obtain ⟨m1, m2⟩ := bool_lst_eq (hFl.trans hm)
    have HT := Lib.hid hTl
    clear hs hR hSlen hln hm hF hT hFl hTl
    go_wp2_with fail
    (try simp only [Exit.inBlock, Exit.then])
    obtain ⟨r0, r1⟩ := res_two (.string T) (.int .i64 0) HX2.out
    refine bodyPost_ret (v := .tuple #[.agg #[.string T, .int .i64 0], .int .i64 0]) (by simp [results, Tryz.results23, go_sem, r0, r1]) rfl ?_
    refine ⟨T, 0, rfl, ?_, (HB2.out.setCell (p := ⟨w.heap.size, 0, none⟩) (Nat.le_refl _) _).setCell (p := ⟨w.heap.size, 1, none⟩) (Nat.le_refl _) _⟩
    rw [HE.out]
    exact ⟨rfl, HT.out, hTz⟩
   ·have HE : Hid (q = .no 11) := by
     unfold Hid
     rw [HQn.out, if_neg (fun h => h hs), if_neg hm]
    obtain ⟨m1, m2⟩ := bool_lst_ne (fun h => hm (hFl.symm.trans h))
    clear hs hR hSlen hln hm hF hT hFl hTl kst hTz
    go_wp2_with fail
    (try simp only [Exit.inBlock, Exit.then])
    obtain ⟨r0, r1⟩ := res_two (.string ⟨#[]⟩) (.int .i64 0) HX2.out
    refine bodyPost_ret (v := .tuple #[.agg #[.string ⟨#[]⟩, .int .i64 0], .int .i64 11]) (by simp [results, Tryz.results23, go_sem, r0, r1]) rfl ?_
    refine ⟨⟨#[]⟩, 11, rfl, ?_, (HB2.out.setCell (p := ⟨w.heap.size, 0, none⟩) (Nat.le_refl _) _).setCell (p := ⟨w.heap.size, 1, none⟩) (Nat.le_refl _) _⟩
    rw [HE.out]
    exact ⟨rfl, by decide⟩
 ·obtain ⟨q1a, q1b⟩ := bool_str_ne (fun h => hs (HSi.out.1 (hR.symm.trans h)))
  have HE : Hid (q = .no 15) := by
   unfold Hid
   rw [HQn.out, if_pos hs]
  clear hs hR hSlen hln
  go_wp2_with fail
  (try simp only [Exit.inBlock, Exit.then])
  obtain ⟨r0, r1⟩ := res_two (.string ⟨#[]⟩) (.int .i64 0) HX2.out
  refine bodyPost_ret (v := .tuple #[.agg #[.string ⟨#[]⟩, .int .i64 0], .int .i64 15]) (by simp [results, Tryz.results23, go_sem, r0, r1]) rfl ?_
  refine ⟨⟨#[]⟩, 15, rfl, ?_, (HB2.out.setCell (p := ⟨w.heap.size, 0, none⟩) (Nat.le_refl _) _).setCell (p := ⟨w.heap.size, 1, none⟩) (Nat.le_refl _) _⟩
  rw [HE.out]
  exact ⟨rfl, by decide⟩
def codeQ : Rs Tr → Nat
 | .no x => x
 | .ok _ _ => 0
def treeO : Rs Tr → Tr
 | .no _ => leafT 0 0 0
 | .ok t _ => t
def ref14Post (q : Rs Tr) (w : World) (e : Ending) (w' : World) : Prop := Below w.heap.size w w' ∧ ∃ u, e = .returned (.tuple #[u, .int .i64 (codeQ q : Int)]) ∧ refAt (fun k => w.heap.size ≤ k) w' (treeO q) u
theorem ref14_no {q : Rs Tr} {x : Nat} {w V : World} (hq : q = .no x) (hb : Below w.heap.size w V) : ref14Post q w (.returned (.tuple #[.agg #[.int .i64 0, .int .i64 0, .int .i64 0, .int .i64 0, .int .i64 0, .slice none 0 0, .slice none 0 0, .int .i64 0, .int .i64 0], .int .i64 (x : Int)])) V := by
 rw [hq]
 exact ⟨hb, _, rfl, refLeaf_at _ _ 0 0 0⟩
structure G3 (w : World) (b : Nat) (S : ByteArray) (e : Nat) (W : World) : Prop where
 r4 : W.heap[w.heap.size]? = some (.cells #[.int .i64 0, .int .i64 0, .int .i64 0, .int .i64 0, .int .i64 0, .slice none 0 0, .slice none 0 0, .int .i64 0, .int .i64 0] 40 (0, 0))
 r6 : W.heap[w.heap.size + 1]? = some (.cells #[.int .i64 0, .int .i64 0, .int .i64 0, .int .i64 0, .int .i64 0, .slice none 0 0, .slice none 0 0, .int .i64 0, .int .i64 0] 40 (0, 0))
 r7 : W.heap[b]? = some (.cells #[.string S, .int .i64 (e : Int)] 66 (0, 0))
 hb : w.heap.size + 1 < b
 below : Below w.heap.size w W
theorem G3.keep {w W W' : World} {b : Nat} {S : ByteArray} {e : Nat} (h : G3 w b S e W) (g : Below W.heap.size W W') : G3 w b S e W' :=
 ⟨(g.block _ (blk_lt h.r4)).trans h.r4, (g.block _ (blk_lt h.r6)).trans h.r6, (g.block _ (blk_lt h.r7)).trans h.r7, h.hb, h.below.trans (g.mono h.below.size)⟩
theorem G3.set {w W : World} {b : Nat} {S : ByteArray} {e : Nat} (T : ByteArray) (e2 : Nat) (h : G3 w b S e W) : G3 w b T e2 ((W.setCell ⟨b, 0, none⟩ (.string T)).setCell ⟨b, 1, none⟩ (.int .i64 (e2 : Int))) :=
 have hb := h.hb
 ⟨other_set _ (other_set _ h.r4 (by omega)) (by omega), other_set _ (other_set _ h.r6 (by omega)) (by omega), two_set1 _ (two_set0 _ h.r7), hb, (h.below.setCell (by show w.heap.size ≤ b; omega) _).setCell (by show w.heap.size ≤ b; omega) _⟩
theorem G3.set0 {w W : World} {b : Nat} {S : ByteArray} {e : Nat} (T : ByteArray) (h : G3 w b S e W) : G3 w b T e (W.setCell ⟨b, 0, none⟩ (.string T)) :=
 have hb := h.hb
 ⟨other_set _ h.r4 (by omega), other_set _ h.r6 (by omega), two_set0 _ h.r7, hb, h.below.setCell (by show w.heap.size ≤ b; omega) _⟩
theorem G3.new {w W : World} (T : ByteArray) (e : Nat) (h4 : W.heap[w.heap.size]? = some (.cells #[.int .i64 0, .int .i64 0, .int .i64 0, .int .i64 0, .int .i64 0, .slice none 0 0, .slice none 0 0, .int .i64 0, .int .i64 0] 40 (0, 0))) (h6 : W.heap[w.heap.size + 1]? = some (.cells #[.int .i64 0, .int .i64 0, .int .i64 0, .int .i64 0, .int .i64 0, .slice none 0 0, .slice none 0 0, .int .i64 0, .int .i64 0] 40 (0, 0))) (hb : Below w.heap.size w W) :
  G3 w W.heap.size T e (W.alloc (.cells #[.string T, .int .i64 (e : Int)] 66)) := by
 have l6 := blk_lt h6
 have g := below_new W (.cells #[.string T, .int .i64 (e : Int)] 66)
 exact ⟨(g.block _ (blk_lt h4)).trans h4, (g.block _ l6).trans h6, heap_alloc_new W _, l6, hb.trans (g.mono hb.size)⟩
theorem headP_len {rec s : List UInt8} {u : Unit} (h : headP rec = .ok u s) : s.length ≤ rec.length := by
 unfold headP at h
 split at h
 ·cases h
 split at h
 ·cases h
 split at h
 ·cases h
  rw [List.length_drop, List.length_take]
  omega
 ·cases h
theorem bytes_mk {S : ByteArray} {l : List UInt8} (h : S.data.toList = l) : S = ⟨l.toArray⟩ := by
 subst h
 cases S
 simp
set_option maxRecDepth 100000 in
set_option maxHeartbeats 8000000 in
theorem ref14Get_any (B C : ByteArray) (w : World) (hB : B.size ≤ 100000) (hC : C.size ≤ 500000) (hfit : ∀ t r, readP (treeR 33 0) B.data.toList C.data.toList = .ok t r → fitT t B.size) :
  Calls Tryz.prog 10 #[.string B, .string C] w (ref14Post (readP (treeR 33 0) B.data.toList C.data.toList) w) := by
 obtain ⟨q, hq⟩ : ∃ q, q = readP (treeR 33 0) B.data.toList C.data.toList := ⟨_, rfl⟩
 rw [← hq] at hfit ⊢
 have HFit := Lib.hid hfit
 obtain ⟨c, hc⟩ : ∃ c, c = moreS 0 B.data.toList := ⟨_, rfl⟩
 have hcl : c < 4294967296 := by rw [hc]; exact moreS_lt _ _
 have hBl : B.data.toList.length = B.size := len_toList _
 have HQ : Hid (q = (headP C.data.toList).bind fun _ s => endP (bodyP (treeR 33 0) B.size c s)) := by unfold Hid; rw [hq, hc, ← hBl]; rfl
 have HBg := Lib.hid (fun W => refBegin_any C W hC)
 have HTk := Lib.hid (fun T W (h : T.size ≤ 1000000) => refTake_any T W h)
 have HOf := Lib.hid (fun W => refOf_any B W (by omega))
 rw [← hc] at HOf
 obtain ⟨NS, hNS⟩ : ∃ N : ByteArray, N = ⟨(sum4 c).toArray⟩ := ⟨_, rfl⟩
 have hNl : NS.data.toList = sum4 c := by rw [hNS]
 have HNu : Hid (∀ W, Calls Tryz.prog 25 #[.int .u64 (c : Int), .int .i64 4] W fun e w' => e = .returned (.string NS) ∧ Below W.heap.size W w') := fun W => (refNumber4_any c hcl W).mono (by
  rintro e w' ⟨S, rfl, hS, hb⟩
  rw [bytes_mk hS, ← hNS]
  exact ⟨rfl, hb⟩)
 have HGet : Hid (∀ (G : ByteArray) W, G.size ≤ 500000 → Calls Tryz.prog 27 #[rV G 0, .int .i64 0, .int .i64 0] W (getPostR (treeR 33 0 G.data.toList) 0 W)) := fun G W hG =>
  refGet_any 33 0 rfl Unit (.ok () G.data.toList) G 0 0 W ⟨rfl, rfl, by omega⟩ (fun v s h => by cases h; rw [len_toList]; omega) (by decide)
 unfold rV at HBg HGet
 unfold takePost rV at HTk
 unfold getPostR rV at HGet
 obtain ⟨X, hX⟩ : ∃ X, X = (w.alloc (.cells #[.int .i64 0, .int .i64 0, .int .i64 0, .int .i64 0, .int .i64 0, .slice none 0 0, .slice none 0 0, .int .i64 0, .int .i64 0] 40)).alloc (.cells #[.int .i64 0, .int .i64 0, .int .i64 0, .int .i64 0, .int .i64 0, .slice none 0 0, .slice none 0 0, .int .i64 0, .int .i64 0] 40) := ⟨_, rfl⟩
 have HX4 : Hid (X.heap[w.heap.size]? = some (.cells #[.int .i64 0, .int .i64 0, .int .i64 0, .int .i64 0, .int .i64 0, .slice none 0 0, .slice none 0 0, .int .i64 0, .int .i64 0] 40 (0, 0))) := by unfold Hid; rw [hX]; exact heap_alloc2_old w _ _
 have HX6 : Hid (X.heap[w.heap.size + 1]? = some (.cells #[.int .i64 0, .int .i64 0, .int .i64 0, .int .i64 0, .int .i64 0, .slice none 0 0, .slice none 0 0, .int .i64 0, .int .i64 0] 40 (0, 0))) := by unfold Hid; rw [hX]; exact heap_alloc2_new w _ _
 have HBX : Hid (Below w.heap.size w X) := by unfold Hid; rw [hX]; exact ((Below.refl _ _).alloc (Nat.le_refl _) _).alloc (by simp) _
 clear hfit hq hc hNS
 go_enter Tryz.func10, Tryz.ntmps10
 go_upto_region 2 with fail
 rw [← hX]
 clear hX
 go_wp2_with fail
 with_reducible refine (HBg.out X).mono ?_
 rintro e w2 ⟨T, x, rfl, hs, hb2⟩
 have h24 := (hb2.block _ (blk_lt HX4.out)).trans HX4.out
 have h26 := (hb2.block _ (blk_lt HX6.out)).trans HX6.out
 have hB2 := HBX.out.trans (hb2.mono HBX.out.size)
 have HS := Lib.hid hs
 go_upto_region 3 with fail
 obtain ⟨Y, hY⟩ : ∃ Y, Y = w2.alloc (.cells #[.string T, .int .i64 0] 66) := ⟨_, rfl⟩
 have HG : Hid (G3 w w2.heap.size T 0 Y) := by unfold Hid; rw [hY]; exact G3.new T 0 h24 h26 hB2
 obtain ⟨b7, hb7⟩ : ∃ b, b = w2.heap.size := ⟨_, rfl⟩
 rw [← hY, ← hb7]
 rw [← hb7] at HG
 clear hY hb7 h24 h26 hB2 hb2 hs HX4 HX6 HBX HBg
 cases hh : headP C.data.toList with
 | no y =>
  have hs := HS.out
  rw [hh] at hs
  obtain ⟨rfl, hx⟩ := hs
  have HE : Hid (q = .no x) := by unfold Hid; rw [HQ.out, hh]; rfl
  have t1 : ((x : Int) != 0) = true := bne_yes (by omega)
  clear hh hx
  obtain ⟨y0, y1, y2, y3, y4, y5, y6, y7, y8⟩ := nine_cells HG.out.r4
  obtain ⟨z0, z1, z2, z3, z4, z5, z6, z7, z8⟩ := nine_cells HG.out.r6
  have jj := rf_frozen (W := Y) (B := w.heap.size) HG.out.r4
  have j0 := jj 0
  have j1 := jj 1
  have j2 := jj 2
  have j3 := jj 3
  have j4 := jj 4
  have j5 := jj 5
  have j6 := jj 6
  have j7 := jj 7
  have j8 := jj 8
  have n1 : ¬ b7 = w.heap.size := by have := HG.out.hb; omega
  have n2 : ¬ w.heap.size = b7 := by have := HG.out.hb; omega
  clear jj
  go_wp2_with fail
  (try simp only [Exit.inBlock, Exit.then])
  have ho := nine_cells (set9_row (W := Y) (g := w.heap.size) (.int .i64 0) (.int .i64 0) (.int .i64 0) (.int .i64 0) (.int .i64 0) (.slice none 0 0) (.slice none 0 0) (.int .i64 0) (.int .i64 0) HG.out.r4)
  unfold set9 at ho
  obtain ⟨s0, s1, s2, s3, s4, s5, s6, s7, s8⟩ := ho
  refine bodyPost_ret (v := .tuple #[.agg #[.int .i64 0, .int .i64 0, .int .i64 0, .int .i64 0, .int .i64 0, .slice none 0 0, .slice none 0 0, .int .i64 0, .int .i64 0], .int .i64 (x : Int)]) (by simp [results, Tryz.results10, go_sem, s0, s1, s2, s3, s4, s5, s6, s7, s8]) rfl ?_
  exact ref14_no HE.out (set9_below (.int .i64 0) (.int .i64 0) (.int .i64 0) (.int .i64 0) (.int .i64 0) (.slice none 0 0) (.slice none 0 0) (.int .i64 0) (.int .i64 0) HG.out.below (Nat.le_refl _))
 | ok u s =>
  have hs := HS.out
  rw [hh] at hs
  obtain ⟨rfl, hTl, hTz⟩ := hs
  have hsl := headP_len hh
  rw [len_toList] at hsl
  have HQ2 : Hid (q = endP (bodyP (treeR 33 0) B.size c T.data.toList)) := by unfold Hid; rw [HQ.out, hh, hTl]; rfl
  have HTk := Lib.hid (fun W => HTk.out T W hTz)
  rw [← hTl] at hsl
  have HTsz := Lib.hid hsl
  clear hTl HQ HS hh hTz hsl
  obtain ⟨c0, c1⟩ := two_cells HG.out.r7
  obtain ⟨f0, f1⟩ := two_frozen HG.out.r7
  go_wp2_with fail
  with_reducible refine (HTk.out _).mono ?_
  rintro e w3 ⟨hb3, hp⟩
  have HG3 := Lib.hid (HG.out.keep hb3)
  clear hb3 c0 c1 f0 f1 HG HTk
  obtain ⟨c0, c1⟩ := two_cells HG3.out.r7
  obtain ⟨f0, f1⟩ := two_frozen HG3.out.r7
  cases hn : numP T.data.toList with
  | no y =>
   rw [hn] at hp
   obtain ⟨T2, rfl⟩ := hp
   have hy := numP_nz _ _ hn
   have HE : Hid (q = .no y) := by unfold Hid; rw [HQ2.out]; unfold bodyP msgP; rw [hn]; rfl
   have t1 : ((y : Int) != 0) = true := bne_yes (by omega)
   clear hn hy
   go_upto_region 6 with fail
   have HG4 := Lib.hid (HG3.out.set T2 y)
   obtain ⟨V, hV⟩ : ∃ V, V = ((w3.setCell ⟨b7, 0, none⟩ (.string T2)).setCell ⟨b7, 1, none⟩ (.int .i64 (y : Int))) := ⟨_, rfl⟩
   rw [← hV] at HG4 ⊢
   clear hV c0 c1 f0 f1 HG3
   obtain ⟨c0, c1⟩ := two_cells HG4.out.r7
   obtain ⟨f0, f1⟩ := two_frozen HG4.out.r7
   obtain ⟨y0, y1, y2, y3, y4, y5, y6, y7, y8⟩ := nine_cells HG4.out.r4
   obtain ⟨z0, z1, z2, z3, z4, z5, z6, z7, z8⟩ := nine_cells HG4.out.r6
   have jj := rf_frozen (W := V) (B := w.heap.size) HG4.out.r4
   have j0 := jj 0
   have j1 := jj 1
   have j2 := jj 2
   have j3 := jj 3
   have j4 := jj 4
   have j5 := jj 5
   have j6 := jj 6
   have j7 := jj 7
   have j8 := jj 8
   have n1 : ¬ b7 = w.heap.size := by have := HG4.out.hb; omega
   have n2 : ¬ w.heap.size = b7 := by have := HG4.out.hb; omega
   clear jj
   go_wp2_with fail
   go_region
   go_wp2_with fail
   (try simp only [Exit.inBlock, Exit.then])
   have ho := nine_cells (set9_row (W := V) (g := w.heap.size) (.int .i64 0) (.int .i64 0) (.int .i64 0) (.int .i64 0) (.int .i64 0) (.slice none 0 0) (.slice none 0 0) (.int .i64 0) (.int .i64 0) HG4.out.r4)
   unfold set9 at ho
   obtain ⟨s0, s1, s2, s3, s4, s5, s6, s7, s8⟩ := ho
   refine bodyPost_ret (v := .tuple #[.agg #[.int .i64 0, .int .i64 0, .int .i64 0, .int .i64 0, .int .i64 0, .slice none 0 0, .slice none 0 0, .int .i64 0, .int .i64 0], .int .i64 (y : Int)]) (by simp [results, Tryz.results10, go_sem, s0, s1, s2, s3, s4, s5, s6, s7, s8]) rfl ?_
   exact ref14_no HE.out (set9_below (.int .i64 0) (.int .i64 0) (.int .i64 0) (.int .i64 0) (.int .i64 0) (.slice none 0 0) (.slice none 0 0) (.int .i64 0) (.int .i64 0) HG4.out.below (Nat.le_refl _)).drew
  | ok m r =>
   rw [hn] at hp
   obtain ⟨T2, hT2, rfl⟩ := hp
   have hml := (numP_inv hn).2
   have hrl := numP_less hn
   have hTs := HTsz.out
   have hT2s : T2.size ≤ 500000 := by rw [bytes_len, hT2]; omega
   have HQ3 : Hid (q = endP ((if m ≠ B.size then (.no 34 : Rs Unit) else (takeP 4 T2.data.toList).bind fun q s => if valL q ≠ c then .no 34 else .ok () s).bind fun _ s => treeR 33 0 s)) := by unfold Hid; rw [HQ2.out, hT2]; unfold bodyP msgP; rw [hn]; rfl
   have hT2l : T2.data.toList.length = T2.size := len_toList _
   clear hn hT2 hrl hTs HQ2 HTsz
   go_upto_region 6 with fail
   have HG4 := Lib.hid (HG3.out.set T2 0)
   obtain ⟨V, hV⟩ : ∃ V, V = ((w3.setCell ⟨b7, 0, none⟩ (.string T2)).setCell ⟨b7, 1, none⟩ (.int .i64 ((0 : Nat) : Int))) := ⟨_, rfl⟩
   rw [← hV] at HG4
   replace hV : V = ((w3.setCell ⟨b7, 0, none⟩ (.string T2)).setCell ⟨b7, 1, none⟩ (.int .i64 0)) := hV
   rw [← hV]
   clear hV c0 c1 f0 f1 HG3
   obtain ⟨c0, c1⟩ := two_cells HG4.out.r7
   obtain ⟨f0, f1⟩ := two_frozen HG4.out.r7
   replace c1 : V.cell? ⟨b7, 1, none⟩ = some (.int .i64 0) := c1
   by_cases hm : m = B.size
   ·subst hm
    have t1 : ((B.size : Int) != (B.size : Int)) = false := bne_no rfl
    by_cases h4 : T2.size < 4
    ·have u1 : (T2.size : Int) < 4 := by omega
     have u2 : decide ((T2.size : Int) < 4) = true := decide_eq_true u1
     have u3 : decide (T2.size < 4) = true := decide_eq_true h4
     have HE : Hid (q = .no 10) := by unfold Hid; rw [HQ3.out, if_neg (fun h => h rfl)]; unfold takeP; rw [if_pos (by rw [hT2l]; exact h4)]; rfl
     clear hT2l
     obtain ⟨y0, y1, y2, y3, y4, y5, y6, y7, y8⟩ := nine_cells HG4.out.r4
     obtain ⟨z0, z1, z2, z3, z4, z5, z6, z7, z8⟩ := nine_cells HG4.out.r6
     have jj := rf_frozen (W := V) (B := w.heap.size) HG4.out.r4
     have j0 := jj 0
     have j1 := jj 1
     have j2 := jj 2
     have j3 := jj 3
     have j4 := jj 4
     have j5 := jj 5
     have j6 := jj 6
     have j7 := jj 7
     have j8 := jj 8
     have n1 : ¬ b7 = w.heap.size := by have := HG4.out.hb; omega
     have n2 : ¬ w.heap.size = b7 := by have := HG4.out.hb; omega
     clear jj
     go_wp2_with fail
     (try simp only [Exit.inBlock, Exit.then])
     have ho := nine_cells (set9_row (W := V) (g := w.heap.size) (.int .i64 0) (.int .i64 0) (.int .i64 0) (.int .i64 0) (.int .i64 0) (.slice none 0 0) (.slice none 0 0) (.int .i64 0) (.int .i64 0) HG4.out.r4)
     unfold set9 at ho
     obtain ⟨s0, s1, s2, s3, s4, s5, s6, s7, s8⟩ := ho
     refine bodyPost_ret (v := .tuple #[.agg #[.int .i64 0, .int .i64 0, .int .i64 0, .int .i64 0, .int .i64 0, .slice none 0 0, .slice none 0 0, .int .i64 0, .int .i64 0], .int .i64 10]) (by simp [results, Tryz.results10, go_sem, s0, s1, s2, s3, s4, s5, s6, s7, s8]) rfl ?_
     exact ref14_no HE.out (set9_below (.int .i64 0) (.int .i64 0) (.int .i64 0) (.int .i64 0) (.int .i64 0) (.slice none 0 0) (.slice none 0 0) (.int .i64 0) (.int .i64 0) HG4.out.below (Nat.le_refl _))
    ·have u1 : ¬ (T2.size : Int) < 4 := by omega
     have u2 : decide ((T2.size : Int) < 4) = false := decide_eq_false u1
     have u3 : decide (T2.size < 4) = false := decide_eq_false h4
     have u4 : (4 : Int) ≤ (T2.size : Int) := by omega
     have u5 : 4 ≤ T2.size := by omega
     have HQ4 : Hid (q = endP ((if valL (T2.data.toList.take 4) ≠ c then (.no 34 : Rs Unit) else .ok () (T2.data.toList.drop 4)).bind fun _ s => treeR 33 0 s)) := by unfold Hid; rw [HQ3.out, if_neg (fun h => h rfl)]; unfold takeP; rw [if_neg (by rw [hT2l]; exact h4)]; rfl
     obtain ⟨FF, hF⟩ : ∃ FF, FF = T2.extract 0 4 := ⟨_, rfl⟩
     have hFl : FF.data.toList = T2.data.toList.take 4 := by rw [hF, ext_take]
     have hFn : FF.data.toList.length = 4 := by rw [hFl, List.length_take, hT2l]; omega
     have ksf : T2.extract 0 4 = FF := hF.symm
     obtain ⟨GG, hGG⟩ : ∃ GG, GG = T2.extract 4 T2.size := ⟨_, rfl⟩
     have hGl : GG.data.toList = T2.data.toList.drop 4 := by rw [hGG, ext_drop]
     have hGz : GG.size ≤ 500000 := by rw [bytes_len, hGl, List.length_drop, hT2l]; omega
     have ksg : T2.extract 4 T2.size = GG := hGG.symm
     rw [← hFl, ← hGl] at HQ4
     have hFv : valL FF.data.toList = c ↔ FF.data.toList = NS.data.toList := by
      rw [hNl]
      constructor
      ·intro h; rw [← h, sum4_valL hFn]
      ·intro h; rw [h]; exact valL_sum4 hcl
     have d0 := BW.cell c0
     clear hF hGG hFl hGl hFn hT2l HQ3 hNl
     by_cases hv : FF.data.toList = NS.data.toList
     ·obtain ⟨v1, v2⟩ := bool_str_eq hv
      have HQ5 : Hid (q = endP (treeR 33 0 GG.data.toList)) := by unfold Hid; rw [HQ4.out, if_neg (fun h => h (hFv.2 hv))]; rfl
      clear hFv hv HQ4
      go_upto_region 12 with fail
      refine wp_region_below (by kernel_rfl) (by kernel_rfl) ?_
      repeat (go_big_quiet_step (first
       | (go_at_call 26; with_reducible exact BW.calls_same (HOf.out _))
       | (go_at_call 25; with_reducible exact BW.calls (HNu.out _))))
      refine wpQuiet_nil ?_
      rintro _ ⟨z, rfl⟩
      have HGz := Lib.hid (HG4.out.keep z.h)
      generalize z.v = U at HGz ⊢
      clear c0 c1 f0 f1 d0 HG4
      obtain ⟨c0, c1⟩ := two_cells HGz.out.r7
      obtain ⟨f0, f1⟩ := two_frozen HGz.out.r7
      replace c1 : U.cell? ⟨b7, 1, none⟩ = some (.int .i64 0) := c1
      go_upto_region 15 with fail
      have HG5 := Lib.hid (HGz.out.set0 GG)
      obtain ⟨U2, hU⟩ : ∃ V, V = U.setCell ⟨b7, 0, none⟩ (.string GG) := ⟨_, rfl⟩
      rw [← hU] at HG5 ⊢
      clear hU c0 c1 f0 f1 HGz ksf ksg v1 v2
      obtain ⟨c0, c1⟩ := two_cells HG5.out.r7
      obtain ⟨f0, f1⟩ := two_frozen HG5.out.r7
      replace c1 : U2.cell? ⟨b7, 1, none⟩ = some (.int .i64 0) := c1
      go_wp2_with fail
      with_reducible refine (HGet.out GG U2 hGz).mono ?_
      rintro e w5 ⟨hb5, T3, e3, k0, a1, a2, a3, a4, ka, kn, kc, ca, cn, cc, a7, a8, rfl, hs5, -, hr5⟩
      have HS5 := Lib.hid hs5
      have HG6 := Lib.hid (HG5.out.keep hb5)
      have HR5 := Lib.hid hr5
      have HU2 : Hid (b7 < U2.heap.size) := blk_lt HG5.out.r7
      have HU3 : Hid (U2.heap.size ≤ w5.heap.size) := hb5.size
      clear c0 c1 f0 f1 hb5 hs5 hr5
      obtain ⟨c0, c1⟩ := two_cells HG6.out.r7
      obtain ⟨f0, f1⟩ := two_frozen HG6.out.r7
      have HGa := Lib.hid (HG6.out.keep (below_new w5 (.cells #[.int .i64 0, .int .i64 0, .int .i64 0, .int .i64 0, .int .i64 0, .slice none 0 0, .slice none 0 0, .int .i64 0, .int .i64 0] 40)))
      obtain ⟨x0, x1⟩ := two_cells HGa.out.r7
      obtain ⟨i0, i1⟩ := two_frozen HGa.out.r7
      have hbz : b7 < w5.heap.size := blk_lt HG6.out.r7
      have nb : ¬ b7 = w5.heap.size := by omega
      have nb' : ¬ w5.heap.size = b7 := by omega
      go_upto_region 16 with fail
      clear x0 x1 i0 i1 hbz nb nb' HGa
      obtain ⟨W6, hW6⟩ : ∃ W, W = (w5.setCell ⟨b7, 0, none⟩ (.string T3)).setCell ⟨b7, 1, none⟩ (.int .i64 (e3 : Int)) := ⟨_, rfl⟩
      have hW6z : W6.heap.size = w5.heap.size := by rw [hW6]; simp
      have HGs : Hid (G3 w b7 T3 e3 W6) := by unfold Hid; rw [hW6]; exact HG6.out.set T3 e3
      have HR6 : Hid (∀ t r, treeR 33 0 GG.data.toList = .ok t r → refAt (fun k => U2.heap.size ≤ k) W6 t (.agg #[.int .i64 k0, .int .i64 a1, .int .i64 a2, .int .i64 a3, .int .i64 (a4 : Int), .slice ka kn kc, .slice ca cn cc, .int .i64 a7, .int .i64 a8])) := fun t r ht => by
       have h1 := HU2.out
       rw [hW6]
       refine refAt.keep (fun k hk hkz => ⟨?_, hk⟩) _ _ (HR5.out t r ht)
       exact (Below.heap_setCell _ _ _ _ (by show k ≠ b7; omega)).trans (Below.heap_setCell _ _ _ _ (by show k ≠ b7; omega))
      rw [← hW6]
      clear hW6
      obtain ⟨W7, hW7⟩ : ∃ W, W = W6.alloc (.cells #[.int .i64 k0, .int .i64 a1, .int .i64 a2, .int .i64 a3, .int .i64 (a4 : Int), .slice ka kn kc, .slice ca cn cc, .int .i64 a7, .int .i64 a8] 40) := ⟨_, rfl⟩
      have HG7 : Hid (G3 w b7 T3 e3 W7) := by unfold Hid; rw [hW7]; exact HGs.out.keep (below_new W6 _)
      have HP7 : Hid (W7.heap[w5.heap.size]? = some (.cells #[.int .i64 k0, .int .i64 a1, .int .i64 a2, .int .i64 a3, .int .i64 (a4 : Int), .slice ka kn kc, .slice ca cn cc, .int .i64 a7, .int .i64 a8] 40 (0, 0))) := by unfold Hid; rw [hW7, ← hW6z]; exact heap_alloc_new W6 _
      have HR7 : Hid (∀ t r, treeR 33 0 GG.data.toList = .ok t r → refAt (fun k => U2.heap.size ≤ k) W7 t (.agg #[.int .i64 k0, .int .i64 a1, .int .i64 a2, .int .i64 a3, .int .i64 (a4 : Int), .slice ka kn kc, .slice ca cn cc, .int .i64 a7, .int .i64 a8])) := fun t r ht => by rw [hW7]; exact refAt_below (HR6.out t r ht) (below_new W6 _)
      have HZ7 : Hid (w5.heap.size < W7.heap.size) := blk_lt HP7.out
      rw [← hW7]
      obtain ⟨b10, hb10⟩ : ∃ b, b = w5.heap.size := ⟨_, rfl⟩
      rw [← hb10] at HP7 HZ7 HU3 ⊢
      clear hW6z HR6 HGs
      clear hW7 hb10 c0 c1 f0 f1 HG6 HR5
      obtain ⟨c0, c1⟩ := two_cells HG7.out.r7
      cases hq5 : treeR 33 0 GG.data.toList with
      | no y =>
       have hs := HS5.out
       rw [hq5] at hs
       obtain ⟨rfl, hx⟩ := hs
       have HE : Hid (q = .no e3) := by unfold Hid; rw [HQ5.out, hq5]; rfl
       have t2 : ((e3 : Int) != 0) = true := bne_yes (by omega)
       clear hq5 hx
       obtain ⟨y0, y1, y2, y3, y4, y5, y6, y7, y8⟩ := nine_cells HG7.out.r4
       obtain ⟨z0, z1, z2, z3, z4, z5, z6, z7, z8⟩ := nine_cells HG7.out.r6
       have jj := rf_frozen (W := W7) (B := w.heap.size) HG7.out.r4
       have j0 := jj 0
       have j1 := jj 1
       have j2 := jj 2
       have j3 := jj 3
       have j4 := jj 4
       have j5 := jj 5
       have j6 := jj 6
       have j7 := jj 7
       have j8 := jj 8
       have n1 : ¬ b7 = w.heap.size := by have := HG7.out.hb; omega
       have n2 : ¬ w.heap.size = b7 := by have := HG7.out.hb; omega
       clear jj
       go_wp2_with fail
       go_region
       go_wp2_with fail
       (try simp only [Exit.inBlock, Exit.then])
       have ho := nine_cells (set9_row (W := W7) (g := w.heap.size) (.int .i64 0) (.int .i64 0) (.int .i64 0) (.int .i64 0) (.int .i64 0) (.slice none 0 0) (.slice none 0 0) (.int .i64 0) (.int .i64 0) HG7.out.r4)
       unfold set9 at ho
       obtain ⟨s0, s1, s2, s3, s4, s5, s6, s7, s8⟩ := ho
       refine bodyPost_ret (v := .tuple #[.agg #[.int .i64 0, .int .i64 0, .int .i64 0, .int .i64 0, .int .i64 0, .slice none 0 0, .slice none 0 0, .int .i64 0, .int .i64 0], .int .i64 (e3 : Int)]) (by simp [results, Tryz.results10, go_sem, s0, s1, s2, s3, s4, s5, s6, s7, s8]) rfl ?_
       exact ref14_no HE.out (set9_below (.int .i64 0) (.int .i64 0) (.int .i64 0) (.int .i64 0) (.int .i64 0) (.slice none 0 0) (.slice none 0 0) (.int .i64 0) (.int .i64 0) HG7.out.below (Nat.le_refl _)).drew
      | ok t r =>
       have hs := HS5.out
       rw [hq5] at hs
       obtain ⟨rfl, hTl, hTz⟩ := hs
       have HRt := Lib.hid (HR7.out t r hq5)
       replace c1 : W7.cell? ⟨b7, 1, none⟩ = some (.int .i64 0) := c1
       cases r with
       | cons d r =>
        have HE : Hid (q = .no 12) := by unfold Hid; rw [HQ5.out, hq5]; rfl
        obtain ⟨v1, v2⟩ := bool_lst_ne (a := T3) (l := []) (fun h => by rw [h] at hTl; cases hTl)
        clear hq5 hTl
        obtain ⟨y0, y1, y2, y3, y4, y5, y6, y7, y8⟩ := nine_cells HG7.out.r4
        obtain ⟨z0, z1, z2, z3, z4, z5, z6, z7, z8⟩ := nine_cells HG7.out.r6
        have jj := rf_frozen (W := W7) (B := w.heap.size) HG7.out.r4
        have j0 := jj 0
        have j1 := jj 1
        have j2 := jj 2
        have j3 := jj 3
        have j4 := jj 4
        have j5 := jj 5
        have j6 := jj 6
        have j7 := jj 7
        have j8 := jj 8
        have n1 : ¬ b7 = w.heap.size := by have := HG7.out.hb; omega
        have n2 : ¬ w.heap.size = b7 := by have := HG7.out.hb; omega
        clear jj
        go_wp2_with fail
        (try simp only [Exit.inBlock, Exit.then])
        have ho := nine_cells (set9_row (W := W7) (g := w.heap.size) (.int .i64 0) (.int .i64 0) (.int .i64 0) (.int .i64 0) (.int .i64 0) (.slice none 0 0) (.slice none 0 0) (.int .i64 0) (.int .i64 0) HG7.out.r4)
        unfold set9 at ho
        obtain ⟨s0, s1, s2, s3, s4, s5, s6, s7, s8⟩ := ho
        refine bodyPost_ret (v := .tuple #[.agg #[.int .i64 0, .int .i64 0, .int .i64 0, .int .i64 0, .int .i64 0, .slice none 0 0, .slice none 0 0, .int .i64 0, .int .i64 0], .int .i64 12]) (by simp [results, Tryz.results10, go_sem, s0, s1, s2, s3, s4, s5, s6, s7, s8]) rfl ?_
        exact ref14_no HE.out (set9_below (.int .i64 0) (.int .i64 0) (.int .i64 0) (.int .i64 0) (.int .i64 0) (.slice none 0 0) (.slice none 0 0) (.int .i64 0) (.int .i64 0) HG7.out.below (Nat.le_refl _))
       | nil =>
        have HE : Hid (q = .ok t []) := by unfold Hid; rw [HQ5.out, hq5]; rfl
        obtain ⟨v1, v2⟩ := bool_lst_eq hTl
        have HCk := Lib.hid (ref13Check_any _ t B.size (HFit.out t [] HE.out) W7 _ HRt.out)
        obtain ⟨p0, p1, p2, p3, p4, p5, p6, p7, p8⟩ := nine_cells HP7.out
        clear hq5 hTl HFit
        go_wp2_with fail
        with_reducible refine (HCk.out).mono ?_
        rintro e w8 ⟨rfl, hb8⟩
        have HG8 := Lib.hid (HG7.out.keep hb8)
        have HP8 := Lib.hid ((hb8.block _ (blk_lt HP7.out)).trans HP7.out)
        have HRt8 := Lib.hid (refAt_below HRt.out hb8)
        clear hb8 p0 p1 p2 p3 p4 p5 p6 p7 p8 c0 c1 HCk HG7 HP7 HR7 HRt
        obtain ⟨p0, p1, p2, p3, p4, p5, p6, p7, p8⟩ := nine_cells HP8.out
        obtain ⟨y0, y1, y2, y3, y4, y5, y6, y7, y8⟩ := nine_cells HG8.out.r4
        obtain ⟨z0, z1, z2, z3, z4, z5, z6, z7, z8⟩ := nine_cells HG8.out.r6
        have jj := rf_frozen (W := w8) (B := w.heap.size) HG8.out.r4
        have j0 := jj 0
        have j1 := jj 1
        have j2 := jj 2
        have j3 := jj 3
        have j4 := jj 4
        have j5 := jj 5
        have j6 := jj 6
        have j7 := jj 7
        have j8 := jj 8
        have n1 : ¬ b7 = w.heap.size := by have := HG8.out.hb; omega
        have n2 : ¬ w.heap.size = b7 := by have := HG8.out.hb; omega
        clear jj
        have n3 : ¬ b10 = w.heap.size := by have h1 := HG8.out.hb; have h2 := HU2.out; have h3 := HU3.out; omega
        have n4 : ¬ w.heap.size = b10 := by omega
        go_wp2_with fail
        (try simp only [Exit.inBlock, Exit.then])
        have ho := nine_cells (set9_row (W := w8) (g := w.heap.size) (.int .i64 k0) (.int .i64 a1) (.int .i64 a2) (.int .i64 a3) (.int .i64 (a4 : Int)) (.slice ka kn kc) (.slice ca cn cc) (.int .i64 a7) (.int .i64 a8) HG8.out.r4)
        unfold set9 at ho
        obtain ⟨s0, s1, s2, s3, s4, s5, s6, s7, s8⟩ := ho
        refine bodyPost_ret (v := .tuple #[.agg #[.int .i64 k0, .int .i64 a1, .int .i64 a2, .int .i64 a3, .int .i64 (a4 : Int), .slice ka kn kc, .slice ca cn cc, .int .i64 a7, .int .i64 a8], .int .i64 0]) (by simp [results, Tryz.results10, go_sem, s0, s1, s2, s3, s4, s5, s6, s7, s8]) rfl ?_
        rw [HE.out]
        refine ⟨set9_below (.int .i64 k0) (.int .i64 a1) (.int .i64 a2) (.int .i64 a3) (.int .i64 (a4 : Int)) (.slice ka kn kc) (.slice ca cn cc) (.int .i64 a7) (.int .i64 a8) HG8.out.below (Nat.le_refl _), _, rfl, ?_⟩
        have h1 := HG8.out.hb
        have h2 := HU2.out
        exact refAt.keep (fun k hk hkz => ⟨set9_heap (.int .i64 k0) (.int .i64 a1) (.int .i64 a2) (.int .i64 a3) (.int .i64 (a4 : Int)) (.slice ka kn kc) (.slice ca cn cc) (.int .i64 a7) (.int .i64 a8) (by omega), by omega⟩) _ _ HRt8.out
     ·obtain ⟨v1, v2⟩ := bool_str_ne hv
      have HE : Hid (q = .no 34) := by unfold Hid; rw [HQ4.out, if_pos (fun h => hv (hFv.1 h))]; rfl
      clear hFv hv HQ4 ksg hGz
      go_upto_region 12 with fail
      refine wp_region_below (by kernel_rfl) (by kernel_rfl) ?_
      repeat (go_big_quiet_step (first
       | (go_at_call 26; with_reducible exact BW.calls_same (HOf.out _))
       | (go_at_call 25; with_reducible exact BW.calls (HNu.out _))))
      refine wpQuiet_nil ?_
      rintro _ ⟨z, rfl⟩
      have HGz := Lib.hid (HG4.out.keep z.h)
      generalize z.v = U at HGz ⊢
      clear c0 c1 f0 f1 d0 HG4
      obtain ⟨y0, y1, y2, y3, y4, y5, y6, y7, y8⟩ := nine_cells HGz.out.r4
      obtain ⟨z0, z1, z2, z3, z4, z5, z6, z7, z8⟩ := nine_cells HGz.out.r6
      have jj := rf_frozen (W := U) (B := w.heap.size) HGz.out.r4
      have j0 := jj 0
      have j1 := jj 1
      have j2 := jj 2
      have j3 := jj 3
      have j4 := jj 4
      have j5 := jj 5
      have j6 := jj 6
      have j7 := jj 7
      have j8 := jj 8
      have n1 : ¬ b7 = w.heap.size := by have := HGz.out.hb; omega
      have n2 : ¬ w.heap.size = b7 := by have := HGz.out.hb; omega
      clear jj
      go_wp2_with fail
      (try simp only [Exit.inBlock, Exit.then])
      have ho := nine_cells (set9_row (W := U) (g := w.heap.size) (.int .i64 0) (.int .i64 0) (.int .i64 0) (.int .i64 0) (.int .i64 0) (.slice none 0 0) (.slice none 0 0) (.int .i64 0) (.int .i64 0) HGz.out.r4)
      unfold set9 at ho
      obtain ⟨s0, s1, s2, s3, s4, s5, s6, s7, s8⟩ := ho
      refine bodyPost_ret (v := .tuple #[.agg #[.int .i64 0, .int .i64 0, .int .i64 0, .int .i64 0, .int .i64 0, .slice none 0 0, .slice none 0 0, .int .i64 0, .int .i64 0], .int .i64 34]) (by simp [results, Tryz.results10, go_sem, s0, s1, s2, s3, s4, s5, s6, s7, s8]) rfl ?_
      exact ref14_no HE.out (set9_below (.int .i64 0) (.int .i64 0) (.int .i64 0) (.int .i64 0) (.int .i64 0) (.slice none 0 0) (.slice none 0 0) (.int .i64 0) (.int .i64 0) HGz.out.below (Nat.le_refl _))
   ·have t1 : ((m : Int) != (B.size : Int)) = true := bne_yes (by omega)
    have HE : Hid (q = .no 34) := by unfold Hid; rw [HQ3.out, if_pos hm]; rfl
    clear hT2l
    obtain ⟨y0, y1, y2, y3, y4, y5, y6, y7, y8⟩ := nine_cells HG4.out.r4
    obtain ⟨z0, z1, z2, z3, z4, z5, z6, z7, z8⟩ := nine_cells HG4.out.r6
    have jj := rf_frozen (W := V) (B := w.heap.size) HG4.out.r4
    have j0 := jj 0
    have j1 := jj 1
    have j2 := jj 2
    have j3 := jj 3
    have j4 := jj 4
    have j5 := jj 5
    have j6 := jj 6
    have j7 := jj 7
    have j8 := jj 8
    have n1 : ¬ b7 = w.heap.size := by have := HG4.out.hb; omega
    have n2 : ¬ w.heap.size = b7 := by have := HG4.out.hb; omega
    clear jj
    go_wp2_with fail
    (try simp only [Exit.inBlock, Exit.then])
    have ho := nine_cells (set9_row (W := V) (g := w.heap.size) (.int .i64 0) (.int .i64 0) (.int .i64 0) (.int .i64 0) (.int .i64 0) (.slice none 0 0) (.slice none 0 0) (.int .i64 0) (.int .i64 0) HG4.out.r4)
    unfold set9 at ho
    obtain ⟨s0, s1, s2, s3, s4, s5, s6, s7, s8⟩ := ho
    refine bodyPost_ret (v := .tuple #[.agg #[.int .i64 0, .int .i64 0, .int .i64 0, .int .i64 0, .int .i64 0, .slice none 0 0, .slice none 0 0, .int .i64 0, .int .i64 0], .int .i64 34]) (by simp [results, Tryz.results10, go_sem, s0, s1, s2, s3, s4, s5, s6, s7, s8]) rfl ?_
    exact ref14_no HE.out (set9_below (.int .i64 0) (.int .i64 0) (.int .i64 0) (.int .i64 0) (.int .i64 0) (.slice none 0 0) (.slice none 0 0) (.int .i64 0) (.int .i64 0) HG4.out.below (Nat.le_refl _))
def getPostZ (c : Int) (q : Rs Tr) (w : World) (e : Ending) (w' : World) : Prop := Below w.heap.size w w' ∧ ∃ (k0 a1 a2 a3 a4 : Int) (ka : Option Addr) (kn kc : Nat) (ca : Option Addr) (cn cc : Nat) (a7 a8 : Int) (code : Int),
 e = .returned (.tuple #[.agg #[.int .i64 k0, .int .i64 a1, .int .i64 a2, .int .i64 a3, .int .i64 a4, .slice ka kn kc, .slice ca cn cc, .int .i64 a7, .int .i64 a8], .int .i64 code]) ∧ getOut c q (.agg #[.int .i64 k0, .int .i64 a1, .int .i64 a2, .int .i64 a3, .int .i64 a4, .slice ka kn kc, .slice ca cn cc, .int .i64 a7, .int .i64 a8]) code (fun k => w.heap.size ≤ k) w' ∧
 ∀ x, q = .no x → (.agg #[.int .i64 k0, .int .i64 a1, .int .i64 a2, .int .i64 a3, .int .i64 a4, .slice ka kn kc, .slice ca cn cc, .int .i64 a7, .int .i64 a8] : Value) = .agg #[.int .i64 0, .int .i64 0, .int .i64 0, .int .i64 0, .int .i64 0, .slice none 0 0, .slice none 0 0, .int .i64 0, .int .i64 0]
set_option maxRecDepth 100000 in
set_option maxHeartbeats 8000000 in
theorem recGetZ_any (c : Int) (mv v : Value) (msg rec : List UInt8) (w : World) (hm : bytesArg w mv msg) (hv : bytesArg w v rec) (hbig : rec.length ≤ 500000) (hg : errG w)
  (hck : ∀ (t : Tr), readP (treeP 33 0) msg rec = .ok t [] → ∀ (S : Nat → Prop) (W : World) (k0 a1 a2 a3 a4 : Int) (ka : Option Addr) (kn kc : Nat) (ca : Option Addr) (cn cc : Nat) (a7 a8 : Int), treeAt S W t (.agg #[.int .i64 k0, .int .i64 a1, .int .i64 a2, .int .i64 a3, .int .i64 a4, .slice ka kn kc, .slice ca cn cc, .int .i64 a7, .int .i64 a8]) →
   Calls Tryz.prog 16 #[.agg #[.int .i64 k0, .int .i64 a1, .int .i64 a2, .int .i64 a3, .int .i64 a4, .slice ka kn kc, .slice ca cn cc, .int .i64 a7, .int .i64 a8], .int .i64 (msg.length : Int)] W fun e w' => e = .returned (.int .i64 c) ∧ Below W.heap.size W w') :
  Calls Tryz.prog 9 #[mv, v] w (getPostZ c (readP (treeP 33 0) msg rec) w) := by
 obtain ⟨X, hX⟩ : ∃ X, X = w.alloc (partO 0 0 0 0 0 (.slice none 0 0) (.slice none 0 0) 0 0) := ⟨_, rfl⟩
 have hBX : Below w.heap.size w X := by rw [hX]; exact (Below.refl _ _).alloc (Nat.le_refl _) _
 have HOX : Hid (X.heap[w.heap.size]? = some (partO 0 0 0 0 0 (.slice none 0 0) (.slice none 0 0) 0 0)) := by rw [hX]; exact heap_alloc_new w _
 have HzX : Hid (X.heap.size = w.heap.size + 1) := by unfold Hid; rw [hX]; simp
 have HBX := Lib.hid hBX
 have HRd := Lib.hid (recRead_any c mv v msg rec X (hm.below hBX) (hv.below hBX) hbig hck)
 have HE := Lib.hid (hg.below hBX)
 obtain ⟨q, hq⟩ : ∃ q, q = readP (treeP 33 0) msg rec := ⟨_, rfl⟩
 rw [← hq] at HRd ⊢
 unfold readPost at HRd
 unfold partO at hX
 clear hq hm hv hbig hck hBX hg
 go_enter Tryz.func9, Tryz.ntmps9
 go_wp2_with fail
 rw [← hX]
 clear hX
 with_reducible refine HRd.out.mono ?_
 rintro e w1 ⟨hb, k0, a1, a2, a3, a4, ka, kn, kc, ca, cn, cc, a7, a8, ev, rfl, ho⟩
 have HB1 := Lib.hid (HBX.out.trans (hb.mono HBX.out.size))
 have HO1 := Lib.hid ((hb.block w.heap.size (by have := HzX.out; omega)).trans HOX.out)
 have HE1 := Lib.hid (HE.out.below hb)
 have HXs : Hid (X.heap.size ≤ w1.heap.size) := hb.size
 clear hb HRd
 go_upto_region 2 with fail
 obtain ⟨Y, hY⟩ : ∃ Y, Y = w1.alloc (.cells #[.int .i64 k0, .int .i64 a1, .int .i64 a2, .int .i64 a3, .int .i64 a4, .slice ka kn kc, .slice ca cn cc, .int .i64 a7, .int .i64 a8] 31) := ⟨_, rfl⟩
 have HY9 : Hid (Y.heap[w1.heap.size]? = some (.cells #[.int .i64 k0, .int .i64 a1, .int .i64 a2, .int .i64 a3, .int .i64 a4, .slice ka kn kc, .slice ca cn cc, .int .i64 a7, .int .i64 a8] 31 (0, 0))) := by rw [hY]; exact heap_alloc_new w1 _
 have hb3 : Below w1.heap.size w1 Y := by rw [hY]; exact below_new w1 _
 have HYz : Hid (Y.heap.size = w1.heap.size + 1) := by unfold Hid; rw [hY]; simp
 have HBY := Lib.hid (HB1.out.trans (hb3.mono HB1.out.size))
 have HOY := Lib.hid ((hb3.block w.heap.size (by have := HzX.out; have := HXs.out; omega)).trans HO1.out)
 have HEY := Lib.hid (HE1.out.below hb3)
 have HB3 := Lib.hid hb3
 rw [← hY]
 clear hY hb3
 rcases read_two ho with ⟨rfl, rfl, t, r, hq, htr⟩ | ⟨z, y, rfl, hout⟩
 ·have HQ := Lib.hid hq
  have HT := Lib.hid (treeAt_below htr HB3.out)
  have HO9 := HOY
  clear ho hq htr
  obtain ⟨p0, p1, p2, p3, p4, p5, p6, p7, p8⟩ := nine_of_heap HY9.out
  obtain ⟨c0, c1, c2, c3, c4, c5, c6, c7, c8⟩ := part_cells HO9.out
  obtain ⟨f0, f1, f2, f3, f4, f5, f6, f7, f8⟩ := part_frozen HO9.out
  go_wp2_with fail
  (try simp only [Exit.inBlock, Exit.then])
  have h9 := row_set9 (a0 := .int .i64 k0) (a1 := .int .i64 a1) (a2 := .int .i64 a2) (a3 := .int .i64 a3) (a4 := .int .i64 a4) (a5 := .slice ka kn kc) (a6 := .slice ca cn cc) (a7 := .int .i64 a7) (a8 := .int .i64 a8) HO9.out
  obtain ⟨g0, g1, g2, g3, g4, g5, g6, g7, g8⟩ := part_cells (k := k0) (a := a1) (b := a2) (c := a3) (d := a4) (ks := .slice ka kn kc) (cs := .slice ca cn cc) (e := a7) (f := a8) h9
  refine bodyPost_ret (v := .tuple #[.agg #[.int .i64 k0, .int .i64 a1, .int .i64 a2, .int .i64 a3, .int .i64 a4, .slice ka kn kc, .slice ca cn cc, .int .i64 a7, .int .i64 a8], .int .i64 0]) (by simp [results, Tryz.results9, go_sem, g0, g1, g2, g3, g4, g5, g6, g7, g8]) rfl ?_
  exact ⟨below_set9 HBY.out (Nat.le_refl _), k0, a1, a2, a3, a4, ka, kn, kc, ca, cn, cc, a7, a8, 0, rfl, by rw [HQ.out]; exact .inl ⟨rfl, rfl, treeAt.keep (fun q hq _ => ⟨heap_set9 (by have := HzX.out; omega), by have := HzX.out; omega⟩) _ _ HT.out⟩, fun x hh => by rw [HQ.out] at hh; cases hh⟩
 ·have HOut := Lib.hid hout
  have HN := Lib.hid (numberOf_any (z : Int) y Y HEY.out)
  clear ho hout
  unfold fltV at HN ⊢
  go_wp2_with fail
  with_reducible refine HN.out.mono ?_
  rintro e w5 ⟨rfl, hb5⟩
  have HO9 := Lib.hid ((hb5.block w.heap.size (by have := HzX.out; have := HXs.out; have := HYz.out; omega)).trans HOY.out)
  have HBe := Lib.hid (HBY.out.trans (hb5.mono HBY.out.size))
  clear hb5
  obtain ⟨c0, c1, c2, c3, c4, c5, c6, c7, c8⟩ := part_cells HO9.out
  obtain ⟨f0, f1, f2, f3, f4, f5, f6, f7, f8⟩ := part_frozen HO9.out
  go_wp2_with fail
  (try simp only [Exit.inBlock, Exit.then])
  have h9 := row_set9 (a0 := .int .i64 0) (a1 := .int .i64 0) (a2 := .int .i64 0) (a3 := .int .i64 0) (a4 := .int .i64 0) (a5 := .slice none 0 0) (a6 := .slice none 0 0) (a7 := .int .i64 0) (a8 := .int .i64 0) HO9.out
  obtain ⟨g0, g1, g2, g3, g4, g5, g6, g7, g8⟩ := part_cells (k := 0) (a := 0) (b := 0) (c := 0) (d := 0) (ks := .slice none 0 0) (cs := .slice none 0 0) (e := 0) (f := 0) h9
  refine bodyPost_ret (v := .tuple #[.agg #[.int .i64 0, .int .i64 0, .int .i64 0, .int .i64 0, .int .i64 0, .slice none 0 0, .slice none 0 0, .int .i64 0, .int .i64 0], .int .i64 y]) (by simp [results, Tryz.results9, go_sem, g0, g1, g2, g3, g4, g5, g6, g7, g8]) rfl ?_
  exact ⟨below_set9 HBe.out (Nat.le_refl _), 0, 0, 0, 0, 0, none, 0, 0, none, 0, 0, 0, 0, y, rfl, HOut.out _ _ _, fun x hh => rfl⟩
theorem leafZ_at (S : Nat → Prop) (W : World) (f h t : Nat) : treeAt S W (leafT f h t) (partV 0 (f, h) (h, t) (.slice none 0 0) (.slice none 0 0) (0, 0)) := by
 unfold leafT treeAt
 exact ⟨none, 0, 0, none, 0, 0, [], rfl, ownS_nil _ _ _ _, ownS_nil _ _ _ _, by unfold kidsAt; rfl⟩
theorem recGetT_any (mv v : Value) (l rec : List UInt8) (w : World) (hm : bytesArg w mv l) (hv : bytesArg w v rec) (hbig : rec.length ≤ 500000) (hg : errG w) (hfit : ∀ t r, readP (treeP 33 0) l rec = .ok t r → fitT t l.length) :
  Calls Tryz.prog 9 #[mv, v] w fun e w' => Below w.heap.size w w' ∧ ∃ (k0 a1 a2 a3 a4 : Int) (ka : Option Addr) (kn kc : Nat) (ca : Option Addr) (cn cc : Nat) (a7 a8 : Int),
   e = .returned (.tuple #[.agg #[.int .i64 k0, .int .i64 a1, .int .i64 a2, .int .i64 a3, .int .i64 a4, .slice ka kn kc, .slice ca cn cc, .int .i64 a7, .int .i64 a8], .int .i64 (codeQ (readP (treeP 33 0) l rec) : Nat)]) ∧ treeAt (fun k => w.heap.size ≤ k) w' (treeO (readP (treeP 33 0) l rec)) (.agg #[.int .i64 k0, .int .i64 a1, .int .i64 a2, .int .i64 a3, .int .i64 a4, .slice ka kn kc, .slice ca cn cc, .int .i64 a7, .int .i64 a8]) := by
 cases hq : readP (treeP 33 0) l rec with
 | no x =>
  refine (recGetZ_any 0 mv v l rec w hm hv hbig hg (fun t ht => by rw [hq] at ht; cases ht)).mono ?_
  rintro e w' ⟨hb, k0, a1, a2, a3, a4, ka, kn, kc, ca, cn, cc, a7, a8, code, rfl, ho, hz⟩
  rw [hq] at ho
  obtain rfl : code = (x : Int) := ho
  have hz2 := hz x hq
  rw [hz2]
  exact ⟨hb, 0, 0, 0, 0, 0, none, 0, 0, none, 0, 0, 0, 0, rfl, leafZ_at _ _ 0 0 0⟩
 | ok t r =>
  obtain ⟨g1, g2, g3, g4⟩ := hfit t r hq
  have he := chain_end t _ _ g1 g4
  refine (recGetZ_any 0 mv v l rec w hm hv hbig hg (fun t' ht' S W k0 a1 a2 a3 a4 ka kn kc ca cn cc a7 a8 hu => ?_)).mono ?_
  ·rw [hq] at ht'
   cases ht'
   have hx := treeAt_open hu
   obtain ⟨_, _, _, _, _, _, _, hee, _, _, _⟩ := hx
   simp only [Value.agg.injEq, Array.mk.injEq, List.cons.injEq, Value.int.injEq] at hee
   obtain ⟨-, ⟨-, rfl⟩, -, -, ⟨-, rfl⟩, -⟩ := hee
   rw [← he.1, ← he.2] at hu ⊢
   exact check_yes t l.length g1 g2 g3 g4 k0 a2 a3 a7 a8 ka ca kn kc cn cc W hu
  rintro e w' ⟨hb, k0, a1, a2, a3, a4, ka, kn, kc, ca, cn, cc, a7, a8, code, rfl, ho, hz⟩
  rw [hq] at ho
  rcases ho with ⟨-, h2, h3⟩ | ⟨h1, h2⟩
  ·subst h2
   exact ⟨hb, k0, a1, a2, a3, a4, ka, kn, kc, ca, cn, cc, a7, a8, rfl, h3⟩
  ·exact absurd rfl h1
section
variable {P : Program} {ops : Array Oper} {Q : Exit → Act → World → Prop} {md : Region.Mode} {S : World → Prop}
theorem wpAnyH_takeE {i : Nat} {oi : Oper} {fuel : Nat} {listed : Array Bool} {a : Act} {w : World} (hi : ops[i]? = some oi)
  (hs : Region.noSelect ops = true) (hf : Region.free md ops listed i = true) (hr : (Region.ready md ops listed).contains i = true)
  (hQ : ∀ v c a w, Q (.panic c) (a.put oi.dst v) w → Q (.panic c) a w) (hw : Region.wanted oi (yielded ops a.tmps) = true) (hS : S w)
  (h : ∃ v, (∀ w, S w → (execOp a.eval oi).run P w = .ok (.value v) w) ∧ wpAnyH P md ops Q S fuel (listed.setIfInBounds i true) (a.put oi.dst v) w) : wpAnyH P md ops Q S (fuel + 1) listed a w :=
 let ⟨v, h1, h2⟩ := h
 wpAnyH_take hi hs hf hr (hQ v) (.inl ⟨hw, h1⟩) hS h2
theorem wpAnyH_one {fuel : Nat} {listed : Array Bool} {a : Act} {w : World} {i : Nat} {o : Oper} (hr : Region.ready md ops listed = [i]) (ho : ops[i]? = some o)
  (h : ∀ K' : Act → World → Prop, Shut (∀ a w, S w → wpAnyH P md ops Q S fuel (listed.setIfInBounds i true) a w → K' a w) → if Region.wanted o (yielded ops a.tmps) = true then Oper.wp P o a w K' Q else K' (a.put o.dst undef) w) :
  wpAnyH P md ops Q S (fuel + 1) listed a w :=
 wpAnyH_all hr (by simp) (fun j hj => by
  obtain rfl : j = i := by simpa using hj
  exact wpOp_step ho (fun K' hK => h K' (fun a w hS hW => hK a w ⟨hS, hW⟩)))
end
def bothR (msg rec : List UInt8) (y : Nat) (T : Tr) : Prop := codeQ (readP (treeP 33 0) msg rec) = y ∧ codeQ (readP (treeR 33 0) msg rec) = y ∧ treeO (readP (treeP 33 0) msg rec) = T ∧ treeO (readP (treeR 33 0) msg rec) = T ∧
 countT T ≤ 1000 ∧ bdT 1000 T ∧ (∀ t r, readP (treeP 33 0) msg rec = .ok t r → fitT t msg.length) ∧ (∀ t r, readP (treeR 33 0) msg rec = .ok t r → fitT t msg.length)
theorem leaf_count (f h t : Nat) : countT (leafT f h t) ≤ 1000 := by unfold leafT; simp [countT, countK]
theorem cut_both (l : List UInt8) (hl : l.length ≤ 1000) (k : Nat) (hk : k < (putR l (treeS l)).length) : ∃ (y : Nat) (T : Tr), bothR l ((putR l (treeS l)).take k) y T := by
 have h1 := readP_cut (treeP_local 33 0) l (treeS l) (by omega) (tree_read l (by omega)) k hk
 have h2 := readP_cut (treeR_local 33 0) l (treeS l) (by omega) (treeR_same 33 0 _ _ _ (tree_read l (by omega))) k hk
 refine ⟨cutE ((putR l (treeS l)).take k), leafT 0 0 0, ?_⟩
 unfold bothR
 rw [h1, h2]
 exact ⟨rfl, rfl, rfl, rfl, leaf_count 0 0 0, leaf_bd (Nat.zero_le _) (Nat.zero_le _) (Nat.zero_le _), fun t r h => (by cases h), fun t r h => (by cases h)⟩
mutual
theorem bdT_le {n m : Nat} (h : n ≤ m) : ∀ t, bdT n t → bdT m t
 | .mk k hd bd ks cs e, hh => by
  unfold bdT at hh ⊢
  obtain ⟨⟨h1, h2, h3, h4, h5, h6, h7, h8, h9⟩, h10⟩ := hh
  exact ⟨⟨by omega, by omega, by omega, by omega, by omega, by omega, by omega, fun c hc => by have := h8 c hc; omega, h9⟩, bdK_le h ks h10⟩
theorem bdK_le {n m : Nat} (h : n ≤ m) : ∀ ts, bdK n ts → bdK m ts
 | [], _ => by unfold bdK; trivial
 | t :: r, hh => by
  unfold bdK at hh ⊢
  exact ⟨bdT_le h t hh.1, bdK_le h r hh.2⟩
end
theorem put_both (l ol : List UInt8) (hl : l.length ≤ 1000) : ∃ (y : Nat) (T : Tr), bothR ol (putR l (treeS l)) y T := by
 have h1 := readP_put (T := treeP 33 0) l ol (treeS l) (by omega) (tree_read l (by omega))
 have h2 := readP_put (T := treeR 33 0) l ol (treeS l) (by omega) (treeR_same 33 0 _ _ _ (tree_read l (by omega)))
 unfold bothR
 rw [h1, h2]
 by_cases h : l.length = ol.length ∧ crcN l = crcN ol
 ·rw [if_pos h]
  refine ⟨0, treeS l, rfl, rfl, rfl, rfl, tree_count l, bdT_le hl _ (tree_bd l), fun t r hh => ?_, fun t r hh => ?_⟩
  ·cases hh; rw [← h.1]; exact fit_own l
  ·cases hh; rw [← h.1]; exact fit_own l
 ·rw [if_neg h]
  exact ⟨34, leafT 0 0 0, rfl, rfl, rfl, rfl, leaf_count 0 0 0, leaf_bd (Nat.zero_le _) (Nat.zero_le _) (Nat.zero_le _), fun t r hh => (by cases hh), fun t r hh => (by cases hh)⟩
theorem progGet_any {msg rec : List UInt8} {y : Nat} {T : Tr} (h : bothR msg rec y T) (mv v : Value) (w : World) (hm : bytesArg w mv msg) (hv : bytesArg w v rec) (hbig : rec.length ≤ 500000) (hg : errG w) :
  Calls Tryz.prog 9 #[mv, v] w fun e w' => Below w.heap.size w w' ∧ ∃ (k0 a1 a2 a3 a4 : Int) (ka : Option Addr) (kn kc : Nat) (ca : Option Addr) (cn cc : Nat) (a7 a8 : Int),
   e = .returned (.tuple #[.agg #[.int .i64 k0, .int .i64 a1, .int .i64 a2, .int .i64 a3, .int .i64 a4, .slice ka kn kc, .slice ca cn cc, .int .i64 a7, .int .i64 a8], .int .i64 (y : Int)]) ∧ treeAt (fun k => w.heap.size ≤ k) w' T (.agg #[.int .i64 k0, .int .i64 a1, .int .i64 a2, .int .i64 a3, .int .i64 a4, .slice ka kn kc, .slice ca cn cc, .int .i64 a7, .int .i64 a8]) := by
 obtain ⟨h1, -, h3, -, -, -, h7, -⟩ := h
 have hc := recGetT_any mv v msg rec w hm hv hbig hg h7
 rw [h1, h3] at hc
 exact hc
theorem refGetB_any {msg rec : List UInt8} {y : Nat} {T : Tr} (h : bothR msg rec y T) (B C : ByteArray) (hB : B.data.toList = msg) (hC : C.data.toList = rec) (hm : msg.length ≤ 1000) (hbig : rec.length ≤ 500000) (w : World) :
  Calls Tryz.prog 10 #[.string B, .string C] w fun e w' => Below w.heap.size w w' ∧ ∃ u, e = .returned (.tuple #[u, .int .i64 (y : Int)]) ∧ refAt (fun k => w.heap.size ≤ k) w' T u := by
 subst hB hC
 obtain ⟨-, h2, -, h4, -, -, -, h8⟩ := h
 rw [len_toList] at hm hbig h8
 have hc := ref14Get_any B C w (by omega) hbig h8
 unfold ref14Post at hc
 rw [h2, h4] at hc
 exact hc
theorem kind_of {S : Nat → Prop} {W : World} {t : Tr} {k0 : Int} {u1 u2 u3 u4 u5 u6 u7 u8 : Value} (h : treeAt S W t (.agg #[.int .i64 k0, u1, u2, u3, u4, u5, u6, u7, u8])) : k0 = (t.kind : Int) := by
 obtain ⟨_, _, _, _, _, _, _, he, _, _, _⟩ := treeAt_open h
 simp only [Value.agg.injEq, Array.mk.injEq, List.cons.injEq, Value.int.injEq] at he
 exact he.1.2
theorem block_lt_of_some {w : World} {k : Nat} {o : Obj} (h : w.heap[k]? = some o) : k < w.heap.size := (Array.getElem?_eq_some_iff.1 h).1
set_option maxRecDepth 100000 in
theorem nil_tree : treeS [] = .mk 0 (0, 0) (0, 0) [] [] (0, 0) := by kernel_rfl
theorem putR_head (l : List UInt8) (t : Tr) : ∃ X, putR l t = 76 :: 66 :: 1 :: X := ⟨_, rfl⟩
theorem nil_len : (putR [] (treeS [])).length = 15 := by
 rw [nil_tree]
 unfold putR
 rw [seal_len]
 simp [coreL, frontL, putT_mk, sum4_len, numB_low]
theorem size_put (l : List UInt8) (t : Tr) (hl : l.length < 1099511627776) : ∃ X, sizeQ (putR l t) = .ok l.length X := by
 unfold sizeQ putR
 rw [headP_seal, (core_head l t).1, if_pos rfl, (core_head l t).2]
 exact ⟨_, numP_put hl _⟩
set_option maxRecDepth 100000 in
set_option maxHeartbeats 8000000 in
theorem awake14_any (w : World) (he : env w) (hg : errG w) : Calls Tryz.prog 6 #[] w fun e w' => e = .returned (.bool true) ∧ Below w.heap.size w w' := by
 have hPa := parse13_any (.slice none 0 0) [] w (bytesArg_nil w) (by decide) he
 rw [show (([] : List UInt8).length : Int) = 0 from rfl] at hPa
 have HPa := Lib.hid hPa
 have HG := Lib.hid hg
 have kc := fun (w : World) (C : Array Value) (n c : Nat) => Lib.run_convert_bytes_const (P := Tryz.prog) w 22 5 C n c Tryz.underlying22 Tryz.underlying5
 clear hPa hg he
 go_enter Tryz.func6, Tryz.ntmps6
 go_wp2_with fail
 with_reducible refine HPa.out.mono ?_
 rintro e w1 ⟨kd, h2, b1, e1, e2, ka, kn, kc1, ca, cn, cc, rfl, ht, hb1⟩
 go_upto_region 2 with fail
 obtain ⟨Y, hY⟩ : ∃ Y, Y = w1.alloc (.cells #[.int .i64 kd, .int .i64 0, .int .i64 h2, .int .i64 b1, .int .i64 0, .slice ka kn kc1, .slice ca cn cc, .int .i64 e1, .int .i64 e2] 31) := ⟨_, rfl⟩
 have hbY : Below w1.heap.size w1 Y := by rw [hY]; exact below_new w1 _
 have HY9 : Hid (Y.heap[w1.heap.size]? = some (.cells #[.int .i64 kd, .int .i64 0, .int .i64 h2, .int .i64 b1, .int .i64 0, .slice ka kn kc1, .slice ca cn cc, .int .i64 e1, .int .i64 e2] 31 (0, 0))) := by rw [hY]; exact heap_alloc_new w1 _
 have HYz : Hid (Y.heap.size = w1.heap.size + 1) := by unfold Hid; rw [hY]; simp
 have HBY := Lib.hid (hb1.trans (hbY.mono hb1.size))
 have htY : treeAt (fun k => k < Y.heap.size) Y (treeS []) (.agg #[.int .i64 kd, .int .i64 0, .int .i64 h2, .int .i64 b1, .int .i64 0, .slice ka kn kc1, .slice ca cn cc, .int .i64 e1, .int .i64 e2]) := treeAt.keep (fun q _ hq => ⟨hbY.block q hq, Nat.lt_of_lt_of_le hq hbY.size⟩) _ _ ht
 have HKd := Lib.hid (kind_of ht)
 have HPu := Lib.hid (putOwn_any (.slice none 0 0) [] _ Y (bytesArg_nil Y) (by decide) htY)
 rw [← hY]
 obtain ⟨p0, p1, p2, p3, p4, p5, p6, p7, p8⟩ := nine_of_heap HY9.out
 clear hY hbY hb1 ht htY HPa
 go_wp2_with fail
 with_reducible refine HPu.out.mono ?_
 rintro e w2 ⟨r, rfl, hr, hb2⟩
 have HB2 := Lib.hid (HBY.out.trans (hb2.mono HBY.out.size))
 have HY2 := Lib.hid ((hb2.block w1.heap.size (by have := HYz.out; omega)).trans HY9.out)
 have HZ2 : Hid (w1.heap.size < w2.heap.size) := by unfold Hid; have := HYz.out; have := hb2.size; omega
 have HR := Lib.hid hr
 have HGe := Lib.hid (getOwn_any (.slice none 0 0) r [] [] w2 (bytesArg_nil w2) hr (by decide) (HG.out.below HB2.out) 0 (.inl ⟨rfl, rfl⟩))
 clear hr hb2 p0 p1 p2 p3 p4 p5 p6 p7 p8 HPu
 go_wp2_with fail
 with_reducible refine HGe.out.mono ?_
 rintro e w3 ⟨hb3, k0, a1, a2, a3, a4, kb, km, kz, cb, cm, cz, a7, a8, rfl, hz⟩
 have hk0 := (kind_of (hz trivial)).trans HKd.out.symm
 subst hk0
 go_upto_region 4 with fail
 obtain ⟨Z, hZ⟩ : ∃ Z, Z = w3.alloc (.cells #[.int .i64 k0, .int .i64 a1, .int .i64 a2, .int .i64 a3, .int .i64 a4, .slice kb km kz, .slice cb cm cz, .int .i64 a7, .int .i64 a8] 31) := ⟨_, rfl⟩
 have hbZ : Below w3.heap.size w3 Z := by rw [hZ]; exact below_new w3 _
 have HZ9 : Hid (Z.heap[w3.heap.size]? = some (.cells #[.int .i64 k0, .int .i64 a1, .int .i64 a2, .int .i64 a3, .int .i64 a4, .slice kb km kz, .slice cb cm cz, .int .i64 a7, .int .i64 a8] 31 (0, 0))) := by rw [hZ]; exact heap_alloc_new w3 _
 have HZz : Hid (Z.heap.size = w3.heap.size + 1) := by unfold Hid; rw [hZ]; simp
 have hb23 := hb3.trans (hbZ.mono hb3.size)
 have HBZ := Lib.hid (HB2.out.trans (hb23.mono HB2.out.size))
 have HYZ := Lib.hid ((hb23.block w1.heap.size HZ2.out).trans HY2.out)
 have HRZ := Lib.hid (HR.out.below hb23)
 have HZ3 : Hid (w1.heap.size < w3.heap.size) := Nat.lt_of_lt_of_le HZ2.out hb3.size
 rw [← hZ]
 clear hZ hb3 hz hb23 hbZ HGe HY2 HR HZ2
 obtain ⟨V, hV⟩ : ∃ V, V = Z.alloc (.cells #[.int .u8 120] 5 (1, 2)) := ⟨_, rfl⟩
 have hbV : Below Z.heap.size Z V := by rw [hV]; exact below_new Z _
 have hxV : bytesArg V (.slice (some ⟨Z.heap.size, 0, none⟩) 1 1) [120] := by rw [hV]; exact (sliceAt_new Z 5 (1, 2) #[.int .u8 120] [120] rfl).arg (cap := 1) (by decide) (by unfold maxLen; decide)
 have HGx := Lib.hid (getOwn_any (.slice (some ⟨Z.heap.size, 0, none⟩) 1 1) r [] [120] V hxV (HRZ.out.below hbV) (by decide) (HG.out.below (HBZ.out.trans (hbV.mono HBZ.out.size))) 34 (.inr ⟨by decide, rfl⟩))
 have HbV := Lib.hid hbV
 have HV := Lib.hid hV
 clear hbV hxV hV
 go_upto_region 5 with (first | (rw [← HV.out]; with_reducible refine HGx.out.mono ?_) | fail)
 rintro e w4 ⟨hb4, k0y, a1y, a2y, a3y, a4y, kby, kmy, kzy, cby, cmy, czy, a7y, a8y, rfl, -⟩
 go_upto_region 5 with fail
 obtain ⟨U, hU⟩ : ∃ U, U = w4.alloc (.cells #[.int .i64 k0y, .int .i64 a1y, .int .i64 a2y, .int .i64 a3y, .int .i64 a4y, .slice kby kmy kzy, .slice cby cmy czy, .int .i64 a7y, .int .i64 a8y] 31) := ⟨_, rfl⟩
 have hbU : Below w4.heap.size w4 U := by rw [hU]; exact below_new w4 _
 have hbZU := HbV.out.trans ((hb4.trans (hbU.mono hb4.size)).mono HbV.out.size)
 have HBU := Lib.hid (HBZ.out.trans (hbZU.mono HBZ.out.size))
 have HYU := Lib.hid ((hbZU.block w1.heap.size (by have := HZ3.out; have := HZz.out; omega)).trans HYZ.out)
 have HZU := Lib.hid ((hbZU.block w3.heap.size (by have := HZz.out; omega)).trans HZ9.out)
 have HRU := Lib.hid (HRZ.out.below hbZU)
 obtain ⟨SX, hSX⟩ := size_put [] (treeS []) (by decide)
 have hSz := recSize_any r _ U HRU.out (by rw [nil_len]; decide)
 rw [hSX] at hSz
 have HSz : Hid (Calls Tryz.prog 14 #[r] U fun e w' => Below U.heap.size U w' ∧ e = .returned (.tuple #[.int .i64 0, .bool true])) := hSz
 rw [← hU]
 clear hU hb4 hbU hbZU hSz hSX HGx kc HbV HV HRZ HYZ HBZ HB2 HZ9
 go_wp2_with fail
 with_reducible refine HSz.out.mono ?_
 rintro e w5 ⟨hb5, rfl⟩
 have HB5 := Lib.hid (HBU.out.trans (hb5.mono HBU.out.size))
 have y1 := nine_of_heap ((hb5.block w1.heap.size (block_lt_of_some HYU.out)).trans HYU.out)
 have y2 := nine_of_heap ((hb5.block w3.heap.size (block_lt_of_some HZU.out)).trans HZU.out)
 obtain ⟨q0, -⟩ := y1
 obtain ⟨s0, -⟩ := y2
 have hr5 := HRU.out.below hb5
 obtain ⟨X, hX⟩ := putR_head [] (treeS [])
 obtain ⟨ro, rcap, rfl, r1, r2, r3⟩ := hr5
 rw [nil_len] at r1 ⊢
 rcases r3 with r3 | ⟨b, off, rfl, _, hc⟩
 ·rw [hX] at r3; cases r3
 have hx0 := hc 0 (by rw [nil_len]; decide)
 have hx2 := hc 2 (by rw [nil_len]; decide)
 simp only [hX, List.getElem_cons_zero, List.getElem_cons_succ] at hx0 hx2
 have x0 : w5.cell? ⟨b, off, none⟩ = some (.int .u8 76) := hx0
 have x2 : w5.cell? ⟨b, off + 2, none⟩ = some (.int .u8 1) := hx2
 clear hx0 hx2 hc hX hb5 HSz
 go_wp2_with fail
 go_ret
 exact ⟨rfl, HB5.out⟩
theorem box_new {w : World} {cs : Array Value} {t : TypeId} {l : List UInt8} {u : Value} {S : Nat → Prop} (h : treeAt S w (treeS l) u) :
  treeAt (fun k => k < (w.alloc (.cells cs t)).heap.size) (w.alloc (.cells cs t)) (treeS l) u :=
 treeAt.keep (fun q _ hq => ⟨(below_new w _).block q hq, Nat.lt_of_lt_of_le hq (below_new w _).size⟩) _ _ h
theorem box_keep {W V : World} {T : Tr} {u : Value} (h : treeAt (fun k => k < W.heap.size) W T u) (hb : Below W.heap.size W V) : treeAt (fun k => k < V.heap.size) V T u :=
 treeAt.keep (fun q (hq : q < W.heap.size) _ => ⟨hb.block q hq, Nat.lt_of_lt_of_le hq hb.size⟩) _ _ h
theorem tree_new {w : World} {cs : Array Value} {ty : TypeId} {t : Tr} {u : Value} {S : Nat → Prop} (h : treeAt S w t u) :
  treeAt (fun k => k < (w.alloc (.cells cs ty)).heap.size) (w.alloc (.cells cs ty)) t u :=
 treeAt.keep (fun q _ hq => ⟨(below_new w _).block q hq, Nat.lt_of_lt_of_le hq (below_new w _).size⟩) _ _ h
theorem core_len (l : List UInt8) (t : Tr) : 8 ≤ (coreL l t).length := by
 unfold coreL frontL
 simp only [List.length_append, List.length_cons, sum4_len]
 have h := putT_eq t
 have h1 := numB_pos l.length
 have h2 := numB_pos t.kind
 rw [h]
 simp only [List.length_append]
 omega
theorem wanted_guard {o : Oper} {ops : Array Oper} {tmps : Array Value} {j k : Nat} {b : Bool} (hg : o.guard = some (j, b)) (hd : (ops[j]?).bind (·.dst) = some k) (ht : tmps[k]? = some (.bool b)) : Region.wanted o (yielded ops tmps) = true := by
 unfold Region.wanted yielded
 rw [hg]
 simp [hd, ht]
set_option maxRecDepth 100000 in
set_option maxHeartbeats 16000000 in
theorem recordTorn_any (v : Value) (l : List UInt8) (at0 bu cu : Nat) (ov : Value) (ol : List UInt8) (w : World) (hv : bytesArg w v l) (hov : bytesArg w ov ol) (hat : at0 ≤ 65535) (hbu : bu ≤ 4294967295) (hcu : cu ≤ 65535) (he : env w) (hg : errG w) :
  Calls Tryz.prog 3 #[v, .int .u16 (at0 : Int), .int .u32 (bu : Int), .int .u16 (cu : Int), ov] w fun e w' => e = .returned (.bool true) ∧ Below w.heap.size w w' := by
 obtain ⟨i0, hi, hz0, hz1, hz2⟩ := info_parts Tryz.infoB
 have HAw := Lib.hid (awake14_any w he hg)
 have HE := Lib.hid he
 have HG := Lib.hid hg
 have HV := Lib.hid hv
 have HOv := Lib.hid hov
 obtain ⟨ao, cap, rfl, hc, hm, -⟩ := hv
 obtain ⟨bo, bcap, rfl, -, -, -⟩ := hov
 clear he hg
 by_cases hbig : 1000 < l.length
 ·have hd : (1000 : Int) < (l.length : Int) := by omega
  have hdd : decide ((1000 : Int) < (l.length : Int)) = true := decide_eq_true hd
  have hd2 : decide (1000 < l.length) = true := decide_eq_true hbig
  go_enter Tryz.func3, Tryz.ntmps3
  go_wp2_with fail
  with_reducible refine HAw.out.mono ?_
  rintro e w1 ⟨rfl, hb1⟩
  have HB1 := Lib.hid hb1; clear hb1
  go_wp2_with fail
  go_ret
  exact ⟨rfl, HB1.out⟩
 have hd : ¬ (1000 : Int) < (l.length : Int) := by omega
 have hdd : decide ((1000 : Int) < (l.length : Int)) = false := decide_eq_false hd
 have hd2 : decide (1000 < l.length) = false := decide_eq_false hbig
 by_cases hob : 1000 < ol.length
 ·have hr : (1000 : Int) < (ol.length : Int) := by omega
  have hrd : decide ((1000 : Int) < (ol.length : Int)) = true := decide_eq_true hr
  have hr2 : decide (1000 < ol.length) = true := decide_eq_true hob
  go_enter Tryz.func3, Tryz.ntmps3
  go_wp2_with fail
  with_reducible refine HAw.out.mono ?_
  rintro e w1 ⟨rfl, hb1⟩
  have HB1 := Lib.hid hb1; clear hb1
  go_wp2_with fail
  go_ret
  exact ⟨rfl, HB1.out⟩
 have hr : ¬ (1000 : Int) < (ol.length : Int) := by omega
 have hrd : decide ((1000 : Int) < (ol.length : Int)) = false := decide_eq_false hr
 have hr2 : decide (1000 < ol.length) = false := decide_eq_false hob
 have hlb : l.length ≤ 100000 := by omega
 have HLb := Lib.hid hlb
 have hlk : l.length ≤ 1000 := by omega
 have HLk := Lib.hid hlk
 have holk : ol.length ≤ 1000 := by omega
 have HOk := Lib.hid holk
 have HPa := Lib.hid (fun W (hb : Below w.heap.size w W) => parse13_any (.slice ao l.length cap) l W (HV.out.below hb) HLb.out (HE.out.below hb))
 clear hlb hlk holk
 go_enter Tryz.func3, Tryz.ntmps3
 go_wp2_with fail
 with_reducible refine HAw.out.mono ?_
 rintro e w1 ⟨rfl, hb1⟩
 have HB1 := Lib.hid hb1
 clear hb1 HAw
 go_wp2_with fail
 with_reducible refine (HPa.out _ HB1.out).mono ?_
 rintro e w3 ⟨kd, h2, b1, e1, e2, ka, kn, kc, ca, cn, cc, rfl, ht, hb3⟩
 clear HPa
 go_upto_region 7 with fail
 obtain ⟨Y, hY⟩ : ∃ Y, Y = w3.alloc (.cells #[.int .i64 kd, .int .i64 0, .int .i64 h2, .int .i64 b1, .int .i64 (l.length : Int), .slice ka kn kc, .slice ca cn cc, .int .i64 e1, .int .i64 e2] 31) := ⟨_, rfl⟩
 have hbY : Below w3.heap.size w3 Y := by rw [hY]; exact below_new w3 _
 have HY9 : Hid (Y.heap[w3.heap.size]? = some (.cells #[.int .i64 kd, .int .i64 0, .int .i64 h2, .int .i64 b1, .int .i64 (l.length : Int), .slice ka kn kc, .slice ca cn cc, .int .i64 e1, .int .i64 e2] 31 (0, 0))) := by rw [hY]; exact heap_alloc_new w3 _
 have HTY : Hid (treeAt (fun k => k < Y.heap.size) Y (treeS l) (.agg #[.int .i64 kd, .int .i64 0, .int .i64 h2, .int .i64 b1, .int .i64 (l.length : Int), .slice ka kn kc, .slice ca cn cc, .int .i64 e1, .int .i64 e2])) := by rw [hY]; exact box_new ht
 have hrY := hb3.trans (hbY.mono hb3.size)
 have HBY := Lib.hid (HB1.out.trans (hrY.mono HB1.out.size))
 rw [← hY]
 have HPu := Lib.hid (putOwn_any (.slice ao l.length cap) l _ Y (HV.out.below HBY.out) HLb.out HTY.out)
 obtain ⟨p0, p1, p2, p3, p4, p5, p6, p7, p8⟩ := nine_of_heap HY9.out
 clear hY hbY ht hb3 hrY HB1
 go_wp2_with fail
 with_reducible refine HPu.out.mono ?_
 rintro e w5 ⟨r, rfl, hr5, hb5⟩
 have HB5 := Lib.hid (HBY.out.trans (hb5.mono HBY.out.size))
 obtain ⟨rl, hrl⟩ : ∃ rl, rl = putR l (treeS l) := ⟨_, rfl⟩
 have HRl := Lib.hid hrl
 rw [← hrl] at hr5
 have hn12 : 12 ≤ rl.length := by
  have h1 := core_len l (treeS l)
  rw [hrl]
  unfold putR
  rw [seal_len]
  omega
 have hmx : rl.length ≤ 200000 := by rw [hrl]; exact putR_len l HLb.out
 have HR5 := Lib.hid hr5
 obtain ⟨qo, qcap, rfl, q1, q2, q3⟩ := hr5
 have HQ3 := Lib.hid q3
 have HQ2 := Lib.hid q2
 obtain ⟨n, hn⟩ : ∃ n, n = rl.length := ⟨_, rfl⟩
 have HN := Lib.hid hn
 rw [← hn] at hn12 hmx q1 HR5 ⊢
 have hn8 : ¬ (n : Int) < 8 := by omega
 have hn8d : decide ((n : Int) < 8) = false := decide_eq_false hn8
 have hn8e : decide (n < 8) = false := decide_eq_false (by omega)
 have hn0 : ¬ (n : Int) = 0 := by omega
 have hn0b : ((n : Int) == 0) = false := beq_no hn0
 have hn0c : ¬ n = 0 := by omega
 obtain ⟨K, hK⟩ : ∃ K, K = cu % n := ⟨_, rfl⟩
 have hKl : K < n := by rw [hK]; exact Nat.mod_lt _ (by omega)
 have eK : (cu : Int) % (n : Int) = (K : Int) := by rw [hK]; simp
 have eK2 : (cu : Int).tmod (n : Int) = (K : Int) := by rw [Int.tmod_eq_emod_of_nonneg (by omega)]; exact eK
 have hK1 : K ≤ n := by omega
 have hK2 : K ≤ qcap := by omega
 have hK3 : (K : Int) ≤ (qcap : Int) := by omega
 have hK4 : ¬ (K : Int) < 0 := by omega
 have HArg : Hid (bytesArg w5 (.slice qo K qcap) (rl.take K)) := ⟨qo, qcap, by rw [List.length_take, Nat.min_eq_left (by omega)], by rw [List.length_take]; omega, q2, sliceAt.take q3 K⟩
 have hcb := cut_both l HLk.out K (by rw [← hrl, ← hn]; exact hKl)
 rw [← hrl] at hcb
 obtain ⟨y1, T1, hcb⟩ := hcb
 have HC1 := Lib.hid hcb
 have hpb := put_both l ol HLk.out
 rw [← hrl] at hpb
 obtain ⟨y2, T2, hpb⟩ := hpb
 have HC2 := Lib.hid hpb
 clear hb5 p0 p1 p2 p3 p4 p5 p6 p7 p8 q2 q3 hrl HPu HY9 HTY hn hK hcb hpb
 have HG1 := Lib.hid (progGet_any HC1.out (.slice ao l.length cap) (.slice qo K qcap) w5 (HV.out.below HB5.out) HArg.out (by rw [List.length_take]; have := HN.out; omega) (HG.out.below HB5.out))
 go_upto_region 11 with fail
 clear hn8 hn8d hn8e hn0b eK eK2 hK1 hK2 hK3 hK4
 go_wp2_with fail
 with_reducible refine HG1.out.mono ?_
 rintro e w7 ⟨hb7, g0, g1, g2, g3, g4, ga, gb, gc, gd, ge, gf, g7, g8, rfl, ht7⟩
 clear HG1
 go_upto_region 12 with fail
 obtain ⟨Y1, hY1⟩ : ∃ Y, Y = w7.alloc (.cells #[.int .i64 g0, .int .i64 g1, .int .i64 g2, .int .i64 g3, .int .i64 g4, .slice ga gb gc, .slice gd ge gf, .int .i64 g7, .int .i64 g8] 31) := ⟨_, rfl⟩
 have hbY1 : Below w7.heap.size w7 Y1 := by rw [hY1]; exact below_new w7 _
 have HX1 : Hid (Y1.heap[w7.heap.size]? = some (.cells #[.int .i64 g0, .int .i64 g1, .int .i64 g2, .int .i64 g3, .int .i64 g4, .slice ga gb gc, .slice gd ge gf, .int .i64 g7, .int .i64 g8] 31 (0, 0))) := by rw [hY1]; exact heap_alloc_new w7 _
 have HT1 : Hid (treeAt (fun k => k < Y1.heap.size) Y1 T1 (.agg #[.int .i64 g0, .int .i64 g1, .int .i64 g2, .int .i64 g3, .int .i64 g4, .slice ga gb gc, .slice gd ge gf, .int .i64 g7, .int .i64 g8])) := by rw [hY1]; exact tree_new ht7
 have h57 : Below w5.heap.size w5 Y1 := hb7.trans (hbY1.mono hb7.size)
 have HBY1 := Lib.hid (HB5.out.trans (h57.mono HB5.out.size))
 have HR1 := Lib.hid (HR5.out.below h57)
 have HA1 := Lib.hid (HArg.out.below h57)
 obtain ⟨X1, hX1⟩ : ∃ b, b = w7.heap.size := ⟨_, rfl⟩
 rw [← hY1, ← hX1]
 rw [← hX1] at HX1
 have k1 := bytesArg_string (HV.out.below HBY1.out)
 have k2 := bytesArg_string HA1.out
 obtain ⟨SB, hSB⟩ : ∃ S : ByteArray, S = ⟨l.toArray⟩ := ⟨_, rfl⟩
 obtain ⟨SC, hSC⟩ : ∃ S : ByteArray, S = ⟨(rl.take K).toArray⟩ := ⟨_, rfl⟩
 rw [← hSB] at k1
 rw [← hSC] at k2
 have HF1 := Lib.hid (refGetB_any HC1.out SB SC (by rw [hSB]) (by rw [hSC]) HLk.out (by rw [List.length_take]; have := HN.out; omega) Y1)
 clear hY1 hbY1 ht7 hb7 h57 hX1 hSB hSC HArg HR5
 go_wp2_with fail
 with_reducible refine HF1.out.mono ?_
 rintro e w9 ⟨hb9, u9, rfl, hu9⟩
 obtain ⟨xa, xb, xc, xd, xe, xf, rfl⟩ := refAt_agg hu9
 clear HF1 k1 k2
 go_upto_region 13 with fail
 obtain ⟨Y2, hY2⟩ : ∃ Y, Y = w9.alloc (.cells #[.int .i64 (T1.kind : Int), .int .i64 (T1.hd.1 : Int), .int .i64 (T1.hd.2 : Int), .int .i64 (T1.bd.1 : Int), .int .i64 (T1.bd.2 : Int), .slice xa xb xc, .slice xd xe xf, .int .i64 (T1.e.1 : Int), .int .i64 (T1.e.2 : Int)] 40) := ⟨_, rfl⟩
 have hbY2 : Below w9.heap.size w9 Y2 := by rw [hY2]; exact below_new w9 _
 have HX2 : Hid (Y2.heap[w9.heap.size]? = some (.cells #[.int .i64 (T1.kind : Int), .int .i64 (T1.hd.1 : Int), .int .i64 (T1.hd.2 : Int), .int .i64 (T1.bd.1 : Int), .int .i64 (T1.bd.2 : Int), .slice xa xb xc, .slice xd xe xf, .int .i64 (T1.e.1 : Int), .int .i64 (T1.e.2 : Int)] 40 (0, 0))) := by rw [hY2]; exact heap_alloc_new w9 _
 have h12 : Below Y1.heap.size Y1 Y2 := hb9.trans (hbY2.mono hb9.size)
 have HU2 : Hid (refAt (fun k => Y1.heap.size ≤ k) Y2 T1 (.agg #[.int .i64 (T1.kind : Int), .int .i64 (T1.hd.1 : Int), .int .i64 (T1.hd.2 : Int), .int .i64 (T1.bd.1 : Int), .int .i64 (T1.bd.2 : Int), .slice xa xb xc, .slice xd xe xf, .int .i64 (T1.e.1 : Int), .int .i64 (T1.e.2 : Int)])) := refAt_below hu9 hbY2
 have HBY2 := Lib.hid (HBY1.out.trans (h12.mono HBY1.out.size))
 have HX1b := Lib.hid ((h12.block _ (blk_lt HX1.out)).trans HX1.out)
 have HT1b := Lib.hid (box_keep HT1.out h12)
 have HR2 := Lib.hid (HR1.out.below h12)
 obtain ⟨X2, hX2⟩ : ∃ b, b = w9.heap.size := ⟨_, rfl⟩
 rw [← hY2, ← hX2]
 rw [← hX2] at HX2
 have HG3 := Lib.hid (progGet_any HC2.out (.slice bo ol.length bcap) (.slice qo n qcap) Y2 (HOv.out.below HBY2.out) HR2.out (by have := HN.out; omega) (HG.out.below HBY2.out))
 clear hY2 hbY2 hu9 hb9 h12 hX2 HX1 HT1 HR1 HA1
 go_wp2_with fail
 with_reducible refine HG3.out.mono ?_
 rintro e w11 ⟨hb11, f0, f1, f2, f3, f4, fa, fb, fc, fd, fe, ff, f7, f8, rfl, ht11⟩
 clear HG3
 go_upto_region 14 with fail
 obtain ⟨Y3, hY3⟩ : ∃ Y, Y = w11.alloc (.cells #[.int .i64 f0, .int .i64 f1, .int .i64 f2, .int .i64 f3, .int .i64 f4, .slice fa fb fc, .slice fd fe ff, .int .i64 f7, .int .i64 f8] 31) := ⟨_, rfl⟩
 have hbY3 : Below w11.heap.size w11 Y3 := by rw [hY3]; exact below_new w11 _
 have HX3 : Hid (Y3.heap[w11.heap.size]? = some (.cells #[.int .i64 f0, .int .i64 f1, .int .i64 f2, .int .i64 f3, .int .i64 f4, .slice fa fb fc, .slice fd fe ff, .int .i64 f7, .int .i64 f8] 31 (0, 0))) := by rw [hY3]; exact heap_alloc_new w11 _
 have HT3 : Hid (treeAt (fun k => k < Y3.heap.size) Y3 T2 (.agg #[.int .i64 f0, .int .i64 f1, .int .i64 f2, .int .i64 f3, .int .i64 f4, .slice fa fb fc, .slice fd fe ff, .int .i64 f7, .int .i64 f8])) := by rw [hY3]; exact tree_new ht11
 have h23 : Below Y2.heap.size Y2 Y3 := hb11.trans (hbY3.mono hb11.size)
 have HBY3 := Lib.hid (HBY2.out.trans (h23.mono HBY2.out.size))
 have HX1c := Lib.hid ((h23.block _ (blk_lt HX1b.out)).trans HX1b.out)
 have HT1c := Lib.hid (box_keep HT1b.out h23)
 have HX2c := Lib.hid ((h23.block _ (blk_lt HX2.out)).trans HX2.out)
 have HU2c := Lib.hid (refAt_below HU2.out h23)
 have HR3 := Lib.hid (HR2.out.below h23)
 obtain ⟨X3, hX3⟩ : ∃ b, b = w11.heap.size := ⟨_, rfl⟩
 rw [← hY3, ← hX3]
 rw [← hX3] at HX3
 have k1 := bytesArg_string (HOv.out.below HBY3.out)
 have k2 := bytesArg_string HR3.out
 obtain ⟨SO, hSO⟩ : ∃ S : ByteArray, S = ⟨ol.toArray⟩ := ⟨_, rfl⟩
 obtain ⟨SR, hSR⟩ : ∃ S : ByteArray, S = ⟨rl.toArray⟩ := ⟨_, rfl⟩
 rw [← hSO] at k1
 rw [← hSR] at k2
 have HF3 := Lib.hid (refGetB_any HC2.out SO SR (by rw [hSO]) (by rw [hSR]) HOk.out (by have := HN.out; omega) Y3)
 clear hY3 hbY3 ht11 hb11 h23 hX3 hSO hSR HX1b HT1b HX2 HU2 HR2
 go_wp2_with fail
 with_reducible refine HF3.out.mono ?_
 rintro e w13 ⟨hb13, u13, rfl, hu13⟩
 obtain ⟨za, zb, zc, zd, ze, zf, rfl⟩ := refAt_agg hu13
 clear HF3 k1 k2
 go_upto_region 15 with fail
 obtain ⟨Y4, hY4⟩ : ∃ Y, Y = w13.alloc (.cells #[.int .i64 (T2.kind : Int), .int .i64 (T2.hd.1 : Int), .int .i64 (T2.hd.2 : Int), .int .i64 (T2.bd.1 : Int), .int .i64 (T2.bd.2 : Int), .slice za zb zc, .slice zd ze zf, .int .i64 (T2.e.1 : Int), .int .i64 (T2.e.2 : Int)] 40) := ⟨_, rfl⟩
 have hbY4 : Below w13.heap.size w13 Y4 := by rw [hY4]; exact below_new w13 _
 have HX4 : Hid (Y4.heap[w13.heap.size]? = some (.cells #[.int .i64 (T2.kind : Int), .int .i64 (T2.hd.1 : Int), .int .i64 (T2.hd.2 : Int), .int .i64 (T2.bd.1 : Int), .int .i64 (T2.bd.2 : Int), .slice za zb zc, .slice zd ze zf, .int .i64 (T2.e.1 : Int), .int .i64 (T2.e.2 : Int)] 40 (0, 0))) := by rw [hY4]; exact heap_alloc_new w13 _
 have h34 : Below Y3.heap.size Y3 Y4 := hb13.trans (hbY4.mono hb13.size)
 have HU4 : Hid (refAt (fun k => Y3.heap.size ≤ k) Y4 T2 (.agg #[.int .i64 (T2.kind : Int), .int .i64 (T2.hd.1 : Int), .int .i64 (T2.hd.2 : Int), .int .i64 (T2.bd.1 : Int), .int .i64 (T2.bd.2 : Int), .slice za zb zc, .slice zd ze zf, .int .i64 (T2.e.1 : Int), .int .i64 (T2.e.2 : Int)])) := refAt_below hu13 hbY4
 have HBY4 := Lib.hid (HBY3.out.trans (h34.mono HBY3.out.size))
 have HX1d := Lib.hid ((h34.block _ (blk_lt HX1c.out)).trans HX1c.out)
 have HT1d := Lib.hid (box_keep HT1c.out h34)
 have HX2d := Lib.hid ((h34.block _ (blk_lt HX2c.out)).trans HX2c.out)
 have HU2d := Lib.hid (refAt_below HU2c.out h34)
 have HX3d := Lib.hid ((h34.block _ (blk_lt HX3.out)).trans HX3.out)
 have HT3d := Lib.hid (box_keep HT3.out h34)
 have HR4 := Lib.hid (HR3.out.below h34)
 obtain ⟨X4, hX4⟩ : ∃ b, b = w13.heap.size := ⟨_, rfl⟩
 rw [← hY4, ← hX4]
 rw [← hX4] at HX4
 clear hY4 hbY4 hu13 hb13 h34 hX4 HX1c HT1c HX2c HU2c HX3 HT3 HR3
 have HOf1 : Hid (∀ W, Below Y4.heap.size Y4 W → Calls Tryz.prog 12 #[.agg #[.int .i64 g0, .int .i64 g1, .int .i64 g2, .int .i64 g3, .int .i64 g4, .slice ga gb gc, .slice gd ge gf, .int .i64 g7, .int .i64 g8]] W (ofPost Y4.heap.size T1 W)) := fun W hb => treeOf_any Y4.heap.size _ T1 (Nat.le_refl _) (by have := HC1.out.2.2.2.2.1; omega) W _ hb.size (treeAt.keep (fun q hq hz => ⟨hb.block q hz, hq⟩) _ _ HT1d.out)
 have HOf2 : Hid (∀ W, Below Y4.heap.size Y4 W → Calls Tryz.prog 12 #[.agg #[.int .i64 f0, .int .i64 f1, .int .i64 f2, .int .i64 f3, .int .i64 f4, .slice fa fb fc, .slice fd fe ff, .int .i64 f7, .int .i64 f8]] W (ofPost Y4.heap.size T2 W)) := fun W hb => treeOf_any Y4.heap.size _ T2 (Nat.le_refl _) (by have := HC2.out.2.2.2.2.1; omega) W _ hb.size (treeAt.keep (fun q hq hz => ⟨hb.block q hz, hq⟩) _ _ HT3d.out)
 have hk0 : Below Y4.heap.size Y4 Y4.drew := (Below.refl _ _).drew
 have n1 : ((y1 : Int) != (y1 : Int)) = false := bne_no rfl
 have n2 : ((y2 : Int) != (y2 : Int)) = false := bne_no rfl
 unfold ofPost at HOf1 HOf2
 refine wp_region_held_drew (S := fun W => Below Y4.heap.size Y4 W) (by kernel_rfl) hk0 (fun hS0 => ?_)
 refine wpAnyH_takeE (i := 0) (oi := { dst := some 98, op := Go.Op.move (Go.Operand.tmp 18), type := 32, pos := "law.go:112", after := #[], guard := none }) rfl (by kernel_rfl) (by kernel_rfl) (by kernel_rfl) (fun _ _ _ _ h => h) rfl hk0 ?_
 apply Exists.intro
 refine ⟨fun w hSw => ?_, ?_⟩
 ·clear hSw
  go_simp
  try rfl
 try simp only [Act.put]
 try simp only [List.setIfInBounds_toArray]
 try simp only [List.set_cons_succ]
 try simp only [List.set_cons_zero]
 refine wpAnyH_takeE (i := 1) (oi := { dst := some 99, op := Go.Op.move (Go.Operand.tmp 20), type := 32, pos := "law.go:112", after := #[], guard := none }) rfl (by kernel_rfl) (by kernel_rfl) (by kernel_rfl) (fun _ _ _ _ h => h) rfl hk0 ?_
 apply Exists.intro
 refine ⟨fun w hSw => ?_, ?_⟩
 ·clear hSw
  go_simp
  try rfl
 try simp only [Act.put]
 try simp only [List.setIfInBounds_toArray]
 try simp only [List.set_cons_succ]
 try simp only [List.set_cons_zero]
 refine wpAnyH_takeE (i := 2) (oi := { dst := some 100, op := Go.Op.binOp Go.BinOp.neq 32 (Go.Operand.tmp 98) (Go.Operand.tmp 99) 32, type := 4, pos := "law.go:112", after := #[{ on := 0, ground := Go.Ground.data }, { on := 1, ground := Go.Ground.data }], guard := none }) rfl (by kernel_rfl) (by kernel_rfl) (by kernel_rfl) (fun _ _ _ _ h => h) rfl hk0 ?_
 apply Exists.intro
 refine ⟨fun w hSw => ?_, ?_⟩
 ·clear hSw
  go_simp
  try rfl
 try simp only [Act.put]
 try simp only [List.setIfInBounds_toArray]
 try simp only [List.set_cons_succ]
 try simp only [List.set_cons_zero]
 refine wpAnyH_takeE (i := 3) (oi := { dst := some 101, op := Go.Op.move (Go.Operand.tmp 100), type := 4, pos := "law.go:112", after := #[{ on := 2, ground := Go.Ground.data }], guard := none }) rfl (by kernel_rfl) (by kernel_rfl) (by kernel_rfl) (fun _ _ _ _ h => h) rfl hk0 ?_
 apply Exists.intro
 refine ⟨fun w hSw => ?_, ?_⟩
 ·clear hSw
  go_simp
  try rfl
 try simp only [Act.put]
 try simp only [List.setIfInBounds_toArray]
 try simp only [List.set_cons_succ]
 try simp only [List.set_cons_zero]
 refine wpAnyH_takeE (i := 4) (oi := { dst := some 102, op := Go.Op.move (Go.Operand.tmp 22), type := 32, pos := "law.go:112", after := #[{ on := 3, ground := Go.Ground.guard }], guard := some (3, false) }) rfl (by kernel_rfl) (by kernel_rfl) (by kernel_rfl) (fun _ _ _ _ h => h) (wanted_guard (j := 3) (k := 101) (b := false) rfl rfl (by simp only [List.getElem?_toArray, List.getElem?_cons_succ, List.getElem?_cons_zero])) hk0 ?_
 apply Exists.intro
 refine ⟨fun w hSw => ?_, ?_⟩
 ·clear hSw
  go_simp
  try rfl
 try simp only [Act.put]
 try simp only [List.setIfInBounds_toArray]
 try simp only [List.set_cons_succ]
 try simp only [List.set_cons_zero]
 refine wpAnyH_takeE (i := 5) (oi := { dst := some 103, op := Go.Op.move (Go.Operand.tmp 24), type := 32, pos := "law.go:112", after := #[{ on := 3, ground := Go.Ground.guard }], guard := some (3, false) }) rfl (by kernel_rfl) (by kernel_rfl) (by kernel_rfl) (fun _ _ _ _ h => h) (wanted_guard (j := 3) (k := 101) (b := false) rfl rfl (by simp only [List.getElem?_toArray, List.getElem?_cons_succ, List.getElem?_cons_zero])) hk0 ?_
 apply Exists.intro
 refine ⟨fun w hSw => ?_, ?_⟩
 ·clear hSw
  go_simp
  try rfl
 try simp only [Act.put]
 try simp only [List.setIfInBounds_toArray]
 try simp only [List.set_cons_succ]
 try simp only [List.set_cons_zero]
 refine wpAnyH_takeE (i := 6) (oi := { dst := some 104, op := Go.Op.binOp Go.BinOp.neq 32 (Go.Operand.tmp 102) (Go.Operand.tmp 103) 32, type := 4, pos := "law.go:112", after := #[{ on := 4, ground := Go.Ground.data }, { on := 5, ground := Go.Ground.data }, { on := 3, ground := Go.Ground.guard }], guard := some (3, false) }) rfl (by kernel_rfl) (by kernel_rfl) (by kernel_rfl) (fun _ _ _ _ h => h) (wanted_guard (j := 3) (k := 101) (b := false) rfl rfl (by simp only [List.getElem?_toArray, List.getElem?_cons_succ, List.getElem?_cons_zero])) hk0 ?_
 apply Exists.intro
 refine ⟨fun w hSw => ?_, ?_⟩
 ·clear hSw
  go_simp
  try rfl
 try simp only [Act.put]
 try simp only [List.setIfInBounds_toArray]
 try simp only [List.set_cons_succ]
 try simp only [List.set_cons_zero]
 refine wpAnyH_takeE (i := 7) (oi := { dst := some 105, op := Go.Op.pick (Go.Operand.tmp 101) (Go.Operand.const (Go.Value.bool true)) (Go.Operand.tmp 104), type := 4, pos := "law.go:112", after := #[{ on := 3, ground := Go.Ground.data }, { on := 6, ground := Go.Ground.data }], guard := none }) rfl (by kernel_rfl) (by kernel_rfl) (by kernel_rfl) (fun _ _ _ _ h => h) rfl hk0 ?_
 apply Exists.intro
 refine ⟨fun w hSw => ?_, ?_⟩
 ·clear hSw
  go_simp
  try rfl
 try simp only [Act.put]
 try simp only [List.setIfInBounds_toArray]
 try simp only [List.set_cons_succ]
 try simp only [List.set_cons_zero]
 refine wpAnyH_takeE (i := 8) (oi := { dst := some 106, op := Go.Op.move (Go.Operand.tmp 105), type := 4, pos := "law.go:112", after := #[{ on := 7, ground := Go.Ground.data }, { on := 3, ground := Go.Ground.chain }], guard := none }) rfl (by kernel_rfl) (by kernel_rfl) (by kernel_rfl) (fun _ _ _ _ h => h) rfl hk0 ?_
 apply Exists.intro
 refine ⟨fun w hSw => ?_, ?_⟩
 ·clear hSw
  go_simp
  try rfl
 try simp only [Act.put]
 try simp only [List.setIfInBounds_toArray]
 try simp only [List.set_cons_succ]
 try simp only [List.set_cons_zero]
 refine wpAnyH_takeE (i := 9) (oi := { dst := some 107, op := Go.Op.load 31 (Go.Operand.tmp 17), type := 31, pos := "law.go:112", after := #[{ on := 8, ground := Go.Ground.guard }], guard := some (8, false) }) rfl (by kernel_rfl) (by kernel_rfl) (by kernel_rfl) (fun _ _ _ _ h => h) (wanted_guard (j := 8) (k := 106) (b := false) rfl rfl (by simp only [List.getElem?_toArray, List.getElem?_cons_succ, List.getElem?_cons_zero])) hk0 ?_
 apply Exists.intro
 refine ⟨fun w hSw => ?_, ?_⟩
 ·obtain ⟨_, _, _, _, _, _, _, _, _⟩ := nine_cells ((hSw.block _ (blk_lt HX1d.out)).trans HX1d.out)
  clear hSw
  go_simp
  try rfl
 try simp only [Act.put]
 try simp only [List.setIfInBounds_toArray]
 try simp only [List.set_cons_succ]
 try simp only [List.set_cons_zero]
 refine wpAnyH_takeE (i := 11) (oi := { dst := some 109, op := Go.Op.load 40 (Go.Operand.tmp 19), type := 40, pos := "law.go:112", after := #[{ on := 8, ground := Go.Ground.guard }], guard := some (8, false) }) rfl (by kernel_rfl) (by kernel_rfl) (by kernel_rfl) (fun _ _ _ _ h => h) (wanted_guard (j := 8) (k := 106) (b := false) rfl rfl (by simp only [List.getElem?_toArray, List.getElem?_cons_succ, List.getElem?_cons_zero])) hk0 ?_
 apply Exists.intro
 refine ⟨fun w hSw => ?_, ?_⟩
 ·obtain ⟨_, _, _, _, _, _, _, _, _⟩ := nine_cells ((hSw.block _ (blk_lt HX2d.out)).trans HX2d.out)
  clear hSw
  go_simp
  try rfl
 try simp only [Act.put]
 try simp only [List.setIfInBounds_toArray]
 try simp only [List.set_cons_succ]
 try simp only [List.set_cons_zero]
 refine wpAnyH_one (i := 10) (o := { dst := some 108, op := Go.Op.call { callee := Go.Callee.value (Go.Operand.func 12), args := #[Go.Operand.tmp 107], argTypes := #[31] }, type := 40, pos := "law.go:112", after := #[{ on := 9, ground := Go.Ground.data }, { on := 8, ground := Go.Ground.chain }, { on := 8, ground := Go.Ground.guard }], guard := some (8, false) }) (by kernel_rfl) rfl (fun K hK => ?_)
 go_simp
 go_at_call 12
 with_reducible refine (HOf1.out _ hk0).mono ?_
 rintro e v1 ⟨uv1, rfl, htv1, hbv1⟩
 have hk1 := hk0.trans (hbv1.mono hk0.size)
 obtain ⟨ra, rb, rc, rd, re, rf, rfl⟩ := refAt_agg htv1
 dsimp only
 refine hK.out _ _ hk1 ?_
 clear hK K
 have HSm := Lib.hid (sameTree_any _ _ 1000 (by decide) _ T1 (Nat.le_refl _) (by have := HC1.out.2.2.2.2.1; omega) HC1.out.2.2.2.2.2.1 v1 _ _ htv1 (refAt_below HU2d.out hk1))
 refine wpAnyH_one (i := 12) (o := { dst := some 110, op := Go.Op.call { callee := Go.Callee.value (Go.Operand.func 11), args := #[Go.Operand.tmp 108, Go.Operand.tmp 109], argTypes := #[40, 40] }, type := 4, pos := "law.go:112", after := #[{ on := 10, ground := Go.Ground.data }, { on := 11, ground := Go.Ground.data }, { on := 10, ground := Go.Ground.chain }, { on := 8, ground := Go.Ground.guard }], guard := some (8, false) }) (by kernel_rfl) rfl (fun K hK => ?_)
 go_simp
 go_at_call 11
 with_reducible refine (HSm.out).mono ?_
 rintro e v2 ⟨rfl, hbv2⟩
 have hk2 := hk1.trans (hbv2.mono hk1.size)
 dsimp only
 refine hK.out _ _ hk2 ?_
 clear hK K HSm
 refine wpAnyH_takeE (i := 13) (oi := { dst := some 111, op := Go.Op.unOp Go.UnOp.not 4 (Go.Operand.tmp 110), type := 4, pos := "law.go:112", after := #[{ on := 12, ground := Go.Ground.data }, { on := 8, ground := Go.Ground.guard }], guard := some (8, false) }) rfl (by kernel_rfl) (by kernel_rfl) (by kernel_rfl) (fun _ _ _ _ h => h) (wanted_guard (j := 8) (k := 106) (b := false) rfl rfl (by simp only [List.getElem?_toArray, List.getElem?_cons_succ, List.getElem?_cons_zero])) hk2 ?_
 apply Exists.intro
 refine ⟨fun w hSw => ?_, ?_⟩
 ·clear hSw
  go_simp
  try rfl
 try simp only [Act.put]
 try simp only [List.setIfInBounds_toArray]
 try simp only [List.set_cons_succ]
 try simp only [List.set_cons_zero]
 refine wpAnyH_takeE (i := 14) (oi := { dst := some 112, op := Go.Op.pick (Go.Operand.tmp 106) (Go.Operand.const (Go.Value.bool true)) (Go.Operand.tmp 111), type := 4, pos := "law.go:112", after := #[{ on := 8, ground := Go.Ground.data }, { on := 13, ground := Go.Ground.data }], guard := none }) rfl (by kernel_rfl) (by kernel_rfl) (by kernel_rfl) (fun _ _ _ _ h => h) rfl hk2 ?_
 apply Exists.intro
 refine ⟨fun w hSw => ?_, ?_⟩
 ·clear hSw
  go_simp
  try rfl
 try simp only [Act.put]
 try simp only [List.setIfInBounds_toArray]
 try simp only [List.set_cons_succ]
 try simp only [List.set_cons_zero]
 refine wpAnyH_takeE (i := 15) (oi := { dst := some 113, op := Go.Op.move (Go.Operand.tmp 112), type := 4, pos := "law.go:112", after := #[{ on := 14, ground := Go.Ground.data }, { on := 12, ground := Go.Ground.chain }], guard := none }) rfl (by kernel_rfl) (by kernel_rfl) (by kernel_rfl) (fun _ _ _ _ h => h) rfl hk2 ?_
 apply Exists.intro
 refine ⟨fun w hSw => ?_, ?_⟩
 ·clear hSw
  go_simp
  try rfl
 try simp only [Act.put]
 try simp only [List.setIfInBounds_toArray]
 try simp only [List.set_cons_succ]
 try simp only [List.set_cons_zero]
 refine wpAnyH_takeE (i := 16) (oi := { dst := some 114, op := Go.Op.load 31 (Go.Operand.tmp 21), type := 31, pos := "law.go:112", after := #[{ on := 15, ground := Go.Ground.guard }], guard := some (15, false) }) rfl (by kernel_rfl) (by kernel_rfl) (by kernel_rfl) (fun _ _ _ _ h => h) (wanted_guard (j := 15) (k := 113) (b := false) rfl rfl (by simp only [List.getElem?_toArray, List.getElem?_cons_succ, List.getElem?_cons_zero])) hk2 ?_
 apply Exists.intro
 refine ⟨fun w hSw => ?_, ?_⟩
 ·obtain ⟨_, _, _, _, _, _, _, _, _⟩ := nine_cells ((hSw.block _ (blk_lt HX3d.out)).trans HX3d.out)
  clear hSw
  go_simp
  try rfl
 try simp only [Act.put]
 try simp only [List.setIfInBounds_toArray]
 try simp only [List.set_cons_succ]
 try simp only [List.set_cons_zero]
 refine wpAnyH_takeE (i := 18) (oi := { dst := some 116, op := Go.Op.load 40 (Go.Operand.tmp 23), type := 40, pos := "law.go:112", after := #[{ on := 15, ground := Go.Ground.guard }], guard := some (15, false) }) rfl (by kernel_rfl) (by kernel_rfl) (by kernel_rfl) (fun _ _ _ _ h => h) (wanted_guard (j := 15) (k := 113) (b := false) rfl rfl (by simp only [List.getElem?_toArray, List.getElem?_cons_succ, List.getElem?_cons_zero])) hk2 ?_
 apply Exists.intro
 refine ⟨fun w hSw => ?_, ?_⟩
 ·obtain ⟨_, _, _, _, _, _, _, _, _⟩ := nine_cells ((hSw.block _ (blk_lt HX4.out)).trans HX4.out)
  clear hSw
  go_simp
  try rfl
 try simp only [Act.put]
 try simp only [List.setIfInBounds_toArray]
 try simp only [List.set_cons_succ]
 try simp only [List.set_cons_zero]
 refine wpAnyH_one (i := 17) (o := { dst := some 115, op := Go.Op.call { callee := Go.Callee.value (Go.Operand.func 12), args := #[Go.Operand.tmp 114], argTypes := #[31] }, type := 40, pos := "law.go:112", after := #[{ on := 16, ground := Go.Ground.data }, { on := 15, ground := Go.Ground.chain }, { on := 15, ground := Go.Ground.guard }], guard := some (15, false) }) (by kernel_rfl) rfl (fun K hK => ?_)
 go_simp
 go_at_call 12
 with_reducible refine (HOf2.out _ hk2).mono ?_
 rintro e v3 ⟨uv3, rfl, htv3, hbv3⟩
 have hk3 := hk2.trans (hbv3.mono hk2.size)
 obtain ⟨sa, sb, sc, sd, se, sf, rfl⟩ := refAt_agg htv3
 dsimp only
 refine hK.out _ _ hk3 ?_
 clear hK K
 have HSm := Lib.hid (sameTree_any _ _ 1000 (by decide) _ T2 (Nat.le_refl _) (by have := HC2.out.2.2.2.2.1; omega) HC2.out.2.2.2.2.2.1 v3 _ _ htv3 (refAt_below HU4.out hk3))
 refine wpAnyH_one (i := 19) (o := { dst := some 117, op := Go.Op.call { callee := Go.Callee.value (Go.Operand.func 11), args := #[Go.Operand.tmp 115, Go.Operand.tmp 116], argTypes := #[40, 40] }, type := 4, pos := "law.go:112", after := #[{ on := 17, ground := Go.Ground.data }, { on := 18, ground := Go.Ground.data }, { on := 17, ground := Go.Ground.chain }, { on := 15, ground := Go.Ground.guard }], guard := some (15, false) }) (by kernel_rfl) rfl (fun K hK => ?_)
 go_simp
 go_at_call 11
 with_reducible refine (HSm.out).mono ?_
 rintro e v4 ⟨rfl, hbv4⟩
 have hk4 := hk3.trans (hbv4.mono hk3.size)
 dsimp only
 refine hK.out _ _ hk4 ?_
 clear hK K HSm
 refine wpAnyH_takeE (i := 20) (oi := { dst := some 118, op := Go.Op.unOp Go.UnOp.not 4 (Go.Operand.tmp 117), type := 4, pos := "law.go:112", after := #[{ on := 19, ground := Go.Ground.data }, { on := 15, ground := Go.Ground.guard }], guard := some (15, false) }) rfl (by kernel_rfl) (by kernel_rfl) (by kernel_rfl) (fun _ _ _ _ h => h) (wanted_guard (j := 15) (k := 113) (b := false) rfl rfl (by simp only [List.getElem?_toArray, List.getElem?_cons_succ, List.getElem?_cons_zero])) hk4 ?_
 apply Exists.intro
 refine ⟨fun w hSw => ?_, ?_⟩
 ·clear hSw
  go_simp
  try rfl
 try simp only [Act.put]
 try simp only [List.setIfInBounds_toArray]
 try simp only [List.set_cons_succ]
 try simp only [List.set_cons_zero]
 refine wpAnyH_takeE (i := 21) (oi := { dst := some 119, op := Go.Op.pick (Go.Operand.tmp 113) (Go.Operand.const (Go.Value.bool true)) (Go.Operand.tmp 118), type := 4, pos := "law.go:112", after := #[{ on := 15, ground := Go.Ground.data }, { on := 20, ground := Go.Ground.data }], guard := none }) rfl (by kernel_rfl) (by kernel_rfl) (by kernel_rfl) (fun _ _ _ _ h => h) rfl hk4 ?_
 apply Exists.intro
 refine ⟨fun w hSw => ?_, ?_⟩
 ·clear hSw
  go_simp
  try rfl
 try simp only [Act.put]
 try simp only [List.setIfInBounds_toArray]
 try simp only [List.set_cons_succ]
 try simp only [List.set_cons_zero]
 have HK4 := Lib.hid hk4
 clear hk4 hk3 hk2 hk1 hk0 hbv4 hbv3 hbv2 hbv1 htv1 htv3 hS0 n1 n2 HOf1 HOf2 HX1d HX2d HX3d HX4 HT1d HT3d HU2d HU4
 refine wpAnyH_done (by kernel_rfl) ?_ _
 have HBv := Lib.hid (HBY4.out.trans (HK4.out.mono HBY4.out.size))
 have HRv := Lib.hid (HR4.out.below HK4.out)
 clear HK4 HBY4 HR4
 by_cases hb0 : bu = 0
 ·have t0 : ((bu : Int) == 0) = true := beq_yes (by omega)
  go_wp2_with fail
  go_ret
  exact ⟨rfl, HBv.out⟩
 have t0 : ((bu : Int) == 0) = false := beq_no (by omega)
 have hnl := HN.out
 subst hnl
 clear HN
 obtain ⟨D, hD⟩ : ∃ D, D = 8 * rl.length - 31 := ⟨_, rfl⟩
 have eD : 8 * (rl.length : Int) - 31 = (D : Int) := by omega
 obtain ⟨K, hK⟩ : ∃ K, K = at0 % D := ⟨_, rfl⟩
 have hKl : K < D := by rw [hK]; exact Nat.mod_lt _ (by omega)
 have hK32 : K + 32 ≤ 8 * rl.length := by omega
 have eK : (at0 : Int) % (D : Int) = (K : Int) := by rw [hK]; simp
 have hD0 : 0 < D := by omega
 clear hK hD
 obtain ⟨qo2, qcap2, hq, q1, q2, q3⟩ := HRv.out
 obtain ⟨rfl, -, rfl⟩ := Value.slice.inj hq
 clear hq
 have HSA := Lib.hid q3
 clear q3
 go_wp2_with (at_builtin; refine wpList_append_bytes rfl _ _ 22 rfl v4.heap.size 5 i0 Tryz.underlying22 hi hz0 hz1 hz2 _ _ _ rfl (World.ownsRow_nil _ _ _ _) qo qcap rl rfl HSA.out ?c1 ?c2 ?_)
 case c1 => omega
 case c2 => exact Nat.le_refl _
 intro v2' w2 hown2 hgrow2
 have HB12 : Hid (Below v4.heap.size v4 w2) := (Below.refl _ _).grown hgrow2 (Nat.le_refl _) (fun k hk => by cases hk)
 have hown2 := own_cast (n' := rl.length) (ys := rl.map byteV) hown2 (by simp) (by simp)
 obtain ⟨g, cp, rfl, hc2, hm2, hg1, hg2⟩ := ownsRow_slice hown2 (by omega)
 have HO2 := Lib.hid hown2
 have HB2 : Hid (Below w.heap.size w w2) := HBv.out.trans (HB12.out.mono HBv.out.size)
 clear hown2 hgrow2
 unfold maxLen at hm2
 have hgw : w.heap.size ≤ g := Nat.le_trans HBv.out.size hg1
 go_wp2_with fail
 go_loopg [27] 32 (fun q x10 wr => ∃ i : Nat, i ≤ 32 ∧ q = 32 - i ∧ x10 = .int .i64 i ∧ g < wr.heap.size ∧ Hid (wr.ownsRow v4.heap.size 5 1 (.slice (some ⟨g, 0, none⟩) rl.length cp) rl.length ((turnL rl K bu i).map byteV)) ∧ Hid (Below w.heap.size w wr))
 case atStart => exact ⟨0, by omega, by omega, rfl, hg2, HO2.out, HB2.out⟩
 case round =>
  obtain ⟨i, hi32, rfl, rfl, hgr, HO, HB⟩ := hrel
  by_cases hlt : i < 32
  ·have e0 : bits .and .u32 ((bu : Int) / 2 ^ i) 1 = ((bu / 2 ^ i % 2 : Nat) : Int) := by
    have := and_u32 (bu / 2 ^ i) 1 (Nat.lt_of_le_of_lt (Nat.div_le_self _ _) (by omega)) (by omega)
    rw [show (1 : Nat) = 2 ^ 1 - 1 from rfl, Nat.and_two_pow_sub_one_eq_mod, Int.natCast_ediv, Int.natCast_pow] at this
    exact this
   have hbit := testBit_mod bu i
   by_cases hB : bu.testBit i = true
   ·have t1 : (bits .and .u32 ((bu : Int) / 2 ^ i) 1 == 1) = true := by
     rw [hB, eq_comm, decide_eq_true_eq] at hbit
     exact beq_yes (by rw [e0, hbit]; rfl)
    have hP : (K + i) / 8 < rl.length := by omega
    obtain ⟨b0, hb0⟩ : ∃ b, b = (turnL rl K bu i).getD ((K + i) / 8) 0 := ⟨_, rfl⟩
    have hcell : wr.cell? ⟨g, (K + i) / 8, none⟩ = some (.int .u8 (b0.toNat : Int)) := by
     have hPl : (K + i) / 8 < (turnL rl K bu i).length := by rw [turnL_len]; exact hP
     rw [HO.out.cellAt _ (by omega), List.getElem?_map, List.getElem?_eq_getElem hPl, hb0, List.getD_eq_getElem?_getD, List.getElem?_eq_getElem hPl]
     rfl
    have hfr := HO.out.frozenAt ((K + i) / 8)
    have hbt := b0.toNat_lt
    have ex : bits .xor .u8 (b0.toNat : Int) (2 ^ ((K + i) % 8) % 256) = ((xorB b0 (2 ^ ((K + i) % 8))).toNat : Int) := by
     rw [← xorB_bits b0 (pow8_lt _)]
     congr 1
     have := pow8_lt (K + i)
     rw [show ((2 : Int) ^ ((K + i) % 8)) = ((2 ^ ((K + i) % 8) : Nat) : Int) by rw [Int.natCast_pow]; rfl]
     generalize (2 ^ ((K + i) % 8) : Nat) = Z at this ⊢
     omega
    have HEt : Hid (turnL rl K bu (i + 1) = (turnL rl K bu i).set ((K + i) / 8) (xorB b0 (2 ^ ((K + i) % 8)))) := by
     unfold Hid
     rw [turnL, if_pos hB, ← hb0]
    clear e0 hbit hb0 hB
    go_wp2
    go_roundg (32 - (i + 1))
    case measure => omega
    case rel =>
     refine ⟨i + 1, by omega, rfl, by go_num, ?_, ?_, HB.out.setCell hgw _⟩
     ·simpa [World.setCell] using hgr
     ·have := (HO.out.stored ((K + i) / 8) (byteV (xorB b0 (2 ^ ((K + i) % 8))))).1
      rw [← List.map_set, ← HEt.out] at this
      exact this
   ·have t1 : (bits .and .u32 ((bu : Int) / 2 ^ i) 1 == 1) = false := by
     have hB' : bu.testBit i = false := by simpa using hB
     rw [hB', eq_comm, decide_eq_false_iff_not] at hbit
     exact beq_no (by rw [e0]; omega)
    have HEt : Hid (turnL rl K bu (i + 1) = turnL rl K bu i) := by
     unfold Hid
     rw [turnL, if_neg hB]
    clear e0 hbit hB
    go_wp2
    go_roundg (32 - (i + 1))
    case measure => omega
    case rel => exact ⟨i + 1, by omega, rfl, by go_num, hgr, by rw [HEt.out]; exact HO.out, HB.out⟩
  ·obtain rfl : i = 32 := by omega
   have htl : (turnL rl K bu 32).length = rl.length := turnL_len _ _ _ _
   have hto : readP (treeP 33 0) l (turnL rl K bu 32) = .no 15 := by
    have h32 : K + 32 ≤ 8 * (sealL (coreL l (treeS l))).length := by
     have h := hK32
     rw [HRl.out] at h
     exact h
    have h := torn_read (treeP 33 0) l (coreL l (treeS l)) K bu h32 (by omega) (by omega)
    rw [HRl.out]
    exact h
   have ha := bytesArg_owned HO.out
   have hge := recGetT_any (.slice ao l.length cap) _ l (turnL rl K bu 32) wr (HV.out.below HB.out) ha (by omega) (HG.out.below HB.out) (fun t r hh => by rw [hto] at hh; cases hh)
   rw [hto] at hge
   have HGe := Lib.hid hge
   unfold codeQ at HGe
   clear hge ha hto htl
   go_wp2_with fail
   with_reducible refine HGe.out.mono ?_
   rintro e w15 ⟨hb15, j0, j1, j2, j3, j4, ja, jb, jc, jd, je, jf, j7, j8, rfl, -⟩
   have HBe := Lib.hid (HB.out.trans (hb15.mono HB.out.size))
   clear hb15 HGe
   go_wp2_with fail
   go_ret
   exact ⟨rfl, HBe.out.alloc HBe.out.size _⟩
end Go.Proofs.YtedminjnnhlknaaGreatDoor
