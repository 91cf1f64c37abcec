/- Contracts of package tree: boundaryOf, isDigest, isBare, typeOf. -/
import Derived.Test.YtkmgflnmffdhjaaGreatDoorGbTrB
import Derived.Test.YtkmgflnmffdhjaaGreatDoorGbEnE
namespace Go.Proofs.YtkmgflnmffdhjaaGreatDoor
open Go Go.RowKit

/-- A type's value. -/
def valAt (W : World) (v : Value) (k : Val) : Prop :=
  ∃ ao cap, v = .agg #[.string ⟨k.type.toArray⟩, .string ⟨k.sub.toArray⟩, .slice ao k.params.length cap] ∧ prmAt W (.slice ao k.params.length cap) k.params
theorem valAt.below {W W' : World} {v : Value} {k : Val} (h : valAt W v k) (hb : Below W.heap.size W W') : valAt W' v k := by
  obtain ⟨ao, cap, e, h⟩ := h
  exact ⟨ao, cap, e, h.below hb⟩
def boundV : Option (List UInt8) → Value
  | some b => .tuple #[.string ⟨b.toArray⟩, .bool true]
  | none => .tuple #[.string ⟨#[]⟩, .bool false]
set_option maxRecDepth 100000 in
set_option maxHeartbeats 1000000 in
theorem boundaryOf_any (v : Value) (k : Val) (w : World) (hv : valAt w v k) (hs : small1 k.params) :
    Calls Tryz.prog 43 #[v] w fun e w' => e = .returned (boundV (boundS k.params)) ∧ Below w.heap.size w w' := by
  obtain ⟨ao, cap, rfl, hp⟩ := hv
  have HG := Lib.hid (fun W h => get_any ⟨k.type.toArray⟩ ⟨k.sub.toArray⟩ (.slice ao k.params.length cap) k.params ⟨#[98, 111, 117, 110, 100, 97, 114, 121]⟩ W h hs)
  have HP := Lib.hid hp
  obtain ⟨T, hT⟩ : ∃ T : ByteArray, T = ⟨k.type.toArray⟩ := ⟨_, rfl⟩
  obtain ⟨S, hS⟩ : ∃ S : ByteArray, S = ⟨k.sub.toArray⟩ := ⟨_, rfl⟩
  obtain ⟨r, hr⟩ : ∃ r, r = boundS k.params := ⟨_, rfl⟩
  have HB : Hid (r = match getP k.params bdyN with | some b => if bdOK b = true then some b else none | none => none) := hr
  rw [← hr]
  have hbn : (⟨#[98, 111, 117, 110, 100, 97, 114, 121]⟩ : ByteArray).data.toList = bdyN := rfl
  rw [hbn] at HG
  rw [← hT, ← hS] at HG ⊢
  generalize getP k.params bdyN = g at HG HB
  generalize k.params.length = n at HG HP ⊢
  clear hT hS hp hbn hs hr
  go_enter Tryz.func43, Tryz.ntmps43
  go_wp2_with fail
  with_reducible refine (HG.out _ ?h1).mono ?_
  case h1 => exact HP.out.below ((Below.refl _ _).alloc (Nat.le_refl _) _)
  rintro e w1 ⟨rfl, hb1⟩
  have HB1 : Hid (Below w.heap.size w w1) := ((Below.refl _ _).alloc (Nat.le_refl _) _).trans (hb1.mono (by simp))
  clear hb1 HG HP
  cases g with
  | none =>
    unfold getOV
    go_wp2_with fail
    go_ret2
    exact ⟨by rw [HB.out]; rfl, HB1.out⟩
  | some b =>
    obtain ⟨bb, hbb⟩ : ∃ bb : ByteArray, bb = ⟨b.toArray⟩ := ⟨_, rfl⟩
    have hbl : bb.data.toList = b := by rw [hbb]
    have HBZ : Hid (bb.size = b.length) := by unfold Hid; rw [← hbl, len_toList]
    have hov : getOV (some b) = .tuple #[.string bb, .bool true] := by rw [hbb]; rfl
    rw [hov]
    by_cases h0 : b = []
    · have e0 : bb.toList.isEmpty = true := by rw [ByteArray.toList_eq, hbl, h0]; rfl
      have e1 : bb.toList = [] := by rw [ByteArray.toList_eq, hbl, h0]
      have HF : Hid (r = none) := by unfold Hid; rw [HB.out, h0]; rfl
      have e3 : (bb.toList == []) = true := by rw [e1]; rfl
      clear hbb
      go_wp2_with fail
      go_ret2
      exact ⟨by rw [HF.out]; rfl, HB1.out⟩
    · have e1 : ¬ bb.toList = [] := by rw [ByteArray.toList_eq, hbl]; exact h0
      have e3 : (bb.toList == []) = false := by simpa using e1
      have e2 : bb.toList.isEmpty = false := by cases hq : bb.toList with | nil => exact absurd hq e1 | cons _ _ => rfl
      by_cases h7 : bb.size ≤ 70
      · have HF : Hid (r = some b) := by
          unfold Hid
          rw [HB.out]
          show (if bdOK b = true then some b else none) = some b
          rw [if_pos]
          unfold bdOK
          cases b with
          | nil => exact absurd rfl h0
          | cons x r => have := HBZ.out; simp at this ⊢; omega
        have h7' : decide ((70 : Int) < (bb.size : Int)) = false := decide_eq_false (by omega)
        have h7'' : decide (70 < bb.size) = false := decide_eq_false (by omega)
        have HBB := Lib.hid hbb
        clear hbb
        go_wp2_with fail
        go_ret2
        exact ⟨by rw [HF.out]; show _ = Ending.returned (.tuple #[.string ⟨b.toArray⟩, .bool true]); rw [← HBB.out]; rfl, HB1.out⟩
      · have HF : Hid (r = none) := by
          unfold Hid
          rw [HB.out]
          show (if bdOK b = true then some b else none) = none
          rw [if_neg]
          unfold bdOK
          have := HBZ.out
          simp only [Bool.and_eq_true, decide_eq_true_eq]
          omega
        have h7' : decide ((70 : Int) < (bb.size : Int)) = true := decide_eq_true (by omega)
        have h7'' : decide (70 < bb.size) = true := decide_eq_true (by omega)
        clear hbb
        go_wp2_with fail
        go_ret2
        exact ⟨by rw [HF.out]; rfl, HB1.out⟩
set_option maxRecDepth 100000 in
theorem isDigest_word (k : Val) (ao : Option Addr) (n cap : Nat) (w : World) :
    Calls Tryz.prog 25 #[.agg #[.string ⟨k.type.toArray⟩, .string ⟨k.sub.toArray⟩, .slice ao n cap]] w fun e w' => e = .returned (.bool (digS k)) ∧ Below w.heap.size w w' := by
  obtain ⟨T, hT⟩ : ∃ T : ByteArray, T = ⟨k.type.toArray⟩ := ⟨_, rfl⟩
  obtain ⟨S, hS⟩ : ∃ S : ByteArray, S = ⟨k.sub.toArray⟩ := ⟨_, rfl⟩
  have hTl : T.toList = k.type := by rw [ByteArray.toList_eq, hT]
  have hSl : S.toList = k.sub := by rw [ByteArray.toList_eq, hS]
  have HD : Hid (digS k = (k.type == mulN && k.sub == digN)) := rfl
  rw [← hT, ← hS]
  have eT : (T.toList == [109, 117, 108, 116, 105, 112, 97, 114, 116]) = (k.type == mulN) := by rw [hTl]; rfl
  have eS : (S.toList == [100, 105, 103, 101, 115, 116]) = (k.sub == digN) := by rw [hSl]; rfl
  rw [HD.out]
  generalize (k.type == mulN) = p at eT
  generalize (k.sub == digN) = q at eS
  clear hT hS hTl hSl HD
  go_enter Tryz.func25, Tryz.ntmps25
  cases p with
  | false =>
    go_wp2_with fail
    go_ret
    exact ⟨rfl, (Below.refl _ _).alloc (Nat.le_refl _) _⟩
  | true =>
    cases q with
    | false =>
      go_wp2_with fail
      go_ret
      exact ⟨rfl, (Below.refl _ _).alloc (Nat.le_refl _) _⟩
    | true =>
      go_wp2_with fail
      go_ret
      exact ⟨rfl, (Below.refl _ _).alloc (Nat.le_refl _) _⟩
end Go.Proofs.YtkmgflnmffdhjaaGreatDoor

/- Contracts of package tree: isBare, typeOf. -/
namespace Go.Proofs.YtkmgflnmffdhjaaGreatDoor
open Go Go.RowKit

set_option maxRecDepth 100000 in
set_option maxHeartbeats 1000000 in
theorem isBare_any (M : Nat) (v vf : Value) (l : List UInt8) (fs : List Fld) (w : World) (hM : w.cell? ⟨M, 0, none⟩ = some v) (hv : bytesArg w v l) (hbig : l.length ≤ 1000000) (hf : rowF w vf fs) (hs : shortF fs) :
    Calls Tryz.prog 45 #[.pointer (some ⟨M, 0, none⟩), vf] w fun e w' => e = .returned (.bool (bareS l fs)) ∧ Below w.heap.size w w' := by
  have hvl := valueS_short l fs cteN
  have HV := Lib.hid (value_any v vf l fs ⟨#[99, 111, 110, 116, 101, 110, 116, 45, 116, 114, 97, 110, 115, 102, 101, 114, 45, 101, 110, 99, 111, 100, 105, 110, 103]⟩ w hv (by omega) hf hs)
  have hcn : (⟨#[99, 111, 110, 116, 101, 110, 116, 45, 116, 114, 97, 110, 115, 102, 101, 114, 45, 101, 110, 99, 111, 100, 105, 110, 103]⟩ : ByteArray).data.toList = cteN := rfl
  rw [hcn] at HV
  have HB : Hid (bareS l fs = bareB (foldS (valueS l fs cteN))) := rfl
  rw [HB.out]
  obtain ⟨s, hsd⟩ : ∃ s, s = valueS l fs cteN := ⟨_, rfl⟩
  rw [← hsd] at HV hvl ⊢
  have HF : Hid (∀ W, Calls Tryz.prog 64 #[.string ⟨s.toArray⟩] W fun e w' => e = .returned (.string ⟨(foldS s).toArray⟩) ∧ Below W.heap.size W w') := fun W => fold_any ⟨s.toArray⟩ W (by rw [← len_toList]; show s.length ≤ _; omega)
  obtain ⟨q, hq⟩ : ∃ q, q = foldS s := ⟨_, rfl⟩
  rw [← hq] at HF ⊢
  obtain ⟨A, hA⟩ : ∃ A : ByteArray, A = ⟨q.toArray⟩ := ⟨_, rfl⟩
  rw [← hA] at HF
  have hAl : A.toList = q := by rw [ByteArray.toList_eq, hA]
  have hAl0 : (A.toList == []) = q.isEmpty := by rw [hAl]; cases q <;> rfl
  have hAe : A.toList.isEmpty = q.isEmpty := by rw [hAl]
  have hA1 : (A.toList == [55, 98, 105, 116]) = (q == [55, 98, 105, 116]) := by rw [hAl]
  have hA2 : (A.toList == [56, 98, 105, 116]) = (q == [56, 98, 105, 116]) := by rw [hAl]
  have hA3 : (A.toList == [98, 105, 110, 97, 114, 121]) = (q == [98, 105, 110, 97, 114, 121]) := by rw [hAl]
  have HR : Hid (bareB q = (q.isEmpty || (q == [55, 98, 105, 116]) || (q == [56, 98, 105, 116]) || (q == [98, 105, 110, 97, 114, 121]))) := rfl
  rw [HR.out]
  generalize q.isEmpty = b0 at hAl0 hAe ⊢
  generalize (q == [55, 98, 105, 116]) = b1 at hA1 ⊢
  generalize (q == [56, 98, 105, 116]) = b2 at hA2 ⊢
  generalize (q == [98, 105, 110, 97, 114, 121]) = b3 at hA3 ⊢
  clear hcn HB hsd hq hA hAl HR hv hf hs hvl
  go_enter Tryz.func45, Tryz.ntmps45
  go_wp2_with fail
  with_reducible refine HV.out.mono ?_
  rintro e w1 ⟨rfl, hb1⟩
  have HB1 := Lib.hid hb1
  clear hb1 HV
  go_wp2_with fail
  with_reducible refine (HF.out _).mono ?_
  rintro e w2 ⟨rfl, hb2⟩
  have HB2 : Hid (Below w.heap.size w w2) := HB1.out.trans (hb2.mono HB1.out.size)
  clear hb2 HF HB1
  cases b0 with
  | true =>
    go_wp2_with fail
    go_ret
    exact ⟨rfl, HB2.out⟩
  | false =>
    cases b1 with
    | true =>
      go_wp2_with fail
      go_ret
      exact ⟨rfl, HB2.out⟩
    | false =>
      cases b2 with
      | true =>
        go_wp2_with fail
        go_ret
        exact ⟨rfl, HB2.out⟩
      | false =>
        cases b3 with
        | true =>
          go_wp2_with fail
          go_ret
          exact ⟨rfl, HB2.out⟩
        | false =>
          go_wp2_with fail
          go_ret
          exact ⟨rfl, HB2.out⟩
theorem row_set {W : World} {g j : Nat} {u : Value} {cs : Array Value} {t : TypeId} {fr : Nat × Nat} (h : W.heap[g]? = some (.cells cs t fr)) : (W.setCell ⟨g, j, none⟩ u).heap[g]? = some (.cells (cs.setIfInBounds j u) t fr) := by
  simp [World.setCell, Array.getElem?_modify, h]
theorem row_set3 {W : World} {g : Nat} {x y z a b c : Value} {t : TypeId} {fr : Nat × Nat} (h : W.heap[g]? = some (.cells #[x, y, z] t fr)) :
    (((W.setCell ⟨g, 0, none⟩ a).setCell ⟨g, 1, none⟩ b).setCell ⟨g, 2, none⟩ c).heap[g]? = some (.cells #[a, b, c] t fr) := row_set (row_set (row_set h))
theorem size_set (W : World) (p : Addr) (u : Value) : (W.setCell p u).heap.size = W.heap.size := by simp [World.setCell]
theorem valAt_word (W : World) (a b : List UInt8) : valAt W (.agg #[.string ⟨a.toArray⟩, .string ⟨b.toArray⟩, .slice none 0 0]) ⟨a, b, []⟩ :=
  ⟨none, 0, rfl, none, 0, rfl, Nat.le_refl _, Nat.zero_le _, .inl rfl⟩
set_option maxRecDepth 100000 in
set_option maxHeartbeats 1000000 in
theorem typeOf_any (M : Nat) (v vf : Value) (l : List UInt8) (fs : List Fld) (g : Bool) (w : World) (hM : w.cell? ⟨M, 0, none⟩ = some v) (hv : bytesArg w v l) (hbig : l.length ≤ 100000) (hf : rowF w vf fs) (hs : shortF fs) (he : env w) :
    Calls Tryz.prog 22 #[.pointer (some ⟨M, 0, none⟩), vf, .bool g] w fun e w' => (∃ u, e = .returned u ∧ valAt w' u (typeS l fs g)) ∧ Below w.heap.size w w' := by
  have hvl := valueS_short l fs ctyN
  have HA0 : Hid (∀ o, Below w.heap.size w (w.alloc o)) := fun o => (Below.refl _ _).alloc (Nat.le_refl _) _
  have hMl : M < w.heap.size := World.block_lt_of_cell? _ _ hM
  have HV := Lib.hid (fun W (h : Below w.heap.size w W) => value_any v vf l fs ⟨#[99, 111, 110, 116, 101, 110, 116, 45, 116, 121, 112, 101]⟩ W (bytesArg.below hv h) (by omega) (hf.below h) hs)
  have hcn : (⟨#[99, 111, 110, 116, 101, 110, 116, 45, 116, 121, 112, 101]⟩ : ByteArray).data.toList = ctyN := rfl
  rw [hcn] at HV
  have HT : Hid (typeS l fs g = match parseL (valueS l fs ctyN) true with | some v => v | none => if g = true then ⟨msgN, rfcN, []⟩ else ⟨txtN, plnN, []⟩) := rfl
  obtain ⟨k, hk⟩ : ∃ k, k = typeS l fs g := ⟨_, rfl⟩
  rw [← hk] at HT ⊢
  obtain ⟨s, hsd⟩ : ∃ s, s = valueS l fs ctyN := ⟨_, rfl⟩
  rw [← hsd] at HV hvl HT
  have hsz : (⟨s.toArray⟩ : ByteArray).size ≤ 100000 := by rw [← len_toList]; show s.length ≤ _; omega
  have HE := Lib.hid he
  have HPs := Lib.hid (fun W (h2 : env W) => parse_any ⟨s.toArray⟩ true W hsz h2)
  clear hcn hk hsd hv hf hs hvl hsz he
  go_enter Tryz.func22, Tryz.ntmps22
  go_wp2_with fail
  with_reducible refine (HV.out _ (HA0.out _)).mono ?_
  rintro e w1 ⟨rfl, hb1⟩
  have HB1 : Hid (Below w.heap.size w w1) := (HA0.out _).trans (hb1.mono (by simp))
  have e1 : w1.heap[w.heap.size]? = some (.cells #[.string ⟨#[]⟩, .string ⟨#[]⟩, .slice none 0 0] 60 (0, 0)) := (hb1.block _ (by simp)).trans (heap_alloc_new w _)
  have E1 := Lib.hid e1
  have hz1 : w.heap.size < w1.heap.size := by have := hb1.size; simp at this; omega
  clear hb1 HV e1
  go_wp2_with fail
  with_reducible refine (HPs.out _ ?h1).mono ?_
  case h1 => exact HE.out.below HB1.out
  rintro e w2 ⟨pt, psb, u, ps, pb, rfl, hown, hb2, hvc⟩
  obtain ⟨a, n, c, rfl⟩ := own_slice hown
  have HO := Lib.hid hown
  have HB2 : Hid (Below w.heap.size w w2) := HB1.out.trans (hb2.mono HB1.out.size)
  have E2 := Lib.hid ((hb2.block _ hz1).trans E1.out)
  have hz2 : w.heap.size < w2.heap.size := Nat.lt_of_lt_of_le hz1 hb2.size
  have q0 : w2.cell? ⟨w.heap.size, 0, none⟩ = some (.string ⟨#[]⟩) := by simp [World.cell?, E2.out]
  have q1 : w2.cell? ⟨w.heap.size, 1, none⟩ = some (.string ⟨#[]⟩) := by simp [World.cell?, E2.out]
  have q2 : w2.cell? ⟨w.heap.size, 2, none⟩ = some (.slice none 0 0) := by simp [World.cell?, E2.out]
  have r0 : w2.frozen? ⟨w.heap.size, 0, none⟩ = false := by simp [World.frozen?, E2.out]
  have r1 : w2.frozen? ⟨w.heap.size, 1, none⟩ = false := by simp [World.frozen?, E2.out]
  have r2 : w2.frozen? ⟨w.heap.size, 2, none⟩ = false := by simp [World.frozen?, E2.out]
  have HVc := Lib.hid hvc
  clear hown hb2 HPs E1 hvc
  cases hp : parseL s true with
  | some V =>
    have HK : Hid (k = V) := by unfold Hid; rw [HT.out, hp]
    rw [hp] at HVc
    obtain ⟨rfl, rfl, rfl, rfl⟩ := HVc.out
    clear hp HT HVc
    go_wp2_with fail
    (try simp only [Exit.inBlock, Exit.then])
    refine bodyPost_ret (results_cell_row (P := Tryz.prog) Tryz.results22 _ _ w.heap.size 60 #[.string ⟨V.type.toArray⟩, .string ⟨V.sub.toArray⟩, .slice a n c] (0, 0) _ rfl ((Below.heap_alloc _ _ _ (by simp only [size_set]; exact hz2)).trans (row_set3 E2.out)) Tryz.underlying60 rfl (by kernel_rfl)) rfl ?_
    have hBz : Below w.heap.size w ((((w2.setCell ⟨w.heap.size, 0, none⟩ (.string ⟨V.type.toArray⟩)).setCell ⟨w.heap.size, 1, none⟩ (.string ⟨V.sub.toArray⟩)).setCell ⟨w.heap.size, 2, none⟩ (.slice a n c)).alloc (.cells #[.string ⟨V.type.toArray⟩, .string ⟨V.sub.toArray⟩, .slice a n c] 60)) :=
      (((HB2.out.setCell (p := ⟨w.heap.size, 0, none⟩) (Nat.le_refl _) _).setCell (p := ⟨w.heap.size, 1, none⟩) (Nat.le_refl _) _).setCell (p := ⟨w.heap.size, 2, none⟩) (Nat.le_refl _) _).alloc (by simp only [size_set]; omega) _
    refine ⟨⟨_, rfl, ?_⟩, hBz⟩
    rw [HK.out]
    have hw := ((ownsRow_setCell_below (ownsRow_setCell_below (ownsRow_setCell_below HO.out (a := ⟨w.heap.size, 0, none⟩) hz1 (.string ⟨V.type.toArray⟩)) (a := ⟨w.heap.size, 1, none⟩) hz1 (.string ⟨V.sub.toArray⟩)) (a := ⟨w.heap.size, 2, none⟩) hz1 (.slice a n c)).alloc (.cells #[.string ⟨V.type.toArray⟩, .string ⟨V.sub.toArray⟩, .slice a n c] 60))
    have hp := prmAt_owned hw
    obtain ⟨ao, cap, he, _⟩ := hp
    obtain ⟨rfl, rfl, rfl⟩ := Value.slice.inj he
    exact ⟨a, c, rfl, prmAt_owned hw⟩
  | none =>
    rw [hp] at HVc
    obtain ⟨rfl, rfl, rfl, rfl⟩ := HVc.out
    cases g with
    | true =>
      have HK : Hid (k = ⟨msgN, rfcN, []⟩) := by unfold Hid; rw [HT.out, hp]; rfl
      clear hp HT HVc
      go_wp2_with fail
      (try simp only [Exit.inBlock, Exit.then])
      refine bodyPost_ret (results_cell_row (P := Tryz.prog) Tryz.results22 _ _ w.heap.size 60 #[.string ⟨#[109, 101, 115, 115, 97, 103, 101]⟩, .string ⟨#[114, 102, 99, 56, 50, 50]⟩, .slice none 0 0] (0, 0) _ rfl ((Below.heap_alloc _ _ _ (by simp only [size_set]; exact hz2)).trans (row_set3 E2.out)) Tryz.underlying60 rfl (by kernel_rfl)) rfl ?_
      have hBz : Below w.heap.size w ((((w2.setCell ⟨w.heap.size, 0, none⟩ (.string ⟨#[109, 101, 115, 115, 97, 103, 101]⟩)).setCell ⟨w.heap.size, 1, none⟩ (.string ⟨#[114, 102, 99, 56, 50, 50]⟩)).setCell ⟨w.heap.size, 2, none⟩ (.slice none 0 0)).alloc (.cells #[.string ⟨#[]⟩, .string ⟨#[]⟩, .slice a n c] 60)) :=
        (((HB2.out.setCell (p := ⟨w.heap.size, 0, none⟩) (Nat.le_refl _) _).setCell (p := ⟨w.heap.size, 1, none⟩) (Nat.le_refl _) _).setCell (p := ⟨w.heap.size, 2, none⟩) (Nat.le_refl _) _).alloc (by simp only [size_set]; omega) _
      refine ⟨⟨_, rfl, ?_⟩, hBz⟩
      rw [HK.out]
      exact valAt_word _ msgN rfcN
    | false =>
      have HK : Hid (k = ⟨txtN, plnN, []⟩) := by unfold Hid; rw [HT.out, hp]; rfl
      clear hp HT HVc
      go_wp2_with fail
      (try simp only [Exit.inBlock, Exit.then])
      refine bodyPost_ret (results_cell_row (P := Tryz.prog) Tryz.results22 _ _ w.heap.size 60 #[.string ⟨#[116, 101, 120, 116]⟩, .string ⟨#[112, 108, 97, 105, 110]⟩, .slice none 0 0] (0, 0) _ rfl ((Below.heap_alloc _ _ _ (by simp only [size_set]; exact hz2)).trans (row_set3 E2.out)) Tryz.underlying60 rfl (by kernel_rfl)) rfl ?_
      have hBz : Below w.heap.size w ((((w2.setCell ⟨w.heap.size, 0, none⟩ (.string ⟨#[116, 101, 120, 116]⟩)).setCell ⟨w.heap.size, 1, none⟩ (.string ⟨#[112, 108, 97, 105, 110]⟩)).setCell ⟨w.heap.size, 2, none⟩ (.slice none 0 0)).alloc (.cells #[.string ⟨#[]⟩, .string ⟨#[]⟩, .slice a n c] 60)) :=
        (((HB2.out.setCell (p := ⟨w.heap.size, 0, none⟩) (Nat.le_refl _) _).setCell (p := ⟨w.heap.size, 1, none⟩) (Nat.le_refl _) _).setCell (p := ⟨w.heap.size, 2, none⟩) (Nat.le_refl _) _).alloc (by simp only [size_set]; omega) _
      refine ⟨⟨_, rfl, ?_⟩, hBz⟩
      rw [HK.out]
      exact valAt_word _ txtN plnN
end Go.Proofs.YtkmgflnmffdhjaaGreatDoor

/- Contracts of package tree: kidsOf. -/
namespace Go.Proofs.YtkmgflnmffdhjaaGreatDoor
open Go Go.RowKit

def kidsP (kind : Nat) (bd : Sp) (cuts : List Sp) (e : Sp) : List Sp := if kind = 2 then [bd] else kidsS cuts e
theorem kidsS_last (c : Sp) (e : Sp) : kidsS [c] e = [(c.2, e.1)] := rfl
theorem kidsS_more (c d : Sp) (r : List Sp) (e : Sp) : kidsS (c :: d :: r) e = (c.2, d.1) :: kidsS (d :: r) e := rfl
def spansPost (ss : List Sp) (w : World) (e : Ending) (w' : World) : Prop :=
  ∃ u, e = .returned u ∧ w'.ownsRow w.heap.size 25 2 u ss.length (spCells ss) ∧ Below w.heap.size w w'
theorem cells_two_at (W : World) (t : TypeId) (x y : Value) (K : Nat) (hK : K = W.heap.size) : ∀ j u, [x, y][j]? = some u → (W.alloc (.cells #[x, y] t)).cell? ((⟨K, 0, none⟩ : Addr).add j) = some u := by
  subst hK
  exact cells_two_new W t x y
theorem own_fresh (W : World) (base : Nat) (hb : base ≤ W.heap.size) (s : Sp) : (W.alloc (.cells #[.int .i64 (s.1 : Int), .int .i64 (s.2 : Int)] 25)).ownsRow base 25 2 (.slice (some ⟨W.heap.size, 0, none⟩) 1 1) 1 (spCells [s]) :=
  ⟨rfl, .inr ⟨W.heap.size, 1, _, rfl, hb, heap_alloc_new W _, Nat.le_refl _, by unfold maxLen; omega, rfl, rfl⟩⟩
set_option maxRecDepth 100000 in
set_option maxHeartbeats 2000000 in
theorem kidsOf_any (kind h1 h2 b1 b2 e1 e2 : Nat) (ka : Option Addr) (kn kc : Nat) (vc : Value) (cuts : List Sp) (w : World) (hc : rowSp w vc cuts) (hl : cuts.length ≤ 1000000) :
    Calls Tryz.prog 24 #[.agg #[.int .i64 (kind : Int), .int .i64 (h1 : Int), .int .i64 (h2 : Int), .int .i64 (b1 : Int), .int .i64 (b2 : Int), .slice ka kn kc, vc, .int .i64 (e1 : Int), .int .i64 (e2 : Int)]] w
      (spansPost (kidsP kind (b1, b2) cuts (e1, e2)) w) := by
  obtain ⟨i0, hi0, hz0, hz1, hz2⟩ := info_parts Tryz.infoSp
  have HI0 := Lib.hid hi0
  have HZ0 := Lib.hid hz0
  have HZ1 := Lib.hid hz1
  have HZ2 := Lib.hid hz2
  clear hi0 hz0 hz1 hz2
  obtain ⟨ao, cap, rfl, hcl, hcm, hcell⟩ := hc.at
  have HC := Lib.hid hcell
  have HR := Lib.hid hc
  clear hcell hc
  by_cases hk2 : kind = 2
  · subst hk2
    have HP : Hid (kidsP 2 (b1, b2) cuts (e1, e2) = [(b1, b2)]) := rfl
    rw [HP.out]
    go_enter Tryz.func24, Tryz.ntmps24
    go_wp2_with fail
    go_ret
    refine ⟨_, rfl, ?_, ?_⟩
    · have := own_fresh (w.alloc (.cells #[.int .i64 ((2 : Nat) : Int), .int .i64 (h1 : Int), .int .i64 (h2 : Int), .int .i64 (b1 : Int), .int .i64 (b2 : Int), .slice ka kn kc, .slice ao cuts.length cap, .int .i64 (e1 : Int), .int .i64 (e2 : Int)] 29)) w.heap.size (Nat.le_of_lt (by simp)) (b1, b2)
      simp only [World.size_alloc] at this
      exact this
    · exact ((Below.refl _ _).alloc (Nat.le_refl _) _).alloc (by simp) _
  · have hk2' : ¬ (kind : Int) = 2 := by omega
    have HP : Hid (kidsP kind (b1, b2) cuts (e1, e2) = kidsS cuts (e1, e2)) := if_neg hk2
    rw [HP.out]
    obtain ⟨W1, hW1⟩ : ∃ W1, W1 = w.alloc (.cells #[.int .i64 (kind : Int), .int .i64 (h1 : Int), .int .i64 (h2 : Int), .int .i64 (b1 : Int), .int .i64 (b2 : Int), .slice ka kn kc, .slice ao cuts.length cap, .int .i64 (e1 : Int), .int .i64 (e2 : Int)] 29) := ⟨_, rfl⟩
    have hw1 : W1.heap[w.heap.size]? = some (.cells #[.int .i64 (kind : Int), .int .i64 (h1 : Int), .int .i64 (h2 : Int), .int .i64 (b1 : Int), .int .i64 (b2 : Int), .slice ka kn kc, .slice ao cuts.length cap, .int .i64 (e1 : Int), .int .i64 (e2 : Int)] 29 (0, 0)) := by rw [hW1]; exact heap_alloc_new w _
    have hB1 : Below w.heap.size w W1 := by rw [hW1]; exact (Below.refl _ _).alloc (Nat.le_refl _) _
    have HZs : Hid (W1.heap.size = w.heap.size + 1) := by unfold Hid; rw [hW1]; simp
    have hkb : ((kind : Int) == 2) = false := beq_no hk2'
    have HW1 := Lib.hid hw1
    have HB1 := Lib.hid hB1
    have HR1 := Lib.hid (HR.out.below hB1)
    go_enter Tryz.func24, Tryz.ntmps24
    go_wp2_with fail
    rw [← hW1]
    clear hW1 hw1 hB1
    go_loopg [3, 16] cuts.length (fun g x3 x16 wr => ∃ (k : Nat) (ss : List Sp), k ≤ cuts.length ∧ ss.length = k ∧ g = cuts.length - k ∧ x16 = .int .i64 (k : Int) ∧ Hid (wr.ownsRow W1.heap.size 25 2 x3 ss.length (spCells ss)) ∧ Hid (Below W1.heap.size W1 wr) ∧
      Hid (kidsS cuts (e1, e2) = ss ++ kidsS (cuts.drop k) (e1, e2)))
    case atStart => exact ⟨0, [], Nat.zero_le _, rfl, rfl, rfl, World.ownsRow_nil _ _ _ _, Below.refl _ _, by unfold Hid; rw [List.drop_zero]; rfl⟩
    case round =>
      obtain ⟨k, ss, hk, hsk0, rfl, rfl, HO, HB, HQ⟩ := hrel
      have hsk : ss.length ≤ k := by omega
      have HSk := Lib.hid hsk0
      clear hsk0
      have hW1z : w.heap.size < W1.heap.size := by have := HZs.out; omega
      by_cases hlt : k < cuts.length
      · obtain ⟨g, rfl, hg, x0, x1⟩ := HC.out k hlt
        have hgw : g < w.heap.size := hg
        have HDr : Hid (cuts.drop k = cuts[k] :: cuts.drop (k + 1)) := List.drop_eq_getElem_cons hlt
        obtain ⟨c, hc⟩ : ∃ c, c = cuts[k] := ⟨_, rfl⟩
        rw [← hc] at x0 x1 HDr
        clear hc
        obtain ⟨cf, ct⟩ := c
        simp only at x0 x1
        have HBw : Hid (Below w.heap.size w wr) := HB1.out.trans (HB.out.mono (Nat.le_of_lt hW1z))
        replace x0 := (HBw.out.cell (p := ⟨g, k * 2, none⟩) hg).trans x0
        replace x1 := (HBw.out.cell (p := ⟨g, k * 2 + 1, none⟩) hg).trans x1
        have hB0 := HB.out.size
        have hwr := (HB.out.block _ (by omega)).trans HW1.out
        have p6 : wr.cell? ⟨w.heap.size, 6, none⟩ = some (.slice (some ⟨g, 0, none⟩) cuts.length cap) := by simp [World.cell?, hwr]
        have p7 : wr.cell? ⟨w.heap.size, 7, none⟩ = some (.int .i64 (e1 : Int)) := by simp [World.cell?, hwr]
        have p8 : wr.cell? ⟨w.heap.size, 8, none⟩ = some (.int .i64 (e2 : Int)) := by simp [World.cell?, hwr]
        have hlt0 : w.heap.size < wr.heap.size := by omega
        have hlt1 : g < wr.heap.size := by omega
        clear hwr
        by_cases hlt2 : k + 1 < cuts.length
        · obtain ⟨g', he', _, y0, y1⟩ := HC.out (k + 1) hlt2
          have hgg : g' = g := by injection he' with e1; injection e1 with e2; exact e2.symm
          subst hgg
          replace y0 := (HBw.out.cell (p := ⟨g', (k + 1) * 2, none⟩) hg).trans y0
          replace y1 := (HBw.out.cell (p := ⟨g', (k + 1) * 2 + 1, none⟩) hg).trans y1
          have HDr2 : Hid (cuts.drop (k + 1) = cuts[k + 1] :: cuts.drop (k + 1 + 1)) := List.drop_eq_getElem_cons hlt2
          obtain ⟨d, hd⟩ : ∃ d, d = cuts[k + 1] := ⟨_, rfl⟩
          rw [← hd] at y0 y1 HDr2
          clear hd he'
          have hdd : decide ((k : Int) + 1 < (cuts.length : Int)) = true := decide_eq_true (by omega)
          obtain ⟨df, dt⟩ := d
          simp only at y0 y1
          have HQ' : Hid (kidsS cuts (e1, e2) = (ss ++ [(ct, df)]) ++ kidsS (cuts.drop (k + 1)) (e1, e2)) := by
            unfold Hid
            rw [HQ.out, HDr.out, HDr2.out, kidsS_more, List.append_assoc]
            rfl
          go_wp2_with (at_builtin; refine wpList_append_own _ rfl _ _ 27 rfl W1.heap.size 25 i0 (.agg #[.int .i64 0, .int .i64 0]) 2 16 Tryz.underlying27 HI0.out HZ0.out HZ1.out HZ2.out rfl (by decide) _ _ _ rfl (((HO.out.alloc _).alloc _).alloc _) ⟨wr.heap.size + 1 + 1, 0, none⟩ 1 1 (spC (ct, df)) rfl rfl ?c1 ?c2 ?c3 ?c4 ?c5 ?_)
          case c1 => exact cells_two_at _ _ _ _ _ (by simp only [World.size_alloc])
          case c2 => exact spC_one (ct, df)
          case c3 => unfold maxLen; omega
          case c4 => omega
          case c5 => (try simp); omega
          intro v' w6 hown6 hgrow6 _
          have hA := ((HB.out.alloc hB0 (.cells #[.int .i64 (cf : Int), .int .i64 (ct : Int)] 25)).alloc (by simp; omega) (.cells #[.int .i64 (df : Int), .int .i64 (dt : Int)] 25)).alloc (by simp; omega) (.cells #[.int .i64 (ct : Int), .int .i64 (df : Int)] 25)
          have HB6 : Hid (Below W1.heap.size W1 w6) := hA.grown hgrow6 hA.size (fun q hq => (HO.out.lt q hq).1)
          have HO6 : Hid (w6.ownsRow W1.heap.size 25 2 v' (ss ++ [(ct, df)]).length (spCells (ss ++ [(ct, df)]))) := by
            unfold Hid
            rw [spCells_snoc, List.length_append]
            exact hown6
          clear hA hown6 hgrow6 HO HB x0 x1 p6 p7 p8
          go_wp2_with fail
          go_roundg (cuts.length - (k + 1))
          case measure => omega
          case rel => exact ⟨k + 1, ss ++ [(ct, df)], by omega, by have := HSk.out; simp; omega, rfl, by go_num, HO6.out, HB6.out, HQ'⟩
        · have hlt3 : ¬ (k : Int) + 1 < (cuts.length : Int) := by omega
          have hdd : decide ((k : Int) + 1 < (cuts.length : Int)) = false := decide_eq_false hlt3
          have HDr2 : Hid (cuts.drop (k + 1) = []) := List.drop_eq_nil_of_le (by omega)
          have HQ' : Hid (kidsS cuts (e1, e2) = (ss ++ [(ct, e1)]) ++ kidsS (cuts.drop (k + 1)) (e1, e2)) := by
            unfold Hid
            rw [HQ.out, HDr.out, HDr2.out, kidsS_last, List.append_assoc]
            rfl
          go_wp2_with (at_builtin; refine wpList_append_own _ rfl _ _ 27 rfl W1.heap.size 25 i0 (.agg #[.int .i64 0, .int .i64 0]) 2 16 Tryz.underlying27 HI0.out HZ0.out HZ1.out HZ2.out rfl (by decide) _ _ _ rfl (((HO.out.alloc _).alloc _).alloc _) ⟨wr.heap.size + 1 + 1, 0, none⟩ 1 1 (spC (ct, e1)) rfl rfl ?c1 ?c2 ?c3 ?c4 ?c5 ?_)
          case c1 => exact fun _ _ h => h
          case c2 => exact spC_one (ct, e1)
          case c3 => unfold maxLen; omega
          case c4 => omega
          case c5 => (try simp); omega
          intro v' w6 hown6 hgrow6 _
          have hA := ((HB.out.alloc hB0 (.cells #[.int .i64 (cf : Int), .int .i64 (ct : Int)] 25)).alloc (by simp; omega) (.cells #[.int .i64 (e1 : Int), .int .i64 (e2 : Int)] 25)).alloc (by simp; omega) (.cells #[.int .i64 (ct : Int), .int .i64 (e1 : Int)] 25)
          have HB6 : Hid (Below W1.heap.size W1 w6) := hA.grown hgrow6 hA.size (fun q hq => (HO.out.lt q hq).1)
          have HO6 : Hid (w6.ownsRow W1.heap.size 25 2 v' (ss ++ [(ct, e1)]).length (spCells (ss ++ [(ct, e1)]))) := by
            unfold Hid
            rw [spCells_snoc, List.length_append]
            exact hown6
          clear hA hown6 hgrow6 HO HB x0 x1 p6 p7 p8
          go_wp2_with fail
          go_roundg (cuts.length - (k + 1))
          case measure => omega
          case rel => exact ⟨k + 1, ss ++ [(ct, e1)], by omega, by have := HSk.out; simp; omega, rfl, by go_num, HO6.out, HB6.out, HQ'⟩
      · obtain rfl : k = cuts.length := by omega
        have HE : Hid (kidsS cuts (e1, e2) = ss) := by
          unfold Hid
          rw [HQ.out, List.drop_length]
          exact List.append_nil _
        go_wp2_with fail
        go_ret
        refine ⟨_, rfl, ?_, HB1.out.trans (HB.out.mono (Nat.le_of_lt hW1z))⟩
        rw [HE.out]
        exact own_base2 HO.out (Nat.le_of_lt hW1z)
end Go.Proofs.YtkmgflnmffdhjaaGreatDoor
