/- Contracts of package header: begun. -/
import Derived.Test.YtbphnlaoiikebaaGreatDoorGbHdrA
import Derived.Test.YtbphnlaoiikebaaGreatDoorGbLinesE
namespace Go.Proofs.YtbphnlaoiikebaaGreatDoor
open Go Go.RowKit

def fldV (x : Fld) : Value := .agg #[.string ⟨x.nm.toArray⟩, .int .i64 (x.f : Int), .int .i64 (x.b : Int), .int .i64 (x.t : Int)]
def fldC (x : Fld) : List Value := [.string ⟨x.nm.toArray⟩, .int .i64 (x.f : Int), .int .i64 (x.b : Int), .int .i64 (x.t : Int)]
def noFldV : Value := .agg #[.string ⟨#[]⟩, .int .i64 0, .int .i64 0, .int .i64 0]

theorem bcell {W w1 : World} (hb : Below W.heap.size W w1) : (∀ b o, b < W.heap.size → w1.cell? ⟨b, o, none⟩ = W.cell? ⟨b, o, none⟩) ∧ (∀ b o, b < W.heap.size → w1.frozen? ⟨b, o, none⟩ = W.frozen? ⟨b, o, none⟩) :=
  ⟨fun b o h => hb.cell (p := ⟨b, o, none⟩) h, fun b o h => hb.frozen (p := ⟨b, o, none⟩) h⟩
set_option maxHeartbeats 2000000 in
theorem begun_some (v : Value) (l : List UInt8) (x : Ln) (f : Fld) (w : World) (hv : bytesArg w v l) (h1 : x.f ≤ x.t) (h2 : x.t ≤ l.length) (hbig : l.length ≤ 1048576) (hf : begunS l x = some f) :
    Calls Tryz.prog 39 #[v, lnV x] w fun e w' => e = .returned (.tuple #[fldV f, .bool true]) ∧ Below w.heap.size w w' := by
  have HV := Lib.hid hv
  obtain ⟨ao, cap, rfl, hc, hm, hs⟩ := hv
  clear hs
  have HT := Lib.hid (fun W h => text_any (.slice ao l.length cap) l (x.f : Int) (x.t : Int) (x.n : Int) W h)
  rw [textS_nat l h1 h2] at HT
  have hlen := textOf_len (l := l) (x := x) h2
  unfold begunS at hf
  split at hf
  case isFalse => cases hf
  case isTrue hcd =>
    obtain ⟨hcol, hnm⟩ := hcd
    obtain rfl := Option.some.inj hf
    obtain ⟨S, hS⟩ : ∃ S : ByteArray, S = ⟨(partS l x.f x.t).toArray⟩ := ⟨_, rfl⟩
    have hSl : S.data.toList = textOf l x := by rw [hS]; rfl
    have hSs : S.size = x.t - x.f := by rw [← len_toList, hSl]; exact hlen
    obtain ⟨k, hk⟩ : ∃ k, k = colI (textOf l x) := ⟨_, rfl⟩
    have HC := Lib.hid (fun W => cut_yes S W (by omega) k (by rw [hSl]; exact hk) (by omega))
    obtain ⟨N, hN⟩ : ∃ N : ByteArray, N = ⟨(nameS (textOf l x)).toArray⟩ := ⟨_, rfl⟩
    obtain ⟨A, hA⟩ : ∃ A : ByteArray, A = S.extract 0 k := ⟨_, rfl⟩
    have hA1 : A.size = k := by rw [hA, extract_size' _ _ _ (by omega)]; rfl
    have hTR : ∀ W, Calls Tryz.prog 74 #[.string A, .string ⟨#[32, 9]⟩] W fun e w' => e = .returned (.string N) ∧ Below W.heap.size W w' := by
      intro W
      have := Tryz.strings_TrimRight_blank A W (by omega)
      rw [hN]
      have e : A.data.toList = (textOf l x).take (colI (textOf l x)) := by rw [hA, extract_toList, hSl, ← hk]; rfl
      rw [e] at this
      exact this
    have HTR := Lib.hid hTR
    have hNl : N.data.toList = nameS (textOf l x) := by rw [hN]
    have hNs : N.size ≤ 9223372036854775807 := by
      rw [← len_toList, hNl]
      unfold nameS Lib.trimRightS
      have h5 := (List.dropWhile_suffix (p := fun b => ([32, 9] : List UInt8).contains b) (l := ((textOf l x).take (colI (textOf l x))).reverse)).length_le
      simp only [List.length_reverse, List.length_take] at h5 ⊢
      omega
    have HNm := Lib.hid (fun W => named_any N W hNs)
    rw [hNl, hnm] at HNm
    rw [← hS] at HT
    rw [← hA] at HC
    have HF : Hid (fldV ⟨nameS (textOf l x), x.f, x.f + colI (textOf l x) + 1, x.n⟩ = .agg #[.string N, .int .i64 (x.f : Int), .int .i64 ((x.f : Int) + (A.size : Int) + 1), .int .i64 (x.n : Int)]) := by
      unfold Hid fldV
      rw [hA1, ← hk, hN, show ((x.f + k + 1 : Nat) : Int) = (x.f : Int) + (k : Int) + 1 by omega]
    have hA2 : A.size ≤ 1048576 := by omega
    obtain ⟨z, hz⟩ : ∃ z : ByteArray, z = S.extract (k + 1) S.size := ⟨_, rfl⟩
    rw [← hz] at HC
    rw [HF.out]
    clear hA hA1 hN hNl hNs hTR hS hSl hSs hk hcol hnm hlen hz
    unfold lnV
    go_enter Tryz.func39, Tryz.ntmps39
    go_wp2_with fail
    with_reducible refine (HT.out _ ?h1).mono ?_
    case h1 => exact bytesArg.below HV.out (((Below.refl _ _).alloc (Nat.le_refl _) _).alloc (by simp) _)
    rintro e w1 ⟨rfl, hb1⟩
    have HB1 := Lib.hid hb1; clear hb1
    go_wp2_with fail
    with_reducible refine (HC.out _).mono ?_
    rintro e w2 ⟨rfl, hb2⟩
    have HB2 := Lib.hid (HB1.out.trans (hb2.mono HB1.out.size)); clear hb2
    go_wp2_with fail
    with_reducible refine (HTR.out _).mono ?_
    rintro e w3 ⟨rfl, hb3⟩
    have HB3 := Lib.hid (HB2.out.trans (hb3.mono HB2.out.size)); clear hb3
    go_wp2_with fail
    with_reducible refine (HNm.out _).mono ?_
    rintro e w4 ⟨rfl, rfl⟩
    obtain ⟨hc, hf⟩ := bcell HB3.out
    have hz : w.heap.size + 1 < w3.heap.size := by have := HB3.out.size; simp at this; omega
    have HBa : Hid (Below w.heap.size w w3) := (((Below.refl _ _).alloc (Nat.le_refl _) _).alloc (by simp) _).trans (HB3.out.mono (by simp; omega))
    clear HB1 HB2 HB3 HC HTR HNm HT HV
    go_wp2_with fail
    refine bodyPost_ret (v := .tuple #[.agg #[.string N, .int .i64 (x.f : Int), .int .i64 ((x.f : Int) + (A.size : Int) + 1), .int .i64 (x.n : Int)], .bool true]) (by simp [results, Tryz.results39, go_sem, hc]) rfl ⟨rfl, ?_⟩
    exact ((((HBa.out.setCell (by simp) _).setCell (by simp) _).setCell (by simp) _).setCell (by simp) _)
set_option maxHeartbeats 2000000 in
theorem begun_noName (v : Value) (l : List UInt8) (x : Ln) (w : World) (hv : bytesArg w v l) (h1 : x.f ≤ x.t) (h2 : x.t ≤ l.length) (hbig : l.length ≤ 1048576) (hcol : colI (textOf l x) < (textOf l x).length) (hnm : namedB (nameS (textOf l x)) = false) :
    Calls Tryz.prog 39 #[v, lnV x] w fun e w' => e = .returned (.tuple #[noFldV, .bool false]) ∧ Below w.heap.size w w' := by
  have HV := Lib.hid hv
  obtain ⟨ao, cap, rfl, hc, hm, hs⟩ := hv
  clear hs
  have HT := Lib.hid (fun W h => text_any (.slice ao l.length cap) l (x.f : Int) (x.t : Int) (x.n : Int) W h)
  rw [textS_nat l h1 h2] at HT
  have hlen := textOf_len (l := l) (x := x) h2
  obtain ⟨S, hS⟩ : ∃ S : ByteArray, S = ⟨(partS l x.f x.t).toArray⟩ := ⟨_, rfl⟩
  have hSl : S.data.toList = textOf l x := by rw [hS]; rfl
  have hSs : S.size = x.t - x.f := by rw [← len_toList, hSl]; exact hlen
  obtain ⟨k, hk⟩ : ∃ k, k = colI (textOf l x) := ⟨_, rfl⟩
  have HC := Lib.hid (fun W => cut_yes S W (by omega) k (by rw [hSl]; exact hk) (by omega))
  obtain ⟨N, hN⟩ : ∃ N : ByteArray, N = ⟨(nameS (textOf l x)).toArray⟩ := ⟨_, rfl⟩
  obtain ⟨A, hA⟩ : ∃ A : ByteArray, A = S.extract 0 k := ⟨_, rfl⟩
  have hA1 : A.size = k := by rw [hA, extract_size' _ _ _ (by omega)]; rfl
  have hTR : ∀ W, Calls Tryz.prog 74 #[.string A, .string ⟨#[32, 9]⟩] W fun e w' => e = .returned (.string N) ∧ Below W.heap.size W w' := by
    intro W
    have := Tryz.strings_TrimRight_blank A W (by omega)
    rw [hN]
    have e : A.data.toList = (textOf l x).take (colI (textOf l x)) := by rw [hA, extract_toList, hSl, ← hk]; rfl
    rw [e] at this
    exact this
  have HTR := Lib.hid hTR
  have hNl : N.data.toList = nameS (textOf l x) := by rw [hN]
  have hNs : N.size ≤ 9223372036854775807 := by
    rw [← len_toList, hNl]
    unfold nameS Lib.trimRightS
    have h5 := (List.dropWhile_suffix (p := fun b => ([32, 9] : List UInt8).contains b) (l := ((textOf l x).take (colI (textOf l x))).reverse)).length_le
    simp only [List.length_reverse, List.length_take] at h5 ⊢
    omega
  have HNm := Lib.hid (fun W => named_any N W hNs)
  rw [hNl, hnm] at HNm
  rw [← hS] at HT
  rw [← hA] at HC
  have hA2 : A.size ≤ 1048576 := by omega
  obtain ⟨z, hz⟩ : ∃ z : ByteArray, z = S.extract (k + 1) S.size := ⟨_, rfl⟩
  rw [← hz] at HC
  clear hA hA1 hN hNl hNs hTR hS hSl hSs hk hcol hnm hlen hz
  unfold lnV
  go_enter Tryz.func39, Tryz.ntmps39
  go_wp2_with fail
  with_reducible refine (HT.out _ ?h1).mono ?_
  case h1 => exact bytesArg.below HV.out (((Below.refl _ _).alloc (Nat.le_refl _) _).alloc (by simp) _)
  rintro e w1 ⟨rfl, hb1⟩
  have HB1 := Lib.hid hb1; clear hb1
  go_wp2_with fail
  with_reducible refine (HC.out _).mono ?_
  rintro e w2 ⟨rfl, hb2⟩
  have HB2 := Lib.hid (HB1.out.trans (hb2.mono HB1.out.size)); clear hb2
  go_wp2_with fail
  with_reducible refine (HTR.out _).mono ?_
  rintro e w3 ⟨rfl, hb3⟩
  have HB3 := Lib.hid (HB2.out.trans (hb3.mono HB2.out.size)); clear hb3
  go_wp2_with fail
  with_reducible refine (HNm.out _).mono ?_
  rintro e w4 ⟨rfl, rfl⟩
  obtain ⟨hc, hf⟩ := bcell HB3.out
  have hz : w.heap.size + 1 < w3.heap.size := by have := HB3.out.size; simp at this; omega
  have HBa : Hid (Below w.heap.size w w3) := (((Below.refl _ _).alloc (Nat.le_refl _) _).alloc (by simp) _).trans (HB3.out.mono (by simp; omega))
  clear HB1 HB2 HB3 HC HTR HNm HT HV
  go_wp2_with fail
  refine bodyPost_ret (v := .tuple #[.agg #[.string ⟨#[]⟩, .int .i64 0, .int .i64 0, .int .i64 0], .bool false]) (by simp [results, Tryz.results39, go_sem, hc]) rfl ⟨rfl, ?_⟩
  exact ((((HBa.out.setCell (by simp) _).setCell (by simp) _).setCell (by simp) _).setCell (by simp) _)
set_option maxHeartbeats 2000000 in
theorem begun_noCol (v : Value) (l : List UInt8) (x : Ln) (w : World) (hv : bytesArg w v l) (h1 : x.f ≤ x.t) (h2 : x.t ≤ l.length) (hbig : l.length ≤ 1048576) (hcol : ¬ colI (textOf l x) < (textOf l x).length) :
    Calls Tryz.prog 39 #[v, lnV x] w fun e w' => e = .returned (.tuple #[noFldV, .bool false]) ∧ Below w.heap.size w w' := by
  have HV := Lib.hid hv
  obtain ⟨ao, cap, rfl, hc, hm, hs⟩ := hv
  clear hs
  have HT := Lib.hid (fun W h => text_any (.slice ao l.length cap) l (x.f : Int) (x.t : Int) (x.n : Int) W h)
  rw [textS_nat l h1 h2] at HT
  have hlen := textOf_len (l := l) (x := x) h2
  obtain ⟨S, hS⟩ : ∃ S : ByteArray, S = ⟨(partS l x.f x.t).toArray⟩ := ⟨_, rfl⟩
  have hSl : S.data.toList = textOf l x := by rw [hS]; rfl
  have hSs : S.size = x.t - x.f := by rw [← len_toList, hSl]; exact hlen
  have HC := Lib.hid (fun W => cut_no S W (by rw [hSl, ← len_toList, hSl]; exact hcol))
  obtain ⟨N, hN⟩ : ∃ N : ByteArray, N = ⟨(Lib.trimRightS S.data.toList [32, 9]).toArray⟩ := ⟨_, rfl⟩
  have HTR := Lib.hid (fun W => Tryz.strings_TrimRight_blank S W (by omega))
  rw [← hS] at HT
  rw [← hN] at HTR
  clear hN hS hSl hSs hcol hlen
  unfold lnV
  go_enter Tryz.func39, Tryz.ntmps39
  go_wp2_with fail
  with_reducible refine (HT.out _ ?h1).mono ?_
  case h1 => exact bytesArg.below HV.out (((Below.refl _ _).alloc (Nat.le_refl _) _).alloc (by simp) _)
  rintro e w1 ⟨rfl, hb1⟩
  have HB1 := Lib.hid hb1; clear hb1
  go_wp2_with fail
  with_reducible refine (HC.out _).mono ?_
  rintro e w2 ⟨rfl, hb2⟩
  have HB2 := Lib.hid (HB1.out.trans (hb2.mono HB1.out.size)); clear hb2
  go_wp2_with fail
  with_reducible refine (HTR.out _).mono ?_
  rintro e w3 ⟨rfl, hb3⟩
  have HB3 := Lib.hid (HB2.out.trans (hb3.mono HB2.out.size)); clear hb3
  obtain ⟨hc, hf⟩ := bcell HB3.out
  have hz : w.heap.size + 1 < w3.heap.size := by have := HB3.out.size; simp at this; omega
  have HBa : Hid (Below w.heap.size w w3) := (((Below.refl _ _).alloc (Nat.le_refl _) _).alloc (by simp) _).trans (HB3.out.mono (by simp; omega))
  clear HB1 HB2 HB3 HC HTR HT HV
  go_wp2_with fail
  refine bodyPost_ret (v := .tuple #[.agg #[.string ⟨#[]⟩, .int .i64 0, .int .i64 0, .int .i64 0], .bool false]) (by simp [results, Tryz.results39, go_sem, hc]) rfl ⟨rfl, ?_⟩
  exact ((((HBa.out.setCell (by simp) _).setCell (by simp) _).setCell (by simp) _).setCell (by simp) _)
theorem begun_none (v : Value) (l : List UInt8) (x : Ln) (w : World) (hv : bytesArg w v l) (h1 : x.f ≤ x.t) (h2 : x.t ≤ l.length) (hbig : l.length ≤ 1048576) (hf : begunS l x = none) :
    Calls Tryz.prog 39 #[v, lnV x] w fun e w' => e = .returned (.tuple #[noFldV, .bool false]) ∧ Below w.heap.size w w' := by
  unfold begunS at hf
  split at hf
  case isTrue => cases hf
  case isFalse hcd =>
    by_cases hcol : colI (textOf l x) < (textOf l x).length
    · exact begun_noName v l x w hv h1 h2 hbig hcol (by
        rcases Bool.eq_false_or_eq_true (namedB (nameS (textOf l x))) with h | h
        · exact absurd ⟨hcol, h⟩ hcd
        · exact h)
    · exact begun_noCol v l x w hv h1 h2 hbig hcol
end Go.Proofs.YtbphnlaoiikebaaGreatDoor

/- Contracts of package lines: Of. -/
namespace Go.Proofs.YtbphnlaoiikebaaGreatDoor
open Go Go.RowKit Go.Shelf
attribute [local go_sem] Oper.semAt_some

theorem cells_three_new (w : World) (t : TypeId) (x y z : Value) : ∀ j u, [x, y, z][j]? = some u → (w.alloc (.cells #[x, y, z] t)).cell? ((⟨w.heap.size, 0, none⟩ : Addr).add j) = some u := by
  intro j u hu
  rw [Addr.add_lit]
  match j, hu with
  | 0, hu => simp only [World.cell?, heap_alloc_new]; simpa using hu
  | 1, hu => simp only [World.cell?, heap_alloc_new]; simpa using hu
  | 2, hu => simp only [World.cell?, heap_alloc_new]; simpa using hu
  | j + 3, hu => simp at hu
theorem lnC_one (x : Ln) : ∀ u ∈ lnC x, u.oneCell' = true := by
  intro u hu
  simp only [lnC, List.mem_cons, List.not_mem_nil, or_false] at hu
  rcases hu with rfl | rfl | rfl <;> rfl
set_option maxRecDepth 100000 in
set_option maxHeartbeats 2000000 in
theorem of_any (v : Value) (l : List UInt8) (f t : Int) (w : World) (hv : bytesArg w v l) (hbig : l.length ≤ 1048576) :
    Calls Tryz.prog 70 #[v, .agg #[.int .i64 f, .int .i64 t]] w fun e w' => ∃ u, e = .returned u ∧ w'.ownsRow w.heap.size 103 3 u (linesZ l f t).length (lnCells (linesZ l f t)) ∧ Below w.heap.size w w' := by
  have HV := Lib.hid hv
  obtain ⟨ao, cap, rfl, hc, hm, hs⟩ := hv
  clear hs
  obtain ⟨i0, hi, hz0, hz1, hz2⟩ := info_parts Tryz.infoL
  refine (callsIn_wide (n := 3)).1 ?_
  refine callsIn_of_wp_marks Tryz.func70 rfl trivial ?_ rfl
  simp only [Tryz.ntmps70, List.size_toArray, List.length_cons, List.length_nil, Nat.reduceAdd, Nat.reduceSub, Array.replicate_succ, Array.replicate_zero, List.push_toArray, List.append_toArray, List.nil_append, List.cons_append]
  gi_wp2
  refine ⟨trivial, ?_⟩
  with_reducible refine (callsIn_wide.2 (each_any _ _ _ _ _ _ _ rfl)).mono ?_
  rintro e w1 ⟨rfl, rfl⟩
  gi_wp2
  have HSe := Lib.hid (seat_new w (.cells #[.slice none 0 0] 98) (.slice ao l.length cap) 98 (.slice none 0 0) f t rfl rfl)
  have bN := ((Boxed.new (w.alloc (.cells #[.int .i64 f, .int .i64 t] 45)) 98 (.slice none 0 0)).alloc (.cells #[.slice ao l.length cap] 39)).alloc (.cells #[.int .i64 f, .int .i64 t] 45)
  obtain ⟨W0, hW0⟩ : ∃ W0, (((w.alloc (.cells #[.int .i64 f, .int .i64 t] 45)).alloc (.cells #[.slice none 0 0] 98)).alloc (.cells #[.slice ao l.length cap] 39)).alloc (.cells #[.int .i64 f, .int .i64 t] 45) = W0 := ⟨_, rfl⟩
  have hsz : W0.heap.size = w.heap.size + 4 := by rw [← hW0]; simp
  simp only [World.size_alloc] at bN
  rw [hW0] at HSe bN ⊢
  clear hW0
  refine wpIn_rangeFunc_ownH rfl (by omega) (gf := 123) (lb := #[.pointer (some ⟨w.heap.size + 1 + 1 + 1, 0, none⟩), .pointer (some ⟨w.heap.size + 1 + 1, 0, none⟩)]) rfl trivial (enters_of Tryz.func123 (by kernel_rfl) rfl)
    (each_stops 2 (by omega) (w.heap.size + 1) (w.heap.size + 3) (w.heap.size + 2) w W0 (.slice ao l.length cap) l f t HV.out hbig HSe.out) (fun h k => h.trans k) (KeepK.turn (by omega) (by omega)) (Below.refl _ _) (fun _ => rfl)
    (fun pre W => (∃ v, Boxed W (w.heap.size + 1) 98 v ∧ W.ownsRow w.heap.size 103 3 v pre.length (lnCells pre) ∧ True) ∧ Below w.heap.size w W)
    (fun _ _ _ => False)
    (OwnFrom.and (Own.from (holdsRow_own w.heap.size (w.heap.size + 1) 98 103 3 (fun pre => pre.length) (fun pre => lnCells pre) (fun _ _ => True)) _) (ownFrom_below (Nat.le_refl _) (by omega)))
    (fun _ _ _ _ _ hs _ _ => hs)
    ⟨⟨_, bN, World.ownsRow_nil _ _ _ _, trivial⟩, HSe.out.below⟩
    (fun x a' W => ∃ Bx, W.heap[Bx]? = some (.cells #[.int .i64 (x.f : Int), .int .i64 (x.t : Int), .int .i64 (x.n : Int)] 103 (0, 0)) ∧ a' = { tmps := #[.slice ao l.length cap, .agg #[.int .i64 f, .int .i64 t], undef, .pointer (some ⟨w.heap.size, 0, none⟩), .slice none 0 0, .pointer (some ⟨w.heap.size + 1, 0, none⟩), .pointer (some ⟨Bx, 0, none⟩), .slice ao l.length cap, .agg #[.int .i64 f, .int .i64 t],
        .func (.func 123) #[] #[.pointer (some ⟨w.heap.size + 1 + 1 + 1, 0, none⟩), .pointer (some ⟨w.heap.size + 1 + 1, 0, none⟩)], lnV x, undef, undef, undef, undef, undef], defers := [] })
    (fun x a' _ X Y row hs hg hr => by
      obtain ⟨Bx, h2, h3⟩ := hs
      refine ⟨Bx, (hg.block Bx (Array.getElem?_eq_some_iff.1 h2).1 (fun e => ?_)).trans h2, h3⟩
      obtain ⟨_, o, ho, hc⟩ := hr Bx e.symm
      rw [h2] at ho
      cases ho
      cases hc)
    ?assign ?body ?done ?stop
  case assign =>
    rintro lp pre x W K ⟨⟨v, hv, hrow, _⟩, hB⟩ hK
    simp only [lnV]
    gi_wp2
    refine hK _ _ ((KeepsOthers.alloc _ _).from _) (KeepK.grow hB.size hv.lt ((Below.refl _ _).alloc (Nat.le_refl _) _)) ⟨⟨v, hv.alloc _, hrow.alloc _, trivial⟩, hB.alloc hB.size _⟩ ⟨W.heap.size, heap_alloc_new W _, ?_⟩
    simp [lnV]
  case body =>
    rintro lp pre x a' W _ _ ⟨⟨v, hv, hrow, _⟩, hB⟩ ⟨Bx, hBx, rfl⟩ hlt
    have hc1 := hv.cell
    have x0 : W.cell? ⟨Bx, 0, none⟩ = some (.int .i64 (x.f : Int)) := by simp [World.cell?, hBx]
    have x1 : W.cell? ⟨Bx, 1, none⟩ = some (.int .i64 (x.t : Int)) := by simp [World.cell?, hBx]
    have x2 : W.cell? ⟨Bx, 2, none⟩ = some (.int .i64 (x.n : Int)) := by simp [World.cell?, hBx]
    clear hBx
    have hB1 := hB.size
    gi_wp2_with (gi_at_builtin; refine wpListIn_append_at _ rfl _ _ 98 rfl w.heap.size 103 i0 (.agg #[.int .i64 0, .int .i64 0, .int .i64 0]) 3 24 Tryz.underlying98 hi hz0 hz1 hz2 rfl (by decide) _ _ _ rfl (hrow.alloc _) ⟨W.heap.size, 0, none⟩ 1 1 (lnC x) rfl rfl (cells_three_new _ _ _ _ _) (lnC_one x) (by unfold maxLen; omega) (by omega) (by simp; omega) (by decide) ?_; intro v' w1 hown' hgrow hat; obtain ⟨g', cap', rfl⟩ := ownsRow_succ hown'; obtain ⟨hv1, hv2, hr2, hk2, hb2⟩ := hv.appended (by decide) hrow hB.size (Nat.le_succ _) hown' hgrow; have hkk := Lib.hid (keep_append hv (by decide) hrow hB.size (Nat.le_succ _) hown' hgrow hat); have hc1 := hv1.cell; have hf1 := hv1.frozen)
    exact ⟨hk2.from _, hkk.out, ⟨_, hv2, by rw [lnCells_snoc, List.length_append]; exact hr2, trivial⟩, hB.trans hb2⟩
  case done =>
    rintro D ys W hD rfl ⟨⟨v, hv, hrow, _⟩, hB⟩ hK
    have hc1 := hv.cell
    gi_wp2
    refine ⟨by simp, .inl ⟨_, _, rfl, run_takeDeferred hK, ?_⟩⟩
    exact ⟨_, results_tmp rfl _ _ _, v, rfl, ownsRow_putObj hrow _ hK rfl, hB.trans (belowK_b (w := w) (Nat.le_refl _) W D _ _ (by omega) hK rfl rfl)⟩
  case stop =>
    rintro D c pre W _ _ h _
    exact h.elim
end Go.Proofs.YtbphnlaoiikebaaGreatDoor

/- Contracts of package header: linesOf. -/
namespace Go.Proofs.YtbphnlaoiikebaaGreatDoor
open Go Go.RowKit

/-- A slice of lines, wherever it begins: what its cells hold. -/
def lnsAt (W : World) (v : Value) (ls : List Ln) : Prop :=
  ∃ ao cap, v = .slice ao ls.length cap ∧ ls.length ≤ cap ∧ cap ≤ maxLen ∧ (ls = [] ∨ ∃ g off, ao = some ⟨g, off, none⟩ ∧ g < W.heap.size ∧
    ∀ i, (h : i < ls.length) → W.cell? ⟨g, off + i * 3, none⟩ = some (.int .i64 (ls[i].f : Int)) ∧ W.cell? ⟨g, off + i * 3 + 1, none⟩ = some (.int .i64 (ls[i].t : Int)) ∧ W.cell? ⟨g, off + i * 3 + 2, none⟩ = some (.int .i64 (ls[i].n : Int)))
theorem lnsAt.below {W W' : World} {v : Value} {ls : List Ln} (h : lnsAt W v ls) (hb : Below W.heap.size W W') : lnsAt W' v ls := by
  obtain ⟨ao, cap, e, h1, h2, h3⟩ := h
  refine ⟨ao, cap, e, h1, h2, h3.imp id ?_⟩
  rintro ⟨g, off, e, hg, hc⟩
  refine ⟨g, off, e, Nat.lt_of_lt_of_le hg hb.size, fun i hi => ?_⟩
  obtain ⟨c0, c1, c2⟩ := hc i hi
  exact ⟨(hb.cell (p := ⟨g, off + i * 3, none⟩) hg).trans c0, (hb.cell (p := ⟨g, off + i * 3 + 1, none⟩) hg).trans c1, (hb.cell (p := ⟨g, off + i * 3 + 2, none⟩) hg).trans c2⟩
theorem rowLn.lns {W : World} {v : Value} {ls : List Ln} (h : rowLn W v ls) : lnsAt W v ls := by
  obtain ⟨ao, cap, e, h1, h2, h3⟩ := h
  refine ⟨ao, cap, e, h1, h2, h3.imp id ?_⟩
  rintro ⟨g, e, hg, hc⟩
  refine ⟨g, 0, e, hg, fun i hi => ?_⟩
  simp only [Nat.zero_add]
  exact hc i hi
theorem rowLn.take {W : World} {ao : Option Addr} {cap : Nat} {ls : List Ln} (h : rowLn W (.slice ao ls.length cap) ls) {k : Nat} (hk : k ≤ ls.length) : lnsAt W (.slice ao k cap) (ls.take k) := by
  obtain ⟨ao', cap', e, h1, h2, h3⟩ := h.lns
  cases e
  have hlen : (ls.take k).length = k := by rw [List.length_take]; omega
  refine ⟨ao, cap, by rw [hlen], by omega, h2, ?_⟩
  rcases h3 with rfl | ⟨g, off, e, hg, hc⟩
  · left; exact List.take_nil
  · refine .inr ⟨g, off, e, hg, fun i hi => ?_⟩
    rw [List.getElem_take]
    exact hc i (by omega)
/-- The first line of some. -/
theorem lnsAt.head {W : World} {v : Value} {x : Ln} {r : List Ln} (h : lnsAt W v (x :: r)) : ∃ g off cap, v = .slice (some ⟨g, off, none⟩) (r.length + 1) cap ∧ r.length + 1 ≤ cap ∧ cap ≤ maxLen ∧ g < W.heap.size ∧
    W.cell? ⟨g, off, none⟩ = some (.int .i64 (x.f : Int)) ∧ W.cell? ⟨g, off + 1, none⟩ = some (.int .i64 (x.t : Int)) ∧ W.cell? ⟨g, off + 2, none⟩ = some (.int .i64 (x.n : Int)) := by
  obtain ⟨ao, cap, rfl, h1, h2, h3⟩ := h
  rcases h3 with h3 | ⟨g, off, rfl, hg, hc⟩
  · cases h3
  · have := hc 0 (by simp)
    simp only [Nat.zero_mul, Nat.add_zero, List.getElem_cons_zero] at this
    exact ⟨g, off, cap, rfl, h1, h2, hg, this⟩
theorem lnsAt.tail {W : World} {g off cap n : Nat} {x : Ln} {r : List Ln} (h : lnsAt W (.slice (some ⟨g, off, none⟩) n cap) (x :: r)) (hn : n = r.length + 1) : lnsAt W (.slice (some ⟨g, off + 3, none⟩) r.length (cap - 1)) r := by
  subst hn
  obtain ⟨ao, cap', e, h1, h2, h3⟩ := h
  cases e
  simp only [List.length_cons] at h1
  rcases h3 with h3 | ⟨g', off', e, hg, hc⟩
  · cases h3
  · cases e
    refine ⟨_, cap - 1, rfl, by omega, by omega, .inr ⟨g, off + 3, rfl, hg, fun i hi => ?_⟩⟩
    have := hc (i + 1) (by simpa using hi)
    simp only [List.getElem_cons_succ] at this
    rw [show off + 3 + i * 3 = off + (i + 1) * 3 by omega]
    exact this
theorem lnsAt.nil {W : World} (ao : Option Addr) (cap : Nat) (h : cap ≤ maxLen) : lnsAt W (.slice ao 0 cap) [] := ⟨ao, cap, rfl, Nat.zero_le _, h, .inl rfl⟩

/-- The lines of a header, and where what follows begins. -/
def headZ (l : List UInt8) (f t : Int) : List Ln := (linesZ l f t).take (eI (linesZ l f t))
def behindN (ls : List Ln) (t : Nat) : Nat := if h : eI ls < ls.length then (ls[eI ls]).n else t
theorem eI_le (ls : List Ln) : eI ls ≤ ls.length := List.findIdx_le_length

set_option maxHeartbeats 2000000 in
theorem linesOf_no (v : Value) (l : List UInt8) (f t : Int) (w : World) (hv : bytesArg w v l) (hw : withinB f t l.length = false) :
    Calls Tryz.prog 38 #[v, .agg #[.int .i64 f, .int .i64 t]] w fun e w' => e = .returned (.tuple #[.slice none 0 0, .int .i64 f]) ∧ Below w.heap.size w w' := by
  obtain ⟨ao, cap, rfl, hc, hm, hs⟩ := hv
  have HW := Lib.hid (fun W => within_any f t (l.length : Int) W)
  rw [hw] at HW
  clear hw hs
  go_enter Tryz.func38, Tryz.ntmps38
  go_wp2_with fail
  with_reducible refine (HW.out _).mono ?_
  rintro e w1 ⟨rfl, hb1⟩
  obtain ⟨c0, c1⟩ := box2_cells hb1
  have HB1 : Hid (Below w.heap.size w w1) := ((Below.refl _ _).alloc (Nat.le_refl _) _).trans (hb1.mono (by simp))
  clear hb1
  go_wp2_with fail
  go_quiet (fail)
  go_wp2
  go_ret2
  exact ⟨rfl, HB1.out.trans ((below_drewN' _).mono HB1.out.size)⟩

theorem linesZ_yes (l : List UInt8) {f t : Int} (hw : withinB f t l.length = true) : linesZ l f t = linesS l f.toNat t.toNat := by
  unfold linesZ
  rw [if_pos hw]
def headPost (ls : List Ln) (t : Nat) (w : World) (e : Ending) (w' : World) : Prop :=
  ∃ u, e = .returned (.tuple #[u, .int .i64 (behindN ls t : Int)]) ∧ lnsAt w' u (ls.take (eI ls)) ∧ Below w.heap.size w w'
set_option maxHeartbeats 2000000 in
theorem linesOf_yes (v : Value) (l : List UInt8) (f t : Nat) (w : World) (hv : bytesArg w v l) (hft : f ≤ t) (htl : t ≤ l.length) (hbig : l.length ≤ 1048576) :
    Calls Tryz.prog 38 #[v, .agg #[.int .i64 (f : Int), .int .i64 (t : Int)]] w (headPost (linesS l f t) t w) := by
  have HV := Lib.hid hv
  obtain ⟨ao, cap, rfl, hc, hm, hs⟩ := hv
  have hw : withinB (f : Int) (t : Int) l.length = true := withinB_yes (by omega)
  have HW := Lib.hid (fun W => within_any (f : Int) (t : Int) (l.length : Int) W)
  rw [hw] at HW
  have HO := Lib.hid (fun W h => of_any (.slice ao l.length cap) l (f : Int) (t : Int) W h hbig)
  rw [linesZ_yes l hw] at HO
  simp only [Int.toNat_natCast] at HO
  obtain ⟨ls, hls⟩ : ∃ ls, ls = linesS l f t := ⟨_, rfl⟩
  rw [← hls] at HO ⊢
  have hll : ls.length ≤ 1048576 := by rw [hls]; have := linesS_len l f t; omega
  have HEm := Lib.hid (fun W v h => empty_any v ls W h)
  unfold emptyS at HEm
  clear hw hs hls
  go_enter Tryz.func38, Tryz.ntmps38
  go_wp2_with fail
  with_reducible refine (HW.out _).mono ?_
  rintro e w1 ⟨rfl, hb1⟩
  obtain ⟨c0, c1⟩ := box2_cells hb1
  have HB1 : Hid (Below w.heap.size w w1) := ((Below.refl _ _).alloc (Nat.le_refl _) _).trans (hb1.mono (by simp))
  clear hb1
  go_wp2_with fail
  with_reducible refine (HO.out _ ?h1).mono ?_
  case h1 => exact bytesArg.below HV.out HB1.out
  rintro e w2 ⟨u, rfl, hown, hb2⟩
  have HB2 : Hid (Below w.heap.size w w2) := HB1.out.trans (hb2.mono HB1.out.size)
  have hlt : w.heap.size < w1.heap.size := World.block_lt_of_cell? _ _ c0
  replace c0 := (hb2.cell (p := ⟨w.heap.size, 0, none⟩) hlt).trans c0
  replace c1 := (hb2.cell (p := ⟨w.heap.size, 1, none⟩) hlt).trans c1
  have hlt2 : w.heap.size < w2.heap.size := Nat.lt_of_lt_of_le hlt hb2.size
  have HR : Hid (rowLn w2 u ls) := rowLn_owned hown
  clear hb2 hown hlt HW HO HV HB1
  go_wp2_with fail
  with_reducible refine (HEm.out _ _ HR.out).mono ?_
  rintro e w3 ⟨rfl, hb3⟩
  have HB3 : Hid (Below w.heap.size w w3) := HB2.out.trans (hb3.mono HB2.out.size)
  have HR3 : Hid (rowLn w3 u ls) := HR.out.below hb3
  replace c0 := (hb3.cell (p := ⟨w.heap.size, 0, none⟩) hlt2).trans c0
  replace c1 := (hb3.cell (p := ⟨w.heap.size, 1, none⟩) hlt2).trans c1
  clear hb3 HR HEm HB2 hlt2
  obtain ⟨uo, uc, rfl, huc, hum, hucell⟩ := HR3.out.at
  unfold maxLen at hum
  obtain ⟨K, hK⟩ : ∃ K, K = eI ls := ⟨_, rfl⟩
  by_cases hk : K < ls.length
  · have HT : Hid (lnsAt w3 (.slice uo K uc) (ls.take (eI ls))) := by rw [hK]; exact HR3.out.take (eI_le ls)
    obtain ⟨g, rfl, hg, d0, d1, d2⟩ := hucell K hk
    obtain ⟨N, hN⟩ : ∃ N, N = (ls[K]).n := ⟨_, rfl⟩
    have HN : Hid (behindN ls t = N) := by
      unfold Hid behindN
      rw [dif_pos (by omega), hN]
      congr 2
      exact hK.symm
    rw [← hN] at d2
    rw [← hK, if_pos hk]
    clear hK hN hucell d0 d1
    go_wp2_with fail
    go_quiet (fail)
    go_wp2
    go_ret2
    refine ⟨_, by rw [HN.out]; rfl, lnsAt.below HT.out (below_drewN' _), HB3.out.trans ((below_drewN' _).mono HB3.out.size)⟩
  · have HT : Hid (lnsAt w3 (.slice uo ls.length uc) (ls.take (eI ls))) := by
      have := HR3.out.take (eI_le ls)
      have e : eI ls = ls.length := by have := eI_le ls; omega
      rwa [e] at this ⊢
    have HN : Hid (behindN ls t = t) := by
      unfold Hid behindN
      rw [dif_neg (by omega)]
    rw [← hK, if_neg hk]
    clear hK hucell
    go_wp2_with fail
    go_quiet (fail)
    go_wp2
    go_ret2
    refine ⟨_, by rw [HN.out]; rfl, lnsAt.below HT.out (below_drewN' _), HB3.out.trans ((below_drewN' _).mono HB3.out.size)⟩
end Go.Proofs.YtbphnlaoiikebaaGreatDoor
