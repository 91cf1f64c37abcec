/- Contracts of package header: begun. -/
import Derived.Test.YtfgppamhbchhcaaGreatDoorGb07
namespace Go.Proofs.YtfgppamhbchhcaaGreatDoor
open Go Go.RowKit

def fldV (x : Fld) : Value := .agg #[.string ⟨x.nm.toArray⟩, .int .i64 (x.f : Int), .int .i64 (x.b : Int), .int .i64 (x.t : Int)]
def fldC (x : Fld) : List Value := [.string ⟨x.nm.toArray⟩, .int .i64 (x.f : Int), .int .i64 (x.b : Int), .int .i64 (x.t : Int)]
def noFldV : Value := .agg #[.string ⟨#[]⟩, .int .i64 0, .int .i64 0, .int .i64 0]

theorem bcell {W w1 : World} (hb : Below W.heap.size W w1) : (∀ b o, b < W.heap.size → w1.cell? ⟨b, o, none⟩ = W.cell? ⟨b, o, none⟩) ∧ (∀ b o, b < W.heap.size → w1.frozen? ⟨b, o, none⟩ = W.frozen? ⟨b, o, none⟩) :=
  ⟨fun b o h => hb.cell (p := ⟨b, o, none⟩) h, fun b o h => hb.frozen (p := ⟨b, o, none⟩) h⟩
set_option maxHeartbeats 2000000 in
theorem begun_some (v : Value) (l : List UInt8) (x : Ln) (f : Fld) (w : World) (hv : bytesArg w v l) (h1 : x.f ≤ x.t) (h2 : x.t ≤ l.length) (hbig : l.length ≤ 1048576) (hf : begunS l x = some f) :
    Calls Tryz.prog 37 #[v, lnV x] w fun e w' => e = .returned (.tuple #[fldV f, .bool true]) ∧ Below w.heap.size w w' := by
  have HV := Lib.hid hv
  obtain ⟨ao, cap, rfl, hc, hm, hs⟩ := hv
  clear hs
  have HT := Lib.hid (fun W h => text_any (.slice ao l.length cap) l (x.f : Int) (x.t : Int) (x.n : Int) W h)
  rw [textS_nat l h1 h2] at HT
  have hlen := textOf_len (l := l) (x := x) h2
  unfold begunS at hf
  split at hf
  case isFalse => cases hf
  case isTrue hcd =>
    obtain ⟨hcol, hnm⟩ := hcd
    obtain rfl := Option.some.inj hf
    obtain ⟨S, hS⟩ : ∃ S : ByteArray, S = ⟨(partS l x.f x.t).toArray⟩ := ⟨_, rfl⟩
    have hSl : S.data.toList = textOf l x := by rw [hS]; rfl
    have hSs : S.size = x.t - x.f := by rw [← len_toList, hSl]; exact hlen
    obtain ⟨k, hk⟩ : ∃ k, k = colI (textOf l x) := ⟨_, rfl⟩
    have HC := Lib.hid (fun W => cut_yes S W (by omega) k (by rw [hSl]; exact hk) (by omega))
    obtain ⟨N, hN⟩ : ∃ N : ByteArray, N = ⟨(nameS (textOf l x)).toArray⟩ := ⟨_, rfl⟩
    obtain ⟨A, hA⟩ : ∃ A : ByteArray, A = S.extract 0 k := ⟨_, rfl⟩
    have hA1 : A.size = k := by rw [hA, extract_size' _ _ _ (by omega)]; rfl
    have hTR : ∀ W, Calls Tryz.prog 52 #[.string A, .string ⟨#[32, 9]⟩] W fun e w' => e = .returned (.string N) ∧ Below W.heap.size W w' := by
      intro W
      have := Tryz.strings_TrimRight_blank A W (by omega)
      rw [hN]
      have e : A.data.toList = (textOf l x).take (colI (textOf l x)) := by rw [hA, extract_toList, hSl, ← hk]; rfl
      rw [e] at this
      exact this
    have HTR := Lib.hid hTR
    have hNl : N.data.toList = nameS (textOf l x) := by rw [hN]
    have hNs : N.size ≤ 9223372036854775807 := by
      rw [← len_toList, hNl]
      unfold nameS Lib.trimRightS
      have h5 := (List.dropWhile_suffix (p := fun b => ([32, 9] : List UInt8).contains b) (l := ((textOf l x).take (colI (textOf l x))).reverse)).length_le
      simp only [List.length_reverse, List.length_take] at h5 ⊢
      omega
    have HNm := Lib.hid (fun W => named_any N W hNs)
    rw [hNl, hnm] at HNm
    rw [← hS] at HT
    rw [← hA] at HC
    have HF : Hid (fldV ⟨nameS (textOf l x), x.f, x.f + colI (textOf l x) + 1, x.n⟩ = .agg #[.string N, .int .i64 (x.f : Int), .int .i64 ((x.f : Int) + (A.size : Int) + 1), .int .i64 (x.n : Int)]) := by
      unfold Hid fldV
      rw [hA1, ← hk, hN, show ((x.f + k + 1 : Nat) : Int) = (x.f : Int) + (k : Int) + 1 by omega]
    have hA2 : A.size ≤ 1048576 := by omega
    obtain ⟨z, hz⟩ : ∃ z : ByteArray, z = S.extract (k + 1) S.size := ⟨_, rfl⟩
    rw [← hz] at HC
    rw [HF.out]
    clear hA hA1 hN hNl hNs hTR hS hSl hSs hk hcol hnm hlen hz
    unfold lnV
    go_enter Tryz.func37, Tryz.ntmps37
    go_wp2_with fail
    with_reducible refine (HT.out _ ?h1).mono ?_
    case h1 => exact bytesArg.below HV.out (((Below.refl _ _).alloc (Nat.le_refl _) _).alloc (by simp) _)
    rintro e w1 ⟨rfl, hb1⟩
    have HB1 := Lib.hid hb1; clear hb1
    go_wp2_with fail
    with_reducible refine (HC.out _).mono ?_
    rintro e w2 ⟨rfl, hb2⟩
    have HB2 := Lib.hid (HB1.out.trans (hb2.mono HB1.out.size)); clear hb2
    go_wp2_with fail
    with_reducible refine (HTR.out _).mono ?_
    rintro e w3 ⟨rfl, hb3⟩
    have HB3 := Lib.hid (HB2.out.trans (hb3.mono HB2.out.size)); clear hb3
    go_wp2_with fail
    with_reducible refine (HNm.out _).mono ?_
    rintro e w4 ⟨rfl, rfl⟩
    obtain ⟨hc, hf⟩ := bcell HB3.out
    have hz : w.heap.size + 1 < w3.heap.size := by have := HB3.out.size; simp at this; omega
    have HBa : Hid (Below w.heap.size w w3) := (((Below.refl _ _).alloc (Nat.le_refl _) _).alloc (by simp) _).trans (HB3.out.mono (by simp; omega))
    clear HB1 HB2 HB3 HC HTR HNm HT HV
    go_wp2_with fail
    refine bodyPost_ret (v := .tuple #[.agg #[.string N, .int .i64 (x.f : Int), .int .i64 ((x.f : Int) + (A.size : Int) + 1), .int .i64 (x.n : Int)], .bool true]) (by simp [results, Tryz.results37, go_sem, hc]) rfl ⟨rfl, ?_⟩
    exact ((((HBa.out.setCell (by simp) _).setCell (by simp) _).setCell (by simp) _).setCell (by simp) _)
set_option maxHeartbeats 2000000 in
theorem begun_noName (v : Value) (l : List UInt8) (x : Ln) (w : World) (hv : bytesArg w v l) (h1 : x.f ≤ x.t) (h2 : x.t ≤ l.length) (hbig : l.length ≤ 1048576) (hcol : colI (textOf l x) < (textOf l x).length) (hnm : namedB (nameS (textOf l x)) = false) :
    Calls Tryz.prog 37 #[v, lnV x] w fun e w' => e = .returned (.tuple #[noFldV, .bool false]) ∧ Below w.heap.size w w' := by
  have HV := Lib.hid hv
  obtain ⟨ao, cap, rfl, hc, hm, hs⟩ := hv
  clear hs
  have HT := Lib.hid (fun W h => text_any (.slice ao l.length cap) l (x.f : Int) (x.t : Int) (x.n : Int) W h)
  rw [textS_nat l h1 h2] at HT
  have hlen := textOf_len (l := l) (x := x) h2
  obtain ⟨S, hS⟩ : ∃ S : ByteArray, S = ⟨(partS l x.f x.t).toArray⟩ := ⟨_, rfl⟩
  have hSl : S.data.toList = textOf l x := by rw [hS]; rfl
  have hSs : S.size = x.t - x.f := by rw [← len_toList, hSl]; exact hlen
  obtain ⟨k, hk⟩ : ∃ k, k = colI (textOf l x) := ⟨_, rfl⟩
  have HC := Lib.hid (fun W => cut_yes S W (by omega) k (by rw [hSl]; exact hk) (by omega))
  obtain ⟨N, hN⟩ : ∃ N : ByteArray, N = ⟨(nameS (textOf l x)).toArray⟩ := ⟨_, rfl⟩
  obtain ⟨A, hA⟩ : ∃ A : ByteArray, A = S.extract 0 k := ⟨_, rfl⟩
  have hA1 : A.size = k := by rw [hA, extract_size' _ _ _ (by omega)]; rfl
  have hTR : ∀ W, Calls Tryz.prog 52 #[.string A, .string ⟨#[32, 9]⟩] W fun e w' => e = .returned (.string N) ∧ Below W.heap.size W w' := by
    intro W
    have := Tryz.strings_TrimRight_blank A W (by omega)
    rw [hN]
    have e : A.data.toList = (textOf l x).take (colI (textOf l x)) := by rw [hA, extract_toList, hSl, ← hk]; rfl
    rw [e] at this
    exact this
  have HTR := Lib.hid hTR
  have hNl : N.data.toList = nameS (textOf l x) := by rw [hN]
  have hNs : N.size ≤ 9223372036854775807 := by
    rw [← len_toList, hNl]
    unfold nameS Lib.trimRightS
    have h5 := (List.dropWhile_suffix (p := fun b => ([32, 9] : List UInt8).contains b) (l := ((textOf l x).take (colI (textOf l x))).reverse)).length_le
    simp only [List.length_reverse, List.length_take] at h5 ⊢
    omega
  have HNm := Lib.hid (fun W => named_any N W hNs)
  rw [hNl, hnm] at HNm
  rw [← hS] at HT
  rw [← hA] at HC
  have hA2 : A.size ≤ 1048576 := by omega
  obtain ⟨z, hz⟩ : ∃ z : ByteArray, z = S.extract (k + 1) S.size := ⟨_, rfl⟩
  rw [← hz] at HC
  clear hA hA1 hN hNl hNs hTR hS hSl hSs hk hcol hnm hlen hz
  unfold lnV
  go_enter Tryz.func37, Tryz.ntmps37
  go_wp2_with fail
  with_reducible refine (HT.out _ ?h1).mono ?_
  case h1 => exact bytesArg.below HV.out (((Below.refl _ _).alloc (Nat.le_refl _) _).alloc (by simp) _)
  rintro e w1 ⟨rfl, hb1⟩
  have HB1 := Lib.hid hb1; clear hb1
  go_wp2_with fail
  with_reducible refine (HC.out _).mono ?_
  rintro e w2 ⟨rfl, hb2⟩
  have HB2 := Lib.hid (HB1.out.trans (hb2.mono HB1.out.size)); clear hb2
  go_wp2_with fail
  with_reducible refine (HTR.out _).mono ?_
  rintro e w3 ⟨rfl, hb3⟩
  have HB3 := Lib.hid (HB2.out.trans (hb3.mono HB2.out.size)); clear hb3
  go_wp2_with fail
  with_reducible refine (HNm.out _).mono ?_
  rintro e w4 ⟨rfl, rfl⟩
  obtain ⟨hc, hf⟩ := bcell HB3.out
  have hz : w.heap.size + 1 < w3.heap.size := by have := HB3.out.size; simp at this; omega
  have HBa : Hid (Below w.heap.size w w3) := (((Below.refl _ _).alloc (Nat.le_refl _) _).alloc (by simp) _).trans (HB3.out.mono (by simp; omega))
  clear HB1 HB2 HB3 HC HTR HNm HT HV
  go_wp2_with fail
  refine bodyPost_ret (v := .tuple #[.agg #[.string ⟨#[]⟩, .int .i64 0, .int .i64 0, .int .i64 0], .bool false]) (by simp [results, Tryz.results37, go_sem, hc]) rfl ⟨rfl, ?_⟩
  exact ((((HBa.out.setCell (by simp) _).setCell (by simp) _).setCell (by simp) _).setCell (by simp) _)
set_option maxHeartbeats 2000000 in
theorem begun_noCol (v : Value) (l : List UInt8) (x : Ln) (w : World) (hv : bytesArg w v l) (h1 : x.f ≤ x.t) (h2 : x.t ≤ l.length) (hbig : l.length ≤ 1048576) (hcol : ¬ colI (textOf l x) < (textOf l x).length) :
    Calls Tryz.prog 37 #[v, lnV x] w fun e w' => e = .returned (.tuple #[noFldV, .bool false]) ∧ Below w.heap.size w w' := by
  have HV := Lib.hid hv
  obtain ⟨ao, cap, rfl, hc, hm, hs⟩ := hv
  clear hs
  have HT := Lib.hid (fun W h => text_any (.slice ao l.length cap) l (x.f : Int) (x.t : Int) (x.n : Int) W h)
  rw [textS_nat l h1 h2] at HT
  have hlen := textOf_len (l := l) (x := x) h2
  obtain ⟨S, hS⟩ : ∃ S : ByteArray, S = ⟨(partS l x.f x.t).toArray⟩ := ⟨_, rfl⟩
  have hSl : S.data.toList = textOf l x := by rw [hS]; rfl
  have hSs : S.size = x.t - x.f := by rw [← len_toList, hSl]; exact hlen
  have HC := Lib.hid (fun W => cut_no S W (by rw [hSl, ← len_toList, hSl]; exact hcol))
  obtain ⟨N, hN⟩ : ∃ N : ByteArray, N = ⟨(Lib.trimRightS S.data.toList [32, 9]).toArray⟩ := ⟨_, rfl⟩
  have HTR := Lib.hid (fun W => Tryz.strings_TrimRight_blank S W (by omega))
  rw [← hS] at HT
  rw [← hN] at HTR
  clear hN hS hSl hSs hcol hlen
  unfold lnV
  go_enter Tryz.func37, Tryz.ntmps37
  go_wp2_with fail
  with_reducible refine (HT.out _ ?h1).mono ?_
  case h1 => exact bytesArg.below HV.out (((Below.refl _ _).alloc (Nat.le_refl _) _).alloc (by simp) _)
  rintro e w1 ⟨rfl, hb1⟩
  have HB1 := Lib.hid hb1; clear hb1
  go_wp2_with fail
  with_reducible refine (HC.out _).mono ?_
  rintro e w2 ⟨rfl, hb2⟩
  have HB2 := Lib.hid (HB1.out.trans (hb2.mono HB1.out.size)); clear hb2
  go_wp2_with fail
  with_reducible refine (HTR.out _).mono ?_
  rintro e w3 ⟨rfl, hb3⟩
  have HB3 := Lib.hid (HB2.out.trans (hb3.mono HB2.out.size)); clear hb3
  obtain ⟨hc, hf⟩ := bcell HB3.out
  have hz : w.heap.size + 1 < w3.heap.size := by have := HB3.out.size; simp at this; omega
  have HBa : Hid (Below w.heap.size w w3) := (((Below.refl _ _).alloc (Nat.le_refl _) _).alloc (by simp) _).trans (HB3.out.mono (by simp; omega))
  clear HB1 HB2 HB3 HC HTR HT HV
  go_wp2_with fail
  refine bodyPost_ret (v := .tuple #[.agg #[.string ⟨#[]⟩, .int .i64 0, .int .i64 0, .int .i64 0], .bool false]) (by simp [results, Tryz.results37, go_sem, hc]) rfl ⟨rfl, ?_⟩
  exact ((((HBa.out.setCell (by simp) _).setCell (by simp) _).setCell (by simp) _).setCell (by simp) _)
theorem begun_none (v : Value) (l : List UInt8) (x : Ln) (w : World) (hv : bytesArg w v l) (h1 : x.f ≤ x.t) (h2 : x.t ≤ l.length) (hbig : l.length ≤ 1048576) (hf : begunS l x = none) :
    Calls Tryz.prog 37 #[v, lnV x] w fun e w' => e = .returned (.tuple #[noFldV, .bool false]) ∧ Below w.heap.size w w' := by
  unfold begunS at hf
  split at hf
  case isTrue => cases hf
  case isFalse hcd =>
    by_cases hcol : colI (textOf l x) < (textOf l x).length
    · exact begun_noName v l x w hv h1 h2 hbig hcol (by
        rcases Bool.eq_false_or_eq_true (namedB (nameS (textOf l x))) with h | h
        · exact absurd ⟨hcol, h⟩ hcd
        · exact h)
    · exact begun_noCol v l x w hv h1 h2 hbig hcol
end Go.Proofs.YtfgppamhbchhcaaGreatDoor
