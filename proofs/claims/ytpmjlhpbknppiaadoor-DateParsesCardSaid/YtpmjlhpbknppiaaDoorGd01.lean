/- Contracts of package date: ParseDay. -/
import Derived.Test.YtpmjlhpbknppiaaDoorDtT
import Derived.Test.YtpmjlhpbknppiaaDoorDtL
import Derived.Test.YtpmjlhpbknppiaaDoorDtS
namespace Go.Proofs.YtpmjlhpbknppiaaDoor
open Go Go.RowKit

def tau3 (P : Nat) : Tg := [(P, 0), (P, 1), (P, 2)]
theorem tau3_mem {P : Nat} {a : Nat × Nat} (h : a ∈ tau3 P) : a.1 = P ∧ a.2 < 3 := by
  unfold tau3 at h
  simp only [List.mem_cons, List.not_mem_nil, or_false] at h
  rcases h with rfl | rfl | rfl <;> simp
theorem tau3_holds (w : World) (t : TypeId) : Holds (tau3 w.heap.size) (w.alloc (.cells #[.int .i64 0, .int .i64 0, .int .i64 0] t)) (fun _ => 0) := by
  intro a ha
  obtain ⟨h1, h2⟩ := tau3_mem ha
  obtain ⟨b, i⟩ := a
  simp only at h1 h2 ⊢
  subst h1
  refine ⟨?_, World.frozen?_alloc_new w _ _ _⟩
  simp only [World.cell?, heap_alloc_new]
  match i, h2 with
  | 0, _ => rfl
  | 1, _ => rfl
  | 2, _ => rfl
theorem tau3_low (P : Nat) {n : Nat} (h : P < n) : Low (tau3 P) n := fun a ha => by rw [(tau3_mem ha).1]; exact h
theorem tau3_off (P : Nat) {k : Nat} (h : k ≠ P) : Off (tau3 P) k := fun a ha e => h (by rw [← e]; exact (tau3_mem ha).1)
theorem tau3_below {P : Nat} {w W : World} {base : Nat} (h : Lt (tau3 P) w W) (hb : base ≤ P) (hs : base ≤ w.heap.size) : Below base w W :=
  h.below (fun a ha => by rw [(tau3_mem ha).1]; exact hb) hs
theorem tau3_row {P : Nat} {W : World} {σ : Sg} {p : Nat × Nat × Nat} (hh : Holds (tau3 P) W σ) (hf : FldD P σ p) :
    W.cell? ⟨P, 0, none⟩ = some (.int .i64 (p.1 : Int)) ∧ W.cell? ⟨P, 1, none⟩ = some (.int .i64 (p.2.1 : Int)) ∧ W.cell? ⟨P, 2, none⟩ = some (.int .i64 (p.2.2 : Int)) := by
  obtain ⟨f0, f1, f2⟩ := hf
  refine ⟨?_, ?_, ?_⟩
  · rw [← f0]; exact (hh (P, 0) (by simp [tau3])).1
  · rw [← f1]; exact (hh (P, 1) (by simp [tau3])).1
  · rw [← f2]; exact (hh (P, 2) (by simp [tau3])).1

set_option maxRecDepth 100000 in
set_option maxHeartbeats 8000000 in
theorem parseDay_any (s : ByteArray) (w : World) (hs : s.size ≤ 1000000000000) (hE : envD w) :
    Calls Tryd.prog 9 #[.string s] w fun e w' => e = .returned (numV' (parseDayK s.data.toList)) ∧ Below w.heap.size w w' := by
  have HEn := Lib.hid hE
  obtain ⟨P, hP⟩ : ∃ P, P = w.heap.size := ⟨_, rfl⟩
  obtain ⟨X2, hX2⟩ : ∃ X, X = w.alloc (.cells #[.int .i64 0, .int .i64 0, .int .i64 0] 38) := ⟨_, rfl⟩
  have HH : Hid (Holds (tau3 P) X2 (fun _ => 0)) := by rw [hP, hX2]; exact tau3_holds w _
  have hs2 : X2.heap.size = P + 1 := by rw [hX2, hP]; simp
  have HLow : Hid (Low (tau3 P) X2.heap.size) := tau3_low P (by rw [hs2]; exact Nat.lt_succ_self _)
  have HB2 : Hid (Below w.heap.size w X2) := by rw [hX2]; exact (Below.refl _ _).alloc (Nat.le_refl _) _
  have HPw : Hid (w.heap.size ≤ P) := Nat.le_of_eq hP.symm
  have HOm : Hid (Off (tau3 P) 0) := tau3_off P (by have := HEn.out.m.lt; omega)
  have HRow := Lib.hid (fun sv fs w h1 h2 => row_any (tau3 P) sv fs w h1 h2)
  have HEi := Lib.hid (fun sv fs w h1 h2 => either_any (tau3 P) sv fs w h1 h2)
  have HMk := Lib.hid (fun t w h1 => mark_any (tau3 P) t w h1)
  have HDg := Lib.hid (fun b i ha n k hk hn w hl => digits_mk (tau3 P) b i ha n k hk hn w hl)
  have HMn := Lib.hid (fun b i ha w hl hg hm => monthName_mk (tau3 P) b i ha w hl hg hm)
  have I0 : Hid ((P, 0) ∈ tau3 P) := by unfold Hid tau3; simp
  have I1 : Hid ((P, 1) ∈ tau3 P) := by unfold Hid tau3; simp
  have I2 : Hid ((P, 2) ∈ tau3 P) := by unfold Hid tau3; simp
  have HPX : Hid (P < X2.heap.size) := by unfold Hid; rw [hs2]; exact Nat.lt_succ_self _
  have HWh := Lib.hid (fun sv fs w hl hp σ s hh hs => whole_any (tau3 P) sv fs w hl hp σ s hh hs)
  unfold MakesP at HRow HEi HMk HDg HMn
  clear hE
  go_enter Tryd.func9, Tryd.ntmps9
  go_wp2_with fail
  rw [← hX2, ← hP]
  clear hX2 hP hs2
  go_wp2_with fail
  with_reducible refine (HDg.out _ _ I2.out 2 2 rfl (by omega) X2 HLow.out).mono ?_
  rintro e v1 ⟨g1, lb1, rfl, T1, hb⟩
  have hl : Lt (tau3 P) X2 v1 := Lt.of_below hb
  replace HB2 := Lib.hid (HB2.out.trans (hb.mono HB2.out.size))
  replace HLow := Lib.hid (HLow.out.mono hb.size)
  replace HH := Lib.hid (HH.out.below hb)
  replace HPX := Lib.hid (Nat.lt_of_lt_of_le HPX.out hb.size)
  clear hl hb
  replace T1 := Lib.hid T1
  go_wp2_with fail
  with_reducible refine (HDg.out _ _ I2.out 1 1 rfl (by omega) v1 HLow.out).mono ?_
  rintro e v2 ⟨g2, lb2, rfl, T2, hb⟩
  have hl : Lt (tau3 P) v1 v2 := Lt.of_below hb
  replace HB2 := Lib.hid (HB2.out.trans (hb.mono HB2.out.size))
  replace HLow := Lib.hid (HLow.out.mono hb.size)
  replace HH := Lib.hid (HH.out.below hb)
  replace HPX := Lib.hid (Nat.lt_of_lt_of_le HPX.out hb.size)
  replace T1 := Lib.hid (T1.out.lt hl)
  clear hl hb
  replace T2 := Lib.hid T2
  obtain ⟨v3, hw⟩ : ∃ W, W = v2.alloc (.cells #[.func (.func g1) #[] lb1, .func (.func g2) #[] lb2] 42) := ⟨_, rfl⟩
  have hb : Below v2.heap.size v2 v3 := by rw [hw]; exact (Below.refl _ _).alloc (Nat.le_refl _) _
  have hl : Lt (tau3 P) v2 v3 := Lt.of_below hb
  have S3 : Hid (Pcs (tau3 P) v3 (.slice (some ⟨v2.heap.size, 0, none⟩) 2 2) [digF 2 (P, 2), digF 1 (P, 2)]) := by rw [hw]; exact pcs_new HLow.out (PcL.cons T1.out (PcL.cons T2.out PcL.nil)) (by simp)
  clear T1
  clear T2
  replace HB2 := Lib.hid (HB2.out.trans (hb.mono HB2.out.size))
  replace HLow := Lib.hid (HLow.out.mono hb.size)
  replace HH := Lib.hid (HH.out.below hb)
  replace HPX := Lib.hid (Nat.lt_of_lt_of_le HPX.out hb.size)
  clear hl hb
  go_wp2_with fail
  rw [← hw]
  clear hw
  with_reducible refine (HEi.out _ _ v3 HLow.out S3.out).mono ?_
  rintro e v4 ⟨g4, lb4, rfl, T4, hb⟩
  have hl : Lt (tau3 P) v3 v4 := Lt.of_below hb
  replace HB2 := Lib.hid (HB2.out.trans (hb.mono HB2.out.size))
  replace HLow := Lib.hid (HLow.out.mono hb.size)
  replace HH := Lib.hid (HH.out.below hb)
  replace HPX := Lib.hid (Nat.lt_of_lt_of_le HPX.out hb.size)
  clear hl hb
  replace T4 := Lib.hid T4
  go_wp2_with fail
  with_reducible refine (HMk.out _ v4 HLow.out).mono ?_
  rintro e v5 ⟨g5, lb5, rfl, T5, hb⟩
  have hl : Lt (tau3 P) v4 v5 := Lt.of_below hb
  replace HB2 := Lib.hid (HB2.out.trans (hb.mono HB2.out.size))
  replace HLow := Lib.hid (HLow.out.mono hb.size)
  replace HH := Lib.hid (HH.out.below hb)
  replace HPX := Lib.hid (Nat.lt_of_lt_of_le HPX.out hb.size)
  replace T4 := Lib.hid (T4.out.lt hl)
  clear hl hb
  replace T5 := Lib.hid T5
  go_wp2_with fail
  with_reducible refine (HMn.out _ _ I1.out v5 HLow.out HOm.out (HEn.out.below HB2.out).m).mono ?_
  rintro e v6 ⟨g6, lb6, rfl, T6, hb⟩
  have hl : Lt (tau3 P) v5 v6 := Lt.of_below hb
  replace HB2 := Lib.hid (HB2.out.trans (hb.mono HB2.out.size))
  replace HLow := Lib.hid (HLow.out.mono hb.size)
  replace HH := Lib.hid (HH.out.below hb)
  replace HPX := Lib.hid (Nat.lt_of_lt_of_le HPX.out hb.size)
  replace T4 := Lib.hid (T4.out.lt hl)
  replace T5 := Lib.hid (T5.out.lt hl)
  clear hl hb
  replace T6 := Lib.hid T6
  go_wp2_with fail
  with_reducible refine (HMk.out _ v6 HLow.out).mono ?_
  rintro e v7 ⟨g7, lb7, rfl, T7, hb⟩
  have hl : Lt (tau3 P) v6 v7 := Lt.of_below hb
  replace HB2 := Lib.hid (HB2.out.trans (hb.mono HB2.out.size))
  replace HLow := Lib.hid (HLow.out.mono hb.size)
  replace HH := Lib.hid (HH.out.below hb)
  replace HPX := Lib.hid (Nat.lt_of_lt_of_le HPX.out hb.size)
  replace T4 := Lib.hid (T4.out.lt hl)
  replace T5 := Lib.hid (T5.out.lt hl)
  replace T6 := Lib.hid (T6.out.lt hl)
  clear hl hb
  replace T7 := Lib.hid T7
  go_wp2_with fail
  with_reducible refine (HDg.out _ _ I0.out 4 4 rfl (by omega) v7 HLow.out).mono ?_
  rintro e v8 ⟨g8, lb8, rfl, T8, hb⟩
  have hl : Lt (tau3 P) v7 v8 := Lt.of_below hb
  replace HB2 := Lib.hid (HB2.out.trans (hb.mono HB2.out.size))
  replace HLow := Lib.hid (HLow.out.mono hb.size)
  replace HH := Lib.hid (HH.out.below hb)
  replace HPX := Lib.hid (Nat.lt_of_lt_of_le HPX.out hb.size)
  replace T4 := Lib.hid (T4.out.lt hl)
  replace T5 := Lib.hid (T5.out.lt hl)
  replace T6 := Lib.hid (T6.out.lt hl)
  replace T7 := Lib.hid (T7.out.lt hl)
  clear hl hb
  replace T8 := Lib.hid T8
  obtain ⟨v9, hw⟩ : ∃ W, W = v8.alloc (.cells #[.func (.func g4) #[] lb4, .func (.func g5) #[] lb5, .func (.func g6) #[] lb6, .func (.func g7) #[] lb7, .func (.func g8) #[] lb8] 42) := ⟨_, rfl⟩
  have hb : Below v8.heap.size v8 v9 := by rw [hw]; exact (Below.refl _ _).alloc (Nat.le_refl _) _
  have hl : Lt (tau3 P) v8 v9 := Lt.of_below hb
  have S9 : Hid (Pcs (tau3 P) v9 (.slice (some ⟨v8.heap.size, 0, none⟩) 5 5) (bareP P)) := by rw [hw]; exact pcs_new HLow.out (PcL.cons T4.out (PcL.cons T5.out (PcL.cons T6.out (PcL.cons T7.out (PcL.cons T8.out PcL.nil))))) (by simp)
  clear T4
  clear T5
  clear T6
  clear T7
  clear T8
  replace HB2 := Lib.hid (HB2.out.trans (hb.mono HB2.out.size))
  replace HLow := Lib.hid (HLow.out.mono hb.size)
  replace HH := Lib.hid (HH.out.below hb)
  replace HPX := Lib.hid (Nat.lt_of_lt_of_le HPX.out hb.size)
  clear hl hb
  go_wp2_with fail
  rw [← hw]
  clear hw
  with_reducible refine (HRow.out _ _ v9 HLow.out S9.out).mono ?_
  rintro e v10 ⟨g10, lb10, rfl, T10, hb⟩
  have hl : Lt (tau3 P) v9 v10 := Lt.of_below hb
  replace HB2 := Lib.hid (HB2.out.trans (hb.mono HB2.out.size))
  replace HLow := Lib.hid (HLow.out.mono hb.size)
  replace HH := Lib.hid (HH.out.below hb)
  replace HPX := Lib.hid (Nat.lt_of_lt_of_le HPX.out hb.size)
  clear hl hb
  replace T10 := Lib.hid T10
  have K10 := T10
  obtain ⟨v11, hw⟩ : ∃ W, W = v10.alloc (.cells #[.func (.func g10) #[] lb10] 42) := ⟨_, rfl⟩
  have hb : Below v10.heap.size v10 v11 := by rw [hw]; exact (Below.refl _ _).alloc (Nat.le_refl _) _
  have hl : Lt (tau3 P) v10 v11 := Lt.of_below hb
  have S11 : Hid (Pcs (tau3 P) v11 (.slice (some ⟨v10.heap.size, 0, none⟩) 1 1) [rowF (bareP P)]) := by rw [hw]; exact pcs_new HLow.out (PcL.cons T10.out PcL.nil) (by simp)
  clear T10
  replace HB2 := Lib.hid (HB2.out.trans (hb.mono HB2.out.size))
  replace HLow := Lib.hid (HLow.out.mono hb.size)
  replace HH := Lib.hid (HH.out.below hb)
  replace HPX := Lib.hid (Nat.lt_of_lt_of_le HPX.out hb.size)
  replace K10 := Lib.hid (K10.out.lt hl)
  clear hl hb
  have hcase := day_cases P (fun _ => 0) s.data.toList
  have h1 := HWh.out _ [rowF (bareP P)] v11 HLow.out S11.out (fun _ => 0) s HH.out (by omega)
  rcases hr1 : wholeF [rowF (bareP P)] (fun _ => 0) s.data.toList with ⟨b1, σ1⟩
  rw [hr1] at h1 hcase
  have H1 := Lib.hid h1
  clear h1 hr1 S11
  go_wp2_with fail
  rw [← hw]
  clear hw
  rcases hcase with ⟨hb1, hfl⟩ | ⟨hb1, hcase⟩
  · subst hb1
    with_reducible refine H1.out.mono ?_
    rintro e w2 ⟨rfl, hk2, hh2⟩
    clear H1
    obtain ⟨p, hq, hfl⟩ := hfl
    obtain ⟨c0, c1, c2⟩ := tau3_row hh2 hfl
    obtain ⟨q0, q1, q2⟩ := dayQ_le hq
    have HK : Hid (parseDayK s.data.toList = numberK p.1 p.2.1 p.2.2) := by unfold Hid parseDayK; rw [hq]
    obtain ⟨y, mo, da⟩ := p
    simp only at c0 c1 c2 q0 q1 q2 HK
    have HNu := Lib.hid (fun w h => number_any' y mo da (by omega) q1 (by omega) w h)
    have HBx := Lib.hid (HB2.out.trans (tau3_below hk2 HPw.out HB2.out.size))
    have HEx := Lib.hid (HEn.out.below HBx.out)
    have hpx2 : P < w2.heap.size := Nat.lt_of_lt_of_le HPX.out hk2.size
    clear hq hfl hh2 hk2 q0 q1 q2
    go_wp2_with fail
    with_reducible refine (HNu.out _ HEx.out.m).mono ?_
    rintro e w3 ⟨rfl, hb3⟩
    have HBy := Lib.hid (HBx.out.trans (hb3.mono HBx.out.size))
    obtain ⟨R, hR⟩ : ∃ R, R = numberK y mo da := ⟨_, rfl⟩
    rw [← hR] at HK ⊢
    clear hb3 hR c0 c1 c2
    rcases R with _ | N
    · unfold numV'
      go_wp2_with fail
      go_ret2
      rw [HK.out]
      exact ⟨rfl, HBy.out⟩
    · unfold numV'
      go_wp2_with fail
      go_ret2
      rw [HK.out]
      exact ⟨rfl, HBy.out⟩
  · subst hb1
    with_reducible refine H1.out.mono ?_
    rintro e u1 ⟨rfl, hl, hh1⟩
    have hb : Below P v11 u1 := tau3_below hl (Nat.le_refl _) (Nat.le_of_lt HPX.out)
    replace HB2 := Lib.hid (HB2.out.trans (hb.mono HPw.out))
    replace HLow := Lib.hid (HLow.out.mono hl.size)
    replace HH := Lib.hid hh1
    replace HPX := Lib.hid (Nat.lt_of_lt_of_le HPX.out hl.size)
    replace K10 := Lib.hid (K10.out.lt hl)
    clear hl hb hh1 H1
    go_wp2_with fail
    with_reducible refine (HMk.out _ u1 HLow.out).mono ?_
    rintro e v101 ⟨g101, lb101, rfl, T101, hb⟩
    have hl : Lt (tau3 P) u1 v101 := Lt.of_below hb
    replace HB2 := Lib.hid (HB2.out.trans (hb.mono HB2.out.size))
    replace HLow := Lib.hid (HLow.out.mono hb.size)
    replace HH := Lib.hid (HH.out.below hb)
    replace HPX := Lib.hid (Nat.lt_of_lt_of_le HPX.out hb.size)
    replace K10 := Lib.hid (K10.out.lt hl)
    clear hl hb
    replace T101 := Lib.hid T101
    go_wp2_with fail
    with_reducible refine (HMk.out _ v101 HLow.out).mono ?_
    rintro e v102 ⟨g102, lb102, rfl, T102, hb⟩
    have hl : Lt (tau3 P) v101 v102 := Lt.of_below hb
    replace HB2 := Lib.hid (HB2.out.trans (hb.mono HB2.out.size))
    replace HLow := Lib.hid (HLow.out.mono hb.size)
    replace HH := Lib.hid (HH.out.below hb)
    replace HPX := Lib.hid (Nat.lt_of_lt_of_le HPX.out hb.size)
    replace K10 := Lib.hid (K10.out.lt hl)
    replace T101 := Lib.hid (T101.out.lt hl)
    clear hl hb
    replace T102 := Lib.hid T102
    have T10 := K10
    obtain ⟨v103, hw⟩ : ∃ W, W = v102.alloc (.cells #[.func (.func g101) #[] lb101, .func (.func g10) #[] lb10, .func (.func g102) #[] lb102] 42) := ⟨_, rfl⟩
    have hb : Below v102.heap.size v102 v103 := by rw [hw]; exact (Below.refl _ _).alloc (Nat.le_refl _) _
    have hl : Lt (tau3 P) v102 v103 := Lt.of_below hb
    have S103 : Hid (Pcs (tau3 P) v103 (.slice (some ⟨v102.heap.size, 0, none⟩) 3 3) (threeP P)) := by rw [hw]; exact pcs_new HLow.out (PcL.cons T101.out (PcL.cons T10.out (PcL.cons T102.out PcL.nil))) (by simp)
    clear T101
    clear T10
    clear T102
    replace HB2 := Lib.hid (HB2.out.trans (hb.mono HB2.out.size))
    replace HLow := Lib.hid (HLow.out.mono hb.size)
    replace HH := Lib.hid (HH.out.below hb)
    replace HPX := Lib.hid (Nat.lt_of_lt_of_le HPX.out hb.size)
    replace K10 := Lib.hid (K10.out.lt hl)
    clear hl hb
    have h2 := HWh.out _ (threeP P) v103 HLow.out S103.out σ1 s HH.out (by omega)
    rcases hr2 : wholeF (threeP P) σ1 s.data.toList with ⟨b2, σ2⟩
    try simp only at hcase
    rw [hr2] at h2 hcase
    have H2 := Lib.hid h2
    clear h2 hr2 S103
    go_wp2_with fail
    rw [← hw]
    clear hw
    rcases hcase with ⟨hb2, hfl⟩ | ⟨hb2, hno⟩
    · subst hb2
      with_reducible refine H2.out.mono ?_
      rintro e w2 ⟨rfl, hk2, hh2⟩
      clear H2
      obtain ⟨p, hq, hfl⟩ := hfl
      obtain ⟨c0, c1, c2⟩ := tau3_row hh2 hfl
      obtain ⟨q0, q1, q2⟩ := dayQ_le hq
      have HK : Hid (parseDayK s.data.toList = numberK p.1 p.2.1 p.2.2) := by unfold Hid parseDayK; rw [hq]
      obtain ⟨y, mo, da⟩ := p
      simp only at c0 c1 c2 q0 q1 q2 HK
      have HNu := Lib.hid (fun w h => number_any' y mo da (by omega) q1 (by omega) w h)
      have HBx := Lib.hid (HB2.out.trans (tau3_below hk2 HPw.out HB2.out.size))
      have HEx := Lib.hid (HEn.out.below HBx.out)
      have hpx2 : P < w2.heap.size := Nat.lt_of_lt_of_le HPX.out hk2.size
      clear hq hfl hh2 hk2 q0 q1 q2
      go_wp2_with fail
      with_reducible refine (HNu.out _ HEx.out.m).mono ?_
      rintro e w3 ⟨rfl, hb3⟩
      have HBy := Lib.hid (HBx.out.trans (hb3.mono HBx.out.size))
      obtain ⟨R, hR⟩ : ∃ R, R = numberK y mo da := ⟨_, rfl⟩
      rw [← hR] at HK ⊢
      clear hb3 hR c0 c1 c2
      rcases R with _ | N
      · unfold numV'
        go_wp2_with fail
        go_ret2
        rw [HK.out]
        exact ⟨rfl, HBy.out⟩
      · unfold numV'
        go_wp2_with fail
        go_ret2
        rw [HK.out]
        exact ⟨rfl, HBy.out⟩
    · subst hb2
      with_reducible refine H2.out.mono ?_
      rintro e w2 ⟨rfl, hk2, hh2⟩
      have HBx := Lib.hid (HB2.out.trans (tau3_below hk2 HPw.out HB2.out.size))
      have HK : Hid (parseDayK s.data.toList = none) := by unfold Hid parseDayK; rw [hno]
      clear H2 hk2 hh2 hno
      go_wp2_with fail
      go_ret2
      rw [HK.out]
      exact ⟨rfl, HBx.out⟩
end Go.Proofs.YtpmjlhpbknppiaaDoor

/- Contracts of package date: ParseInternal. -/
namespace Go.Proofs.YtpmjlhpbknppiaaDoor
open Go Go.RowKit

set_option maxRecDepth 100000 in
set_option maxHeartbeats 8000000 in
theorem parseInternal_any (s : ByteArray) (w : World) (hs : s.size ≤ 1000000000000) (hE : envD w) :
    Calls Tryd.prog 7 #[.string s] w fun e w' => e = .returned (momV (intK s.data.toList)) ∧ Below w.heap.size w w' := by
  have HEn := Lib.hid hE
  obtain ⟨X1, hX1⟩ : ∃ X1, X1 = w.alloc (.cells #[.int .i64 0, .int .i64 0] 24) := ⟨_, rfl⟩
  have HB1 : Hid (Below w.heap.size w X1) := by rw [hX1]; exact (Below.refl _ _).alloc (Nat.le_refl _) _
  have hs1 : X1.heap.size = w.heap.size + 1 := by rw [hX1]; simp
  have HRes1 : Hid (X1.heap[w.heap.size]? = some (.cells #[.int .i64 0, .int .i64 0] 24 (0, 0))) := by rw [hX1]; exact heap_alloc_new w _
  obtain ⟨P, hP⟩ : ∃ P, P = X1.heap.size := ⟨_, rfl⟩
  obtain ⟨X2, hX2⟩ : ∃ X, X = X1.alloc (.cells #[.int .i64 0, .int .i64 0, .int .i64 0, .int .i64 0, .int .i64 0, .int .i64 0, .int .i64 0] 40) := ⟨_, rfl⟩
  have HH : Hid (Holds (tau7 P) X2 (fun _ => 0)) := by rw [hP, hX2]; exact tau7_holds X1 _
  have hs2 : X2.heap.size = P + 1 := by rw [hX2, hP]; simp
  have HLow : Hid (Low (tau7 P) X2.heap.size) := tau7_low P (by rw [hs2]; exact Nat.lt_succ_self _)
  have hb12 : Below X1.heap.size X1 X2 := by rw [hX2]; exact (Below.refl _ _).alloc (Nat.le_refl _) _
  have HB2 : Hid (Below w.heap.size w X2) := HB1.out.trans (hb12.mono HB1.out.size)
  have HPw : Hid (w.heap.size < P) := by unfold Hid; omega
  have hPw : P = w.heap.size + 1 := by omega
  have HRes2 : Hid (X2.heap[w.heap.size]? = some (.cells #[.int .i64 0, .int .i64 0] 24 (0, 0))) := (hb12.block _ (by omega)).trans HRes1.out
  have HOm : Hid (Off (tau7 P) 0) := tau7_off P (by have := HEn.out.m.lt; have := HPw.out; omega)
  have HRow := Lib.hid (fun sv fs w h1 h2 => row_any (tau7 P) sv fs w h1 h2)
  have HEi := Lib.hid (fun sv fs w h1 h2 => either_any (tau7 P) sv fs w h1 h2)
  have HMk := Lib.hid (fun t w h1 => mark_any (tau7 P) t w h1)
  have HDg := Lib.hid (fun b i ha n k hk hn w hl => digits_mk (tau7 P) b i ha n k hk hn w hl)
  have HMn := Lib.hid (fun b i ha w hl hg hm => monthName_mk (tau7 P) b i ha w hl hg hm)
  have HAw := Lib.hid (fun b i ha w hl => away_mk (tau7 P) b i ha w hl)
  have I0 : Hid ((P, 0) ∈ tau7 P) := by unfold Hid tau7; simp
  have I1 : Hid ((P, 1) ∈ tau7 P) := by unfold Hid tau7; simp
  have I2 : Hid ((P, 2) ∈ tau7 P) := by unfold Hid tau7; simp
  have I3 : Hid ((P, 3) ∈ tau7 P) := by unfold Hid tau7; simp
  have I4 : Hid ((P, 4) ∈ tau7 P) := by unfold Hid tau7; simp
  have I5 : Hid ((P, 5) ∈ tau7 P) := by unfold Hid tau7; simp
  have I6 : Hid ((P, 6) ∈ tau7 P) := by unfold Hid tau7; simp
  have HPX : Hid (P < X2.heap.size) := by unfold Hid; rw [hs2]; exact Nat.lt_succ_self _
  have HWh := Lib.hid (fun sv fs w hl hp σ s hh hs => whole_any (tau7 P) sv fs w hl hp σ s hh hs)
  unfold MakesP at HRow HEi HMk HDg HMn HAw
  clear hb12 HRes1 HB1 hE
  go_enter Tryd.func7, Tryd.ntmps7
  go_wp2_with fail
  rw [← hX1, ← hX2, ← hPw]
  clear hX2 hX1 hPw hP hs1 hs2
  go_wp2_with fail
  with_reducible refine (HMk.out _ X2 HLow.out).mono ?_
  rintro e v1 ⟨g1, lb1, rfl, T1, hb⟩
  have hl : Lt (tau7 P) X2 v1 := Lt.of_below hb
  replace HB2 := Lib.hid (HB2.out.trans (hb.mono HB2.out.size))
  replace HLow := Lib.hid (HLow.out.mono hb.size)
  replace HH := Lib.hid (HH.out.below hb)
  replace HRes2 := Lib.hid ((hb.block _ (Nat.lt_trans HPw.out HPX.out)).trans HRes2.out)
  replace HPX := Lib.hid (Nat.lt_of_lt_of_le HPX.out hb.size)
  clear hl hb
  replace T1 := Lib.hid T1
  go_wp2_with fail
  with_reducible refine (HDg.out _ _ I2.out 2 2 rfl (by omega) v1 HLow.out).mono ?_
  rintro e v2 ⟨g2, lb2, rfl, T2, hb⟩
  have hl : Lt (tau7 P) v1 v2 := Lt.of_below hb
  replace HB2 := Lib.hid (HB2.out.trans (hb.mono HB2.out.size))
  replace HLow := Lib.hid (HLow.out.mono hb.size)
  replace HH := Lib.hid (HH.out.below hb)
  replace HRes2 := Lib.hid ((hb.block _ (Nat.lt_trans HPw.out HPX.out)).trans HRes2.out)
  replace HPX := Lib.hid (Nat.lt_of_lt_of_le HPX.out hb.size)
  replace T1 := Lib.hid (T1.out.lt hl)
  clear hl hb
  replace T2 := Lib.hid T2
  go_wp2_with fail
  with_reducible refine (HMk.out _ v2 HLow.out).mono ?_
  rintro e v3 ⟨g3, lb3, rfl, T3, hb⟩
  have hl : Lt (tau7 P) v2 v3 := Lt.of_below hb
  replace HB2 := Lib.hid (HB2.out.trans (hb.mono HB2.out.size))
  replace HLow := Lib.hid (HLow.out.mono hb.size)
  replace HH := Lib.hid (HH.out.below hb)
  replace HRes2 := Lib.hid ((hb.block _ (Nat.lt_trans HPw.out HPX.out)).trans HRes2.out)
  replace HPX := Lib.hid (Nat.lt_of_lt_of_le HPX.out hb.size)
  replace T1 := Lib.hid (T1.out.lt hl)
  replace T2 := Lib.hid (T2.out.lt hl)
  clear hl hb
  replace T3 := Lib.hid T3
  go_wp2_with fail
  with_reducible refine (HDg.out _ _ I2.out 1 1 rfl (by omega) v3 HLow.out).mono ?_
  rintro e v4 ⟨g4, lb4, rfl, T4, hb⟩
  have hl : Lt (tau7 P) v3 v4 := Lt.of_below hb
  replace HB2 := Lib.hid (HB2.out.trans (hb.mono HB2.out.size))
  replace HLow := Lib.hid (HLow.out.mono hb.size)
  replace HH := Lib.hid (HH.out.below hb)
  replace HRes2 := Lib.hid ((hb.block _ (Nat.lt_trans HPw.out HPX.out)).trans HRes2.out)
  replace HPX := Lib.hid (Nat.lt_of_lt_of_le HPX.out hb.size)
  replace T1 := Lib.hid (T1.out.lt hl)
  replace T2 := Lib.hid (T2.out.lt hl)
  replace T3 := Lib.hid (T3.out.lt hl)
  clear hl hb
  replace T4 := Lib.hid T4
  obtain ⟨v5, hw⟩ : ∃ W, W = v4.alloc (.cells #[.func (.func g3) #[] lb3, .func (.func g4) #[] lb4] 42) := ⟨_, rfl⟩
  have hb : Below v4.heap.size v4 v5 := by rw [hw]; exact (Below.refl _ _).alloc (Nat.le_refl _) _
  have hl : Lt (tau7 P) v4 v5 := Lt.of_below hb
  have S5 : Hid (Pcs (tau7 P) v5 (.slice (some ⟨v4.heap.size, 0, none⟩) 2 2) [markF [32], digF 1 (P, 2)]) := by rw [hw]; exact pcs_new HLow.out (PcL.cons T3.out (PcL.cons T4.out PcL.nil)) (by simp)
  clear T3
  clear T4
  replace HB2 := Lib.hid (HB2.out.trans (hb.mono HB2.out.size))
  replace HLow := Lib.hid (HLow.out.mono hb.size)
  replace HH := Lib.hid (HH.out.below hb)
  replace HRes2 := Lib.hid ((hb.block _ (Nat.lt_trans HPw.out HPX.out)).trans HRes2.out)
  replace HPX := Lib.hid (Nat.lt_of_lt_of_le HPX.out hb.size)
  replace T1 := Lib.hid (T1.out.lt hl)
  replace T2 := Lib.hid (T2.out.lt hl)
  clear hl hb
  go_wp2_with fail
  rw [← hw]
  clear hw
  with_reducible refine (HRow.out _ _ v5 HLow.out S5.out).mono ?_
  rintro e v6 ⟨g6, lb6, rfl, T6, hb⟩
  have hl : Lt (tau7 P) v5 v6 := Lt.of_below hb
  replace HB2 := Lib.hid (HB2.out.trans (hb.mono HB2.out.size))
  replace HLow := Lib.hid (HLow.out.mono hb.size)
  replace HH := Lib.hid (HH.out.below hb)
  replace HRes2 := Lib.hid ((hb.block _ (Nat.lt_trans HPw.out HPX.out)).trans HRes2.out)
  replace HPX := Lib.hid (Nat.lt_of_lt_of_le HPX.out hb.size)
  replace T1 := Lib.hid (T1.out.lt hl)
  replace T2 := Lib.hid (T2.out.lt hl)
  clear hl hb
  replace T6 := Lib.hid T6
  obtain ⟨v7, hw⟩ : ∃ W, W = v6.alloc (.cells #[.func (.func g2) #[] lb2, .func (.func g6) #[] lb6] 42) := ⟨_, rfl⟩
  have hb : Below v6.heap.size v6 v7 := by rw [hw]; exact (Below.refl _ _).alloc (Nat.le_refl _) _
  have hl : Lt (tau7 P) v6 v7 := Lt.of_below hb
  have S7 : Hid (Pcs (tau7 P) v7 (.slice (some ⟨v6.heap.size, 0, none⟩) 2 2) [digF 2 (P, 2), rowF [markF [32], digF 1 (P, 2)]]) := by rw [hw]; exact pcs_new HLow.out (PcL.cons T2.out (PcL.cons T6.out PcL.nil)) (by simp)
  clear T2
  clear T6
  replace HB2 := Lib.hid (HB2.out.trans (hb.mono HB2.out.size))
  replace HLow := Lib.hid (HLow.out.mono hb.size)
  replace HH := Lib.hid (HH.out.below hb)
  replace HRes2 := Lib.hid ((hb.block _ (Nat.lt_trans HPw.out HPX.out)).trans HRes2.out)
  replace HPX := Lib.hid (Nat.lt_of_lt_of_le HPX.out hb.size)
  replace T1 := Lib.hid (T1.out.lt hl)
  clear hl hb
  go_wp2_with fail
  rw [← hw]
  clear hw
  with_reducible refine (HEi.out _ _ v7 HLow.out S7.out).mono ?_
  rintro e v8 ⟨g8, lb8, rfl, T8, hb⟩
  have hl : Lt (tau7 P) v7 v8 := Lt.of_below hb
  replace HB2 := Lib.hid (HB2.out.trans (hb.mono HB2.out.size))
  replace HLow := Lib.hid (HLow.out.mono hb.size)
  replace HH := Lib.hid (HH.out.below hb)
  replace HRes2 := Lib.hid ((hb.block _ (Nat.lt_trans HPw.out HPX.out)).trans HRes2.out)
  replace HPX := Lib.hid (Nat.lt_of_lt_of_le HPX.out hb.size)
  replace T1 := Lib.hid (T1.out.lt hl)
  clear hl hb
  replace T8 := Lib.hid T8
  go_wp2_with fail
  with_reducible refine (HMk.out _ v8 HLow.out).mono ?_
  rintro e v9 ⟨g9, lb9, rfl, T9, hb⟩
  have hl : Lt (tau7 P) v8 v9 := Lt.of_below hb
  replace HB2 := Lib.hid (HB2.out.trans (hb.mono HB2.out.size))
  replace HLow := Lib.hid (HLow.out.mono hb.size)
  replace HH := Lib.hid (HH.out.below hb)
  replace HRes2 := Lib.hid ((hb.block _ (Nat.lt_trans HPw.out HPX.out)).trans HRes2.out)
  replace HPX := Lib.hid (Nat.lt_of_lt_of_le HPX.out hb.size)
  replace T1 := Lib.hid (T1.out.lt hl)
  replace T8 := Lib.hid (T8.out.lt hl)
  clear hl hb
  replace T9 := Lib.hid T9
  go_wp2_with fail
  with_reducible refine (HMn.out _ _ I1.out v9 HLow.out HOm.out (HEn.out.below HB2.out).m).mono ?_
  rintro e v10 ⟨g10, lb10, rfl, T10, hb⟩
  have hl : Lt (tau7 P) v9 v10 := Lt.of_below hb
  replace HB2 := Lib.hid (HB2.out.trans (hb.mono HB2.out.size))
  replace HLow := Lib.hid (HLow.out.mono hb.size)
  replace HH := Lib.hid (HH.out.below hb)
  replace HRes2 := Lib.hid ((hb.block _ (Nat.lt_trans HPw.out HPX.out)).trans HRes2.out)
  replace HPX := Lib.hid (Nat.lt_of_lt_of_le HPX.out hb.size)
  replace T1 := Lib.hid (T1.out.lt hl)
  replace T8 := Lib.hid (T8.out.lt hl)
  replace T9 := Lib.hid (T9.out.lt hl)
  clear hl hb
  replace T10 := Lib.hid T10
  go_wp2_with fail
  with_reducible refine (HMk.out _ v10 HLow.out).mono ?_
  rintro e v11 ⟨g11, lb11, rfl, T11, hb⟩
  have hl : Lt (tau7 P) v10 v11 := Lt.of_below hb
  replace HB2 := Lib.hid (HB2.out.trans (hb.mono HB2.out.size))
  replace HLow := Lib.hid (HLow.out.mono hb.size)
  replace HH := Lib.hid (HH.out.below hb)
  replace HRes2 := Lib.hid ((hb.block _ (Nat.lt_trans HPw.out HPX.out)).trans HRes2.out)
  replace HPX := Lib.hid (Nat.lt_of_lt_of_le HPX.out hb.size)
  replace T1 := Lib.hid (T1.out.lt hl)
  replace T8 := Lib.hid (T8.out.lt hl)
  replace T9 := Lib.hid (T9.out.lt hl)
  replace T10 := Lib.hid (T10.out.lt hl)
  clear hl hb
  replace T11 := Lib.hid T11
  go_wp2_with fail
  with_reducible refine (HDg.out _ _ I0.out 4 4 rfl (by omega) v11 HLow.out).mono ?_
  rintro e v12 ⟨g12, lb12, rfl, T12, hb⟩
  have hl : Lt (tau7 P) v11 v12 := Lt.of_below hb
  replace HB2 := Lib.hid (HB2.out.trans (hb.mono HB2.out.size))
  replace HLow := Lib.hid (HLow.out.mono hb.size)
  replace HH := Lib.hid (HH.out.below hb)
  replace HRes2 := Lib.hid ((hb.block _ (Nat.lt_trans HPw.out HPX.out)).trans HRes2.out)
  replace HPX := Lib.hid (Nat.lt_of_lt_of_le HPX.out hb.size)
  replace T1 := Lib.hid (T1.out.lt hl)
  replace T8 := Lib.hid (T8.out.lt hl)
  replace T9 := Lib.hid (T9.out.lt hl)
  replace T10 := Lib.hid (T10.out.lt hl)
  replace T11 := Lib.hid (T11.out.lt hl)
  clear hl hb
  replace T12 := Lib.hid T12
  go_wp2_with fail
  with_reducible refine (HMk.out _ v12 HLow.out).mono ?_
  rintro e v13 ⟨g13, lb13, rfl, T13, hb⟩
  have hl : Lt (tau7 P) v12 v13 := Lt.of_below hb
  replace HB2 := Lib.hid (HB2.out.trans (hb.mono HB2.out.size))
  replace HLow := Lib.hid (HLow.out.mono hb.size)
  replace HH := Lib.hid (HH.out.below hb)
  replace HRes2 := Lib.hid ((hb.block _ (Nat.lt_trans HPw.out HPX.out)).trans HRes2.out)
  replace HPX := Lib.hid (Nat.lt_of_lt_of_le HPX.out hb.size)
  replace T1 := Lib.hid (T1.out.lt hl)
  replace T8 := Lib.hid (T8.out.lt hl)
  replace T9 := Lib.hid (T9.out.lt hl)
  replace T10 := Lib.hid (T10.out.lt hl)
  replace T11 := Lib.hid (T11.out.lt hl)
  replace T12 := Lib.hid (T12.out.lt hl)
  clear hl hb
  replace T13 := Lib.hid T13
  go_wp2_with fail
  with_reducible refine (HDg.out _ _ I3.out 2 2 rfl (by omega) v13 HLow.out).mono ?_
  rintro e v14 ⟨g14, lb14, rfl, T14, hb⟩
  have hl : Lt (tau7 P) v13 v14 := Lt.of_below hb
  replace HB2 := Lib.hid (HB2.out.trans (hb.mono HB2.out.size))
  replace HLow := Lib.hid (HLow.out.mono hb.size)
  replace HH := Lib.hid (HH.out.below hb)
  replace HRes2 := Lib.hid ((hb.block _ (Nat.lt_trans HPw.out HPX.out)).trans HRes2.out)
  replace HPX := Lib.hid (Nat.lt_of_lt_of_le HPX.out hb.size)
  replace T1 := Lib.hid (T1.out.lt hl)
  replace T8 := Lib.hid (T8.out.lt hl)
  replace T9 := Lib.hid (T9.out.lt hl)
  replace T10 := Lib.hid (T10.out.lt hl)
  replace T11 := Lib.hid (T11.out.lt hl)
  replace T12 := Lib.hid (T12.out.lt hl)
  replace T13 := Lib.hid (T13.out.lt hl)
  clear hl hb
  replace T14 := Lib.hid T14
  go_wp2_with fail
  with_reducible refine (HMk.out _ v14 HLow.out).mono ?_
  rintro e v15 ⟨g15, lb15, rfl, T15, hb⟩
  have hl : Lt (tau7 P) v14 v15 := Lt.of_below hb
  replace HB2 := Lib.hid (HB2.out.trans (hb.mono HB2.out.size))
  replace HLow := Lib.hid (HLow.out.mono hb.size)
  replace HH := Lib.hid (HH.out.below hb)
  replace HRes2 := Lib.hid ((hb.block _ (Nat.lt_trans HPw.out HPX.out)).trans HRes2.out)
  replace HPX := Lib.hid (Nat.lt_of_lt_of_le HPX.out hb.size)
  replace T1 := Lib.hid (T1.out.lt hl)
  replace T8 := Lib.hid (T8.out.lt hl)
  replace T9 := Lib.hid (T9.out.lt hl)
  replace T10 := Lib.hid (T10.out.lt hl)
  replace T11 := Lib.hid (T11.out.lt hl)
  replace T12 := Lib.hid (T12.out.lt hl)
  replace T13 := Lib.hid (T13.out.lt hl)
  replace T14 := Lib.hid (T14.out.lt hl)
  clear hl hb
  replace T15 := Lib.hid T15
  go_wp2_with fail
  with_reducible refine (HDg.out _ _ I4.out 2 2 rfl (by omega) v15 HLow.out).mono ?_
  rintro e v16 ⟨g16, lb16, rfl, T16, hb⟩
  have hl : Lt (tau7 P) v15 v16 := Lt.of_below hb
  replace HB2 := Lib.hid (HB2.out.trans (hb.mono HB2.out.size))
  replace HLow := Lib.hid (HLow.out.mono hb.size)
  replace HH := Lib.hid (HH.out.below hb)
  replace HRes2 := Lib.hid ((hb.block _ (Nat.lt_trans HPw.out HPX.out)).trans HRes2.out)
  replace HPX := Lib.hid (Nat.lt_of_lt_of_le HPX.out hb.size)
  replace T1 := Lib.hid (T1.out.lt hl)
  replace T8 := Lib.hid (T8.out.lt hl)
  replace T9 := Lib.hid (T9.out.lt hl)
  replace T10 := Lib.hid (T10.out.lt hl)
  replace T11 := Lib.hid (T11.out.lt hl)
  replace T12 := Lib.hid (T12.out.lt hl)
  replace T13 := Lib.hid (T13.out.lt hl)
  replace T14 := Lib.hid (T14.out.lt hl)
  replace T15 := Lib.hid (T15.out.lt hl)
  clear hl hb
  replace T16 := Lib.hid T16
  go_wp2_with fail
  with_reducible refine (HMk.out _ v16 HLow.out).mono ?_
  rintro e v17 ⟨g17, lb17, rfl, T17, hb⟩
  have hl : Lt (tau7 P) v16 v17 := Lt.of_below hb
  replace HB2 := Lib.hid (HB2.out.trans (hb.mono HB2.out.size))
  replace HLow := Lib.hid (HLow.out.mono hb.size)
  replace HH := Lib.hid (HH.out.below hb)
  replace HRes2 := Lib.hid ((hb.block _ (Nat.lt_trans HPw.out HPX.out)).trans HRes2.out)
  replace HPX := Lib.hid (Nat.lt_of_lt_of_le HPX.out hb.size)
  replace T1 := Lib.hid (T1.out.lt hl)
  replace T8 := Lib.hid (T8.out.lt hl)
  replace T9 := Lib.hid (T9.out.lt hl)
  replace T10 := Lib.hid (T10.out.lt hl)
  replace T11 := Lib.hid (T11.out.lt hl)
  replace T12 := Lib.hid (T12.out.lt hl)
  replace T13 := Lib.hid (T13.out.lt hl)
  replace T14 := Lib.hid (T14.out.lt hl)
  replace T15 := Lib.hid (T15.out.lt hl)
  replace T16 := Lib.hid (T16.out.lt hl)
  clear hl hb
  replace T17 := Lib.hid T17
  go_wp2_with fail
  with_reducible refine (HDg.out _ _ I5.out 2 2 rfl (by omega) v17 HLow.out).mono ?_
  rintro e v18 ⟨g18, lb18, rfl, T18, hb⟩
  have hl : Lt (tau7 P) v17 v18 := Lt.of_below hb
  replace HB2 := Lib.hid (HB2.out.trans (hb.mono HB2.out.size))
  replace HLow := Lib.hid (HLow.out.mono hb.size)
  replace HH := Lib.hid (HH.out.below hb)
  replace HRes2 := Lib.hid ((hb.block _ (Nat.lt_trans HPw.out HPX.out)).trans HRes2.out)
  replace HPX := Lib.hid (Nat.lt_of_lt_of_le HPX.out hb.size)
  replace T1 := Lib.hid (T1.out.lt hl)
  replace T8 := Lib.hid (T8.out.lt hl)
  replace T9 := Lib.hid (T9.out.lt hl)
  replace T10 := Lib.hid (T10.out.lt hl)
  replace T11 := Lib.hid (T11.out.lt hl)
  replace T12 := Lib.hid (T12.out.lt hl)
  replace T13 := Lib.hid (T13.out.lt hl)
  replace T14 := Lib.hid (T14.out.lt hl)
  replace T15 := Lib.hid (T15.out.lt hl)
  replace T16 := Lib.hid (T16.out.lt hl)
  replace T17 := Lib.hid (T17.out.lt hl)
  clear hl hb
  replace T18 := Lib.hid T18
  go_wp2_with fail
  with_reducible refine (HMk.out _ v18 HLow.out).mono ?_
  rintro e v19 ⟨g19, lb19, rfl, T19, hb⟩
  have hl : Lt (tau7 P) v18 v19 := Lt.of_below hb
  replace HB2 := Lib.hid (HB2.out.trans (hb.mono HB2.out.size))
  replace HLow := Lib.hid (HLow.out.mono hb.size)
  replace HH := Lib.hid (HH.out.below hb)
  replace HRes2 := Lib.hid ((hb.block _ (Nat.lt_trans HPw.out HPX.out)).trans HRes2.out)
  replace HPX := Lib.hid (Nat.lt_of_lt_of_le HPX.out hb.size)
  replace T1 := Lib.hid (T1.out.lt hl)
  replace T8 := Lib.hid (T8.out.lt hl)
  replace T9 := Lib.hid (T9.out.lt hl)
  replace T10 := Lib.hid (T10.out.lt hl)
  replace T11 := Lib.hid (T11.out.lt hl)
  replace T12 := Lib.hid (T12.out.lt hl)
  replace T13 := Lib.hid (T13.out.lt hl)
  replace T14 := Lib.hid (T14.out.lt hl)
  replace T15 := Lib.hid (T15.out.lt hl)
  replace T16 := Lib.hid (T16.out.lt hl)
  replace T17 := Lib.hid (T17.out.lt hl)
  replace T18 := Lib.hid (T18.out.lt hl)
  clear hl hb
  replace T19 := Lib.hid T19
  go_wp2_with fail
  with_reducible refine (HAw.out _ _ I6.out v19 HLow.out).mono ?_
  rintro e v20 ⟨g20, lb20, rfl, T20, hb⟩
  have hl : Lt (tau7 P) v19 v20 := Lt.of_below hb
  replace HB2 := Lib.hid (HB2.out.trans (hb.mono HB2.out.size))
  replace HLow := Lib.hid (HLow.out.mono hb.size)
  replace HH := Lib.hid (HH.out.below hb)
  replace HRes2 := Lib.hid ((hb.block _ (Nat.lt_trans HPw.out HPX.out)).trans HRes2.out)
  replace HPX := Lib.hid (Nat.lt_of_lt_of_le HPX.out hb.size)
  replace T1 := Lib.hid (T1.out.lt hl)
  replace T8 := Lib.hid (T8.out.lt hl)
  replace T9 := Lib.hid (T9.out.lt hl)
  replace T10 := Lib.hid (T10.out.lt hl)
  replace T11 := Lib.hid (T11.out.lt hl)
  replace T12 := Lib.hid (T12.out.lt hl)
  replace T13 := Lib.hid (T13.out.lt hl)
  replace T14 := Lib.hid (T14.out.lt hl)
  replace T15 := Lib.hid (T15.out.lt hl)
  replace T16 := Lib.hid (T16.out.lt hl)
  replace T17 := Lib.hid (T17.out.lt hl)
  replace T18 := Lib.hid (T18.out.lt hl)
  replace T19 := Lib.hid (T19.out.lt hl)
  clear hl hb
  replace T20 := Lib.hid T20
  go_wp2_with fail
  with_reducible refine (HMk.out _ v20 HLow.out).mono ?_
  rintro e v21 ⟨g21, lb21, rfl, T21, hb⟩
  have hl : Lt (tau7 P) v20 v21 := Lt.of_below hb
  replace HB2 := Lib.hid (HB2.out.trans (hb.mono HB2.out.size))
  replace HLow := Lib.hid (HLow.out.mono hb.size)
  replace HH := Lib.hid (HH.out.below hb)
  replace HRes2 := Lib.hid ((hb.block _ (Nat.lt_trans HPw.out HPX.out)).trans HRes2.out)
  replace HPX := Lib.hid (Nat.lt_of_lt_of_le HPX.out hb.size)
  replace T1 := Lib.hid (T1.out.lt hl)
  replace T8 := Lib.hid (T8.out.lt hl)
  replace T9 := Lib.hid (T9.out.lt hl)
  replace T10 := Lib.hid (T10.out.lt hl)
  replace T11 := Lib.hid (T11.out.lt hl)
  replace T12 := Lib.hid (T12.out.lt hl)
  replace T13 := Lib.hid (T13.out.lt hl)
  replace T14 := Lib.hid (T14.out.lt hl)
  replace T15 := Lib.hid (T15.out.lt hl)
  replace T16 := Lib.hid (T16.out.lt hl)
  replace T17 := Lib.hid (T17.out.lt hl)
  replace T18 := Lib.hid (T18.out.lt hl)
  replace T19 := Lib.hid (T19.out.lt hl)
  replace T20 := Lib.hid (T20.out.lt hl)
  clear hl hb
  replace T21 := Lib.hid T21
  obtain ⟨v22, hw⟩ : ∃ W, W = v21.alloc (.cells #[.func (.func g1) #[] lb1, .func (.func g8) #[] lb8, .func (.func g9) #[] lb9, .func (.func g10) #[] lb10, .func (.func g11) #[] lb11, .func (.func g12) #[] lb12, .func (.func g13) #[] lb13, .func (.func g14) #[] lb14, .func (.func g15) #[] lb15, .func (.func g16) #[] lb16, .func (.func g17) #[] lb17, .func (.func g18) #[] lb18, .func (.func g19) #[] lb19, .func (.func g20) #[] lb20, .func (.func g21) #[] lb21] 42) := ⟨_, rfl⟩
  have hb : Below v21.heap.size v21 v22 := by rw [hw]; exact (Below.refl _ _).alloc (Nat.le_refl _) _
  have hl : Lt (tau7 P) v21 v22 := Lt.of_below hb
  have S22 : Hid (Pcs (tau7 P) v22 (.slice (some ⟨v21.heap.size, 0, none⟩) 15 15) (intP P)) := by rw [hw]; exact pcs_new HLow.out (PcL.cons T1.out (PcL.cons T8.out (PcL.cons T9.out (PcL.cons T10.out (PcL.cons T11.out (PcL.cons T12.out (PcL.cons T13.out (PcL.cons T14.out (PcL.cons T15.out (PcL.cons T16.out (PcL.cons T17.out (PcL.cons T18.out (PcL.cons T19.out (PcL.cons T20.out (PcL.cons T21.out PcL.nil))))))))))))))) (by simp)
  clear T1
  clear T8
  clear T9
  clear T10
  clear T11
  clear T12
  clear T13
  clear T14
  clear T15
  clear T16
  clear T17
  clear T18
  clear T19
  clear T20
  clear T21
  replace HB2 := Lib.hid (HB2.out.trans (hb.mono HB2.out.size))
  replace HLow := Lib.hid (HLow.out.mono hb.size)
  replace HH := Lib.hid (HH.out.below hb)
  replace HRes2 := Lib.hid ((hb.block _ (Nat.lt_trans HPw.out HPX.out)).trans HRes2.out)
  replace HPX := Lib.hid (Nat.lt_of_lt_of_le HPX.out hb.size)
  clear hl hb
  have hcase := int_whole P (fun _ => 0) s.data.toList
  have h1 := HWh.out _ (intP P) v22 HLow.out S22.out (fun _ => 0) s HH.out (by omega)
  rcases hr1 : wholeF (intP P) (fun _ => 0) s.data.toList with ⟨b1, σ1⟩
  rw [hr1] at h1 hcase
  have H1 := Lib.hid h1
  clear h1 hr1 S22
  go_wp2_with fail
  rw [← hw]
  clear hw
  rcases hcase with ⟨hb1, hC, h28, hfl⟩ | ⟨hb1, hno⟩
  · subst hb1
    obtain ⟨y, hy⟩ : ∃ y, y = intY s.data.toList := ⟨_, rfl⟩
    obtain ⟨mo, hmo⟩ : ∃ y, y = intM s.data.toList := ⟨_, rfl⟩
    obtain ⟨da, hda⟩ : ∃ y, y = intD s.data.toList := ⟨_, rfl⟩
    obtain ⟨h, hh⟩ : ∃ y, y = intH s.data.toList := ⟨_, rfl⟩
    obtain ⟨mi, hmi⟩ : ∃ y, y = intI s.data.toList := ⟨_, rfl⟩
    obtain ⟨sec, hsec⟩ : ∃ y, y = intX s.data.toList := ⟨_, rfl⟩
    obtain ⟨z, hz⟩ : ∃ y, y = intZ s.data.toList := ⟨_, rfl⟩
    obtain ⟨q0, q1, q2, q3, q4, q5, q6, q7⟩ := int_small hC
    have HIK : Hid (intK s.data.toList = if sec ≤ 59 then momentK y mo da h mi sec z else none) := by
      unfold Hid intK
      rw [← hy, ← hmo, ← hda, ← hh, ← hmi, ← hsec, ← hz]
      by_cases hx : sec ≤ 59
      · rw [if_pos hx, if_pos ⟨hC, h28, hx⟩]
      · rw [if_neg hx, if_neg (fun e => hx e.2.2)]
    rw [← hy, ← hmo, ← hda, ← hh, ← hmi, ← hsec, ← hz] at hfl
    rw [← hy] at q0
    rw [← hmo] at q1
    rw [← hda] at q2
    rw [← hh] at q3
    rw [← hmi] at q4
    rw [← hsec] at q5
    rw [← hz] at q6 q7
    clear hy hmo hda hh hmi hsec hz hC h28
    with_reducible refine H1.out.mono ?_
    rintro e w2 ⟨rfl, hk2, hh2⟩
    obtain ⟨c0, c1, c2, c3, c4, c5, c6⟩ := tau7_row hh2 hfl
    have hwx2 : w.heap.size < w2.heap.size := Nat.lt_trans HPw.out (Nat.lt_of_lt_of_le HPX.out hk2.size)
    have hpx2 : P < w2.heap.size := Nat.lt_of_lt_of_le HPX.out hk2.size
    have HBx := Lib.hid (HB2.out.trans (tau7_below hk2 (Nat.le_of_lt HPw.out) HB2.out.size))
    have HRx : Hid (w2.heap[w.heap.size]? = some (.cells #[.int .i64 0, .int .i64 0] 24 (0, 0))) := (hk2.kept _ (Nat.lt_trans HPw.out HPX.out) (tau7_off P (by have := HPw.out; omega))).trans HRes2.out
    clear hk2 hh2 hfl H1
    by_cases hx : sec ≤ 59
    · have hxi : decide ((59 : Int) < (sec : Int)) = false := decide_eq_false (by omega)
      rw [if_pos hx] at HIK
      have HMo := Lib.hid (fun w hM => moment_any y mo da h mi sec z (by omega) q1 (by omega) (by omega) (by omega) (by omega) (by omega) (by omega) w hM)
      unfold partA at HMo
      have HEx := Lib.hid (HEn.out.below HBx.out)
      go_wp2_with fail
      with_reducible refine (HMo.out _ HEx.out.m).mono ?_
      rintro e w3 ⟨rfl, hb3⟩
      have HRy : Hid (w3.heap[w.heap.size]? = some (.cells #[.int .i64 0, .int .i64 0] 24 (0, 0))) := (hb3.block _ hwx2).trans HRx.out
      have HBy := Lib.hid (HBx.out.trans (hb3.mono HBx.out.size))
      have hfz : w3.frozen? ⟨w.heap.size, 0, none⟩ = false := by simp [World.frozen?, HRy.out]
      have hfy : w3.frozen? ⟨w.heap.size, 1, none⟩ = false := by simp [World.frozen?, HRy.out]
      have r0 : w3.cell? ⟨w.heap.size, 0, none⟩ = some (.int .i64 0) := by simp [World.cell?, HRy.out]
      have r1 : w3.cell? ⟨w.heap.size, 1, none⟩ = some (.int .i64 0) := by simp [World.cell?, HRy.out]
      have hwy : w.heap.size < w3.heap.size := Nat.lt_of_lt_of_le hwx2 hb3.size
      obtain ⟨R, hR⟩ : ∃ R, R = momentK y mo da h mi sec z := ⟨_, rfl⟩
      rw [← hR] at HIK ⊢
      clear hb3 hR c0 c1 c2 c3 c4 c5 c6
      rcases R with _ | ⟨A, Z⟩
      · unfold momV
        go_wp2_with fail
        refine bodyPost_ret (results_cell_tmp (P := Tryd.prog) Tryd.results7 _ _ w.heap.size 24 _ (0, 0) _ rfl (two_set HRy.out _ _) Tryd.underlying24 rfl (by kernel_rfl)) rfl ?_
        rw [HIK.out]
        exact ⟨rfl, (HBy.out.setCell (Nat.le_refl _) _).setCell (Nat.le_refl _) _⟩
      · unfold momV
        go_wp2_with fail
        refine bodyPost_ret (results_cell_tmp (P := Tryd.prog) Tryd.results7 _ _ w.heap.size 24 _ (0, 0) _ rfl (two_set HRy.out _ _) Tryd.underlying24 rfl (by kernel_rfl)) rfl ?_
        rw [HIK.out]
        exact ⟨rfl, (HBy.out.setCell (Nat.le_refl _) _).setCell (Nat.le_refl _) _⟩
    · have hxi : decide ((59 : Int) < (sec : Int)) = true := decide_eq_true (by omega)
      rw [if_neg hx] at HIK
      have hfz : w2.frozen? ⟨w.heap.size, 0, none⟩ = false := by simp [World.frozen?, HRx.out]
      have hfy : w2.frozen? ⟨w.heap.size, 1, none⟩ = false := by simp [World.frozen?, HRx.out]
      have r0 : w2.cell? ⟨w.heap.size, 0, none⟩ = some (.int .i64 0) := by simp [World.cell?, HRx.out]
      have r1 : w2.cell? ⟨w.heap.size, 1, none⟩ = some (.int .i64 0) := by simp [World.cell?, HRx.out]
      go_wp2_with fail
      refine bodyPost_ret (results_cell_tmp (P := Tryd.prog) Tryd.results7 _ _ w.heap.size 24 _ (0, 0) _ rfl (two_set HRx.out _ _) Tryd.underlying24 rfl (by kernel_rfl)) rfl ?_
      rw [HIK.out]
      exact ⟨rfl, (HBx.out.setCell (Nat.le_refl _) _).setCell (Nat.le_refl _) _⟩
  · subst hb1
    with_reducible refine H1.out.mono ?_
    rintro e w2 ⟨rfl, hk2, hh2⟩
    have hwx2 : w.heap.size < w2.heap.size := Nat.lt_trans HPw.out (Nat.lt_of_lt_of_le HPX.out hk2.size)
    have HBx := Lib.hid (HB2.out.trans (tau7_below hk2 (Nat.le_of_lt HPw.out) HB2.out.size))
    have HRx : Hid (w2.heap[w.heap.size]? = some (.cells #[.int .i64 0, .int .i64 0] 24 (0, 0))) := (hk2.kept _ (Nat.lt_trans HPw.out HPX.out) (tau7_off P (by have := HPw.out; omega))).trans HRes2.out
    have HNo := Lib.hid hno
    have hfz : w2.frozen? ⟨w.heap.size, 0, none⟩ = false := by simp [World.frozen?, HRx.out]
    have hfy : w2.frozen? ⟨w.heap.size, 1, none⟩ = false := by simp [World.frozen?, HRx.out]
    have r0 : w2.cell? ⟨w.heap.size, 0, none⟩ = some (.int .i64 0) := by simp [World.cell?, HRx.out]
    have r1 : w2.cell? ⟨w.heap.size, 1, none⟩ = some (.int .i64 0) := by simp [World.cell?, HRx.out]
    clear hk2 hh2 H1 hno
    go_wp2_with fail
    refine bodyPost_ret (results_cell_tmp (P := Tryd.prog) Tryd.results7 _ _ w.heap.size 24 _ (0, 0) _ rfl (two_set HRx.out _ _) Tryd.underlying24 rfl (by kernel_rfl)) rfl ?_
    rw [HNo.out]
    exact ⟨rfl, (HBx.out.setCell (Nat.le_refl _) _).setCell (Nat.le_refl _) _⟩
end Go.Proofs.YtpmjlhpbknppiaaDoor
