/- Contracts of package date: ParseDay. -/
import Derived.Test.YtfndidcoahammaaDoorDtT
import Derived.Test.YtfndidcoahammaaDoorDtL
namespace Go.Proofs.YtfndidcoahammaaDoor
open Go Go.RowKit

def tau3 (P : Nat) : Tg := [(P, 0), (P, 1), (P, 2)]
theorem tau3_mem {P : Nat} {a : Nat × Nat} (h : a ∈ tau3 P) : a.1 = P ∧ a.2 < 3 := by
  unfold tau3 at h
  simp only [List.mem_cons, List.not_mem_nil, or_false] at h
  rcases h with rfl | rfl | rfl <;> simp
theorem tau3_holds (w : World) (t : TypeId) : Holds (tau3 w.heap.size) (w.alloc (.cells #[.int .i64 0, .int .i64 0, .int .i64 0] t)) (fun _ => 0) := by
  intro a ha
  obtain ⟨h1, h2⟩ := tau3_mem ha
  obtain ⟨b, i⟩ := a
  simp only at h1 h2 ⊢
  subst h1
  refine ⟨?_, World.frozen?_alloc_new w _ _ _⟩
  simp only [World.cell?, heap_alloc_new]
  match i, h2 with
  | 0, _ => rfl
  | 1, _ => rfl
  | 2, _ => rfl
theorem tau3_low (P : Nat) {n : Nat} (h : P < n) : Low (tau3 P) n := fun a ha => by rw [(tau3_mem ha).1]; exact h
theorem tau3_off (P : Nat) {k : Nat} (h : k ≠ P) : Off (tau3 P) k := fun a ha e => h (by rw [← e]; exact (tau3_mem ha).1)
theorem tau3_below {P : Nat} {w W : World} {base : Nat} (h : Lt (tau3 P) w W) (hb : base ≤ P) (hs : base ≤ w.heap.size) : Below base w W :=
  h.below (fun a ha => by rw [(tau3_mem ha).1]; exact hb) hs
theorem tau3_row {P : Nat} {W : World} {σ : Sg} {p : Nat × Nat × Nat} (hh : Holds (tau3 P) W σ) (hf : FldD P σ p) :
    W.cell? ⟨P, 0, none⟩ = some (.int .i64 (p.1 : Int)) ∧ W.cell? ⟨P, 1, none⟩ = some (.int .i64 (p.2.1 : Int)) ∧ W.cell? ⟨P, 2, none⟩ = some (.int .i64 (p.2.2 : Int)) := by
  obtain ⟨f0, f1, f2⟩ := hf
  refine ⟨?_, ?_, ?_⟩
  · rw [← f0]; exact (hh (P, 0) (by simp [tau3])).1
  · rw [← f1]; exact (hh (P, 1) (by simp [tau3])).1
  · rw [← f2]; exact (hh (P, 2) (by simp [tau3])).1

set_option maxRecDepth 100000 in
set_option maxHeartbeats 8000000 in
theorem parseDay_any (s : ByteArray) (w : World) (hs : s.size ≤ 1000000000000) (hE : envD w) :
    Calls Tryd.prog 12 #[.string s] w fun e w' => e = .returned (numV' (parseDayK s.data.toList)) ∧ Below w.heap.size w w' := by
  have HEn := Lib.hid hE
  obtain ⟨P, hP⟩ : ∃ P, P = w.heap.size := ⟨_, rfl⟩
  obtain ⟨X2, hX2⟩ : ∃ X, X = w.alloc (.cells #[.int .i64 0, .int .i64 0, .int .i64 0] 46) := ⟨_, rfl⟩
  have HH : Hid (Holds (tau3 P) X2 (fun _ => 0)) := by rw [hP, hX2]; exact tau3_holds w _
  have hs2 : X2.heap.size = P + 1 := by rw [hX2, hP]; simp
  have HLow : Hid (Low (tau3 P) X2.heap.size) := tau3_low P (by rw [hs2]; exact Nat.lt_succ_self _)
  have HB2 : Hid (Below w.heap.size w X2) := by rw [hX2]; exact (Below.refl _ _).alloc (Nat.le_refl _) _
  have HPw : Hid (w.heap.size ≤ P) := Nat.le_of_eq hP.symm
  have HOm : Hid (Off (tau3 P) 0) := tau3_off P (by have := HEn.out.m.lt; omega)
  have HRow := Lib.hid (fun sv fs w h1 h2 => row_any (tau3 P) sv fs w h1 h2)
  have HEi := Lib.hid (fun sv fs w h1 h2 => either_any (tau3 P) sv fs w h1 h2)
  have HMk := Lib.hid (fun t w h1 => mark_any (tau3 P) t w h1)
  have HDg := Lib.hid (fun b i ha n k hk hn w hl => digits_mk (tau3 P) b i ha n k hk hn w hl)
  have HMn := Lib.hid (fun b i ha w hl hg hm => monthName_mk (tau3 P) b i ha w hl hg hm)
  have I0 : Hid ((P, 0) ∈ tau3 P) := by unfold Hid tau3; simp
  have I1 : Hid ((P, 1) ∈ tau3 P) := by unfold Hid tau3; simp
  have I2 : Hid ((P, 2) ∈ tau3 P) := by unfold Hid tau3; simp
  have HPX : Hid (P < X2.heap.size) := by unfold Hid; rw [hs2]; exact Nat.lt_succ_self _
  have HWh := Lib.hid (fun sv fs w hl hp σ s hh hs => whole_any (tau3 P) sv fs w hl hp σ s hh hs)
  unfold MakesP at HRow HEi HMk HDg HMn
  clear hE
  go_enter Tryd.func12, Tryd.ntmps12
  go_wp2_with fail
  rw [← hX2, ← hP]
  clear hX2 hP hs2
  go_wp2_with fail
  with_reducible refine (HDg.out _ _ I2.out 2 2 rfl (by omega) X2 HLow.out).mono ?_
  rintro e v1 ⟨g1, lb1, rfl, T1, hb⟩
  have hl : Lt (tau3 P) X2 v1 := Lt.of_below hb
  replace HB2 := Lib.hid (HB2.out.trans (hb.mono HB2.out.size))
  replace HLow := Lib.hid (HLow.out.mono hb.size)
  replace HH := Lib.hid (HH.out.below hb)
  replace HPX := Lib.hid (Nat.lt_of_lt_of_le HPX.out hb.size)
  clear hl hb
  replace T1 := Lib.hid T1
  go_wp2_with fail
  with_reducible refine (HDg.out _ _ I2.out 1 1 rfl (by omega) v1 HLow.out).mono ?_
  rintro e v2 ⟨g2, lb2, rfl, T2, hb⟩
  have hl : Lt (tau3 P) v1 v2 := Lt.of_below hb
  replace HB2 := Lib.hid (HB2.out.trans (hb.mono HB2.out.size))
  replace HLow := Lib.hid (HLow.out.mono hb.size)
  replace HH := Lib.hid (HH.out.below hb)
  replace HPX := Lib.hid (Nat.lt_of_lt_of_le HPX.out hb.size)
  replace T1 := Lib.hid (T1.out.lt hl)
  clear hl hb
  replace T2 := Lib.hid T2
  obtain ⟨v3, hw⟩ : ∃ W, W = v2.alloc (.cells #[.func (.func g1) #[] lb1, .func (.func g2) #[] lb2] 50) := ⟨_, rfl⟩
  have hb : Below v2.heap.size v2 v3 := by rw [hw]; exact (Below.refl _ _).alloc (Nat.le_refl _) _
  have hl : Lt (tau3 P) v2 v3 := Lt.of_below hb
  have S3 : Hid (Pcs (tau3 P) v3 (.slice (some ⟨v2.heap.size, 0, none⟩) 2 2) [digF 2 (P, 2), digF 1 (P, 2)]) := by rw [hw]; exact pcs_new HLow.out (PcL.cons T1.out (PcL.cons T2.out PcL.nil)) (by simp)
  clear T1
  clear T2
  replace HB2 := Lib.hid (HB2.out.trans (hb.mono HB2.out.size))
  replace HLow := Lib.hid (HLow.out.mono hb.size)
  replace HH := Lib.hid (HH.out.below hb)
  replace HPX := Lib.hid (Nat.lt_of_lt_of_le HPX.out hb.size)
  clear hl hb
  go_wp2_with fail
  rw [← hw]
  clear hw
  with_reducible refine (HEi.out _ _ v3 HLow.out S3.out).mono ?_
  rintro e v4 ⟨g4, lb4, rfl, T4, hb⟩
  have hl : Lt (tau3 P) v3 v4 := Lt.of_below hb
  replace HB2 := Lib.hid (HB2.out.trans (hb.mono HB2.out.size))
  replace HLow := Lib.hid (HLow.out.mono hb.size)
  replace HH := Lib.hid (HH.out.below hb)
  replace HPX := Lib.hid (Nat.lt_of_lt_of_le HPX.out hb.size)
  clear hl hb
  replace T4 := Lib.hid T4
  go_wp2_with fail
  with_reducible refine (HMk.out _ v4 HLow.out).mono ?_
  rintro e v5 ⟨g5, lb5, rfl, T5, hb⟩
  have hl : Lt (tau3 P) v4 v5 := Lt.of_below hb
  replace HB2 := Lib.hid (HB2.out.trans (hb.mono HB2.out.size))
  replace HLow := Lib.hid (HLow.out.mono hb.size)
  replace HH := Lib.hid (HH.out.below hb)
  replace HPX := Lib.hid (Nat.lt_of_lt_of_le HPX.out hb.size)
  replace T4 := Lib.hid (T4.out.lt hl)
  clear hl hb
  replace T5 := Lib.hid T5
  go_wp2_with fail
  with_reducible refine (HMn.out _ _ I1.out v5 HLow.out HOm.out (HEn.out.below HB2.out).m).mono ?_
  rintro e v6 ⟨g6, lb6, rfl, T6, hb⟩
  have hl : Lt (tau3 P) v5 v6 := Lt.of_below hb
  replace HB2 := Lib.hid (HB2.out.trans (hb.mono HB2.out.size))
  replace HLow := Lib.hid (HLow.out.mono hb.size)
  replace HH := Lib.hid (HH.out.below hb)
  replace HPX := Lib.hid (Nat.lt_of_lt_of_le HPX.out hb.size)
  replace T4 := Lib.hid (T4.out.lt hl)
  replace T5 := Lib.hid (T5.out.lt hl)
  clear hl hb
  replace T6 := Lib.hid T6
  go_wp2_with fail
  with_reducible refine (HMk.out _ v6 HLow.out).mono ?_
  rintro e v7 ⟨g7, lb7, rfl, T7, hb⟩
  have hl : Lt (tau3 P) v6 v7 := Lt.of_below hb
  replace HB2 := Lib.hid (HB2.out.trans (hb.mono HB2.out.size))
  replace HLow := Lib.hid (HLow.out.mono hb.size)
  replace HH := Lib.hid (HH.out.below hb)
  replace HPX := Lib.hid (Nat.lt_of_lt_of_le HPX.out hb.size)
  replace T4 := Lib.hid (T4.out.lt hl)
  replace T5 := Lib.hid (T5.out.lt hl)
  replace T6 := Lib.hid (T6.out.lt hl)
  clear hl hb
  replace T7 := Lib.hid T7
  go_wp2_with fail
  with_reducible refine (HDg.out _ _ I0.out 4 4 rfl (by omega) v7 HLow.out).mono ?_
  rintro e v8 ⟨g8, lb8, rfl, T8, hb⟩
  have hl : Lt (tau3 P) v7 v8 := Lt.of_below hb
  replace HB2 := Lib.hid (HB2.out.trans (hb.mono HB2.out.size))
  replace HLow := Lib.hid (HLow.out.mono hb.size)
  replace HH := Lib.hid (HH.out.below hb)
  replace HPX := Lib.hid (Nat.lt_of_lt_of_le HPX.out hb.size)
  replace T4 := Lib.hid (T4.out.lt hl)
  replace T5 := Lib.hid (T5.out.lt hl)
  replace T6 := Lib.hid (T6.out.lt hl)
  replace T7 := Lib.hid (T7.out.lt hl)
  clear hl hb
  replace T8 := Lib.hid T8
  obtain ⟨v9, hw⟩ : ∃ W, W = v8.alloc (.cells #[.func (.func g4) #[] lb4, .func (.func g5) #[] lb5, .func (.func g6) #[] lb6, .func (.func g7) #[] lb7, .func (.func g8) #[] lb8] 50) := ⟨_, rfl⟩
  have hb : Below v8.heap.size v8 v9 := by rw [hw]; exact (Below.refl _ _).alloc (Nat.le_refl _) _
  have hl : Lt (tau3 P) v8 v9 := Lt.of_below hb
  have S9 : Hid (Pcs (tau3 P) v9 (.slice (some ⟨v8.heap.size, 0, none⟩) 5 5) (bareP P)) := by rw [hw]; exact pcs_new HLow.out (PcL.cons T4.out (PcL.cons T5.out (PcL.cons T6.out (PcL.cons T7.out (PcL.cons T8.out PcL.nil))))) (by simp)
  clear T4
  clear T5
  clear T6
  clear T7
  clear T8
  replace HB2 := Lib.hid (HB2.out.trans (hb.mono HB2.out.size))
  replace HLow := Lib.hid (HLow.out.mono hb.size)
  replace HH := Lib.hid (HH.out.below hb)
  replace HPX := Lib.hid (Nat.lt_of_lt_of_le HPX.out hb.size)
  clear hl hb
  go_wp2_with fail
  rw [← hw]
  clear hw
  with_reducible refine (HRow.out _ _ v9 HLow.out S9.out).mono ?_
  rintro e v10 ⟨g10, lb10, rfl, T10, hb⟩
  have hl : Lt (tau3 P) v9 v10 := Lt.of_below hb
  replace HB2 := Lib.hid (HB2.out.trans (hb.mono HB2.out.size))
  replace HLow := Lib.hid (HLow.out.mono hb.size)
  replace HH := Lib.hid (HH.out.below hb)
  replace HPX := Lib.hid (Nat.lt_of_lt_of_le HPX.out hb.size)
  clear hl hb
  replace T10 := Lib.hid T10
  have K10 := T10
  obtain ⟨v11, hw⟩ : ∃ W, W = v10.alloc (.cells #[.func (.func g10) #[] lb10] 50) := ⟨_, rfl⟩
  have hb : Below v10.heap.size v10 v11 := by rw [hw]; exact (Below.refl _ _).alloc (Nat.le_refl _) _
  have hl : Lt (tau3 P) v10 v11 := Lt.of_below hb
  have S11 : Hid (Pcs (tau3 P) v11 (.slice (some ⟨v10.heap.size, 0, none⟩) 1 1) [rowF (bareP P)]) := by rw [hw]; exact pcs_new HLow.out (PcL.cons T10.out PcL.nil) (by simp)
  clear T10
  replace HB2 := Lib.hid (HB2.out.trans (hb.mono HB2.out.size))
  replace HLow := Lib.hid (HLow.out.mono hb.size)
  replace HH := Lib.hid (HH.out.below hb)
  replace HPX := Lib.hid (Nat.lt_of_lt_of_le HPX.out hb.size)
  replace K10 := Lib.hid (K10.out.lt hl)
  clear hl hb
  have hcase := day_cases P (fun _ => 0) s.data.toList
  have h1 := HWh.out _ [rowF (bareP P)] v11 HLow.out S11.out (fun _ => 0) s HH.out (by omega)
  rcases hr1 : wholeF [rowF (bareP P)] (fun _ => 0) s.data.toList with ⟨b1, σ1⟩
  rw [hr1] at h1 hcase
  have H1 := Lib.hid h1
  clear h1 hr1 S11
  go_wp2_with fail
  rw [← hw]
  clear hw
  rcases hcase with ⟨hb1, hfl⟩ | ⟨hb1, hcase⟩
  · subst hb1
    with_reducible refine H1.out.mono ?_
    rintro e w2 ⟨rfl, hk2, hh2⟩
    clear H1
    obtain ⟨p, hq, hfl⟩ := hfl
    obtain ⟨c0, c1, c2⟩ := tau3_row hh2 hfl
    obtain ⟨q0, q1, q2⟩ := dayQ_le hq
    have HK : Hid (parseDayK s.data.toList = numberK p.1 p.2.1 p.2.2) := by unfold Hid parseDayK; rw [hq]
    obtain ⟨y, mo, da⟩ := p
    simp only at c0 c1 c2 q0 q1 q2 HK
    have HNu := Lib.hid (fun w h => number_any' y mo da (by omega) q1 (by omega) w h)
    have HBx := Lib.hid (HB2.out.trans (tau3_below hk2 HPw.out HB2.out.size))
    have HEx := Lib.hid (HEn.out.below HBx.out)
    have hpx2 : P < w2.heap.size := Nat.lt_of_lt_of_le HPX.out hk2.size
    clear hq hfl hh2 hk2 q0 q1 q2
    go_wp2_with fail
    with_reducible refine (HNu.out _ HEx.out.m).mono ?_
    rintro e w3 ⟨rfl, hb3⟩
    have HBy := Lib.hid (HBx.out.trans (hb3.mono HBx.out.size))
    obtain ⟨R, hR⟩ : ∃ R, R = numberK y mo da := ⟨_, rfl⟩
    rw [← hR] at HK ⊢
    clear hb3 hR c0 c1 c2
    rcases R with _ | N
    · unfold numV'
      go_wp2_with fail
      go_ret2
      rw [HK.out]
      exact ⟨rfl, HBy.out⟩
    · unfold numV'
      go_wp2_with fail
      go_ret2
      rw [HK.out]
      exact ⟨rfl, HBy.out⟩
  · subst hb1
    with_reducible refine H1.out.mono ?_
    rintro e u1 ⟨rfl, hl, hh1⟩
    have hb : Below P v11 u1 := tau3_below hl (Nat.le_refl _) (Nat.le_of_lt HPX.out)
    replace HB2 := Lib.hid (HB2.out.trans (hb.mono HPw.out))
    replace HLow := Lib.hid (HLow.out.mono hl.size)
    replace HH := Lib.hid hh1
    replace HPX := Lib.hid (Nat.lt_of_lt_of_le HPX.out hl.size)
    replace K10 := Lib.hid (K10.out.lt hl)
    clear hl hb hh1 H1
    go_wp2_with fail
    with_reducible refine (HMk.out _ u1 HLow.out).mono ?_
    rintro e v101 ⟨g101, lb101, rfl, T101, hb⟩
    have hl : Lt (tau3 P) u1 v101 := Lt.of_below hb
    replace HB2 := Lib.hid (HB2.out.trans (hb.mono HB2.out.size))
    replace HLow := Lib.hid (HLow.out.mono hb.size)
    replace HH := Lib.hid (HH.out.below hb)
    replace HPX := Lib.hid (Nat.lt_of_lt_of_le HPX.out hb.size)
    replace K10 := Lib.hid (K10.out.lt hl)
    clear hl hb
    replace T101 := Lib.hid T101
    go_wp2_with fail
    with_reducible refine (HMk.out _ v101 HLow.out).mono ?_
    rintro e v102 ⟨g102, lb102, rfl, T102, hb⟩
    have hl : Lt (tau3 P) v101 v102 := Lt.of_below hb
    replace HB2 := Lib.hid (HB2.out.trans (hb.mono HB2.out.size))
    replace HLow := Lib.hid (HLow.out.mono hb.size)
    replace HH := Lib.hid (HH.out.below hb)
    replace HPX := Lib.hid (Nat.lt_of_lt_of_le HPX.out hb.size)
    replace K10 := Lib.hid (K10.out.lt hl)
    replace T101 := Lib.hid (T101.out.lt hl)
    clear hl hb
    replace T102 := Lib.hid T102
    have T10 := K10
    obtain ⟨v103, hw⟩ : ∃ W, W = v102.alloc (.cells #[.func (.func g101) #[] lb101, .func (.func g10) #[] lb10, .func (.func g102) #[] lb102] 50) := ⟨_, rfl⟩
    have hb : Below v102.heap.size v102 v103 := by rw [hw]; exact (Below.refl _ _).alloc (Nat.le_refl _) _
    have hl : Lt (tau3 P) v102 v103 := Lt.of_below hb
    have S103 : Hid (Pcs (tau3 P) v103 (.slice (some ⟨v102.heap.size, 0, none⟩) 3 3) (threeP P)) := by rw [hw]; exact pcs_new HLow.out (PcL.cons T101.out (PcL.cons T10.out (PcL.cons T102.out PcL.nil))) (by simp)
    clear T101
    clear T10
    clear T102
    replace HB2 := Lib.hid (HB2.out.trans (hb.mono HB2.out.size))
    replace HLow := Lib.hid (HLow.out.mono hb.size)
    replace HH := Lib.hid (HH.out.below hb)
    replace HPX := Lib.hid (Nat.lt_of_lt_of_le HPX.out hb.size)
    replace K10 := Lib.hid (K10.out.lt hl)
    clear hl hb
    have h2 := HWh.out _ (threeP P) v103 HLow.out S103.out σ1 s HH.out (by omega)
    rcases hr2 : wholeF (threeP P) σ1 s.data.toList with ⟨b2, σ2⟩
    try simp only at hcase
    rw [hr2] at h2 hcase
    have H2 := Lib.hid h2
    clear h2 hr2 S103
    go_wp2_with fail
    rw [← hw]
    clear hw
    rcases hcase with ⟨hb2, hfl⟩ | ⟨hb2, hno⟩
    · subst hb2
      with_reducible refine H2.out.mono ?_
      rintro e w2 ⟨rfl, hk2, hh2⟩
      clear H2
      obtain ⟨p, hq, hfl⟩ := hfl
      obtain ⟨c0, c1, c2⟩ := tau3_row hh2 hfl
      obtain ⟨q0, q1, q2⟩ := dayQ_le hq
      have HK : Hid (parseDayK s.data.toList = numberK p.1 p.2.1 p.2.2) := by unfold Hid parseDayK; rw [hq]
      obtain ⟨y, mo, da⟩ := p
      simp only at c0 c1 c2 q0 q1 q2 HK
      have HNu := Lib.hid (fun w h => number_any' y mo da (by omega) q1 (by omega) w h)
      have HBx := Lib.hid (HB2.out.trans (tau3_below hk2 HPw.out HB2.out.size))
      have HEx := Lib.hid (HEn.out.below HBx.out)
      have hpx2 : P < w2.heap.size := Nat.lt_of_lt_of_le HPX.out hk2.size
      clear hq hfl hh2 hk2 q0 q1 q2
      go_wp2_with fail
      with_reducible refine (HNu.out _ HEx.out.m).mono ?_
      rintro e w3 ⟨rfl, hb3⟩
      have HBy := Lib.hid (HBx.out.trans (hb3.mono HBx.out.size))
      obtain ⟨R, hR⟩ : ∃ R, R = numberK y mo da := ⟨_, rfl⟩
      rw [← hR] at HK ⊢
      clear hb3 hR c0 c1 c2
      rcases R with _ | N
      · unfold numV'
        go_wp2_with fail
        go_ret2
        rw [HK.out]
        exact ⟨rfl, HBy.out⟩
      · unfold numV'
        go_wp2_with fail
        go_ret2
        rw [HK.out]
        exact ⟨rfl, HBy.out⟩
    · subst hb2
      with_reducible refine H2.out.mono ?_
      rintro e w2 ⟨rfl, hk2, hh2⟩
      have HBx := Lib.hid (HB2.out.trans (tau3_below hk2 HPw.out HB2.out.size))
      have HK : Hid (parseDayK s.data.toList = none) := by unfold Hid parseDayK; rw [hno]
      clear H2 hk2 hh2 hno
      go_wp2_with fail
      go_ret2
      rw [HK.out]
      exact ⟨rfl, HBx.out⟩
end Go.Proofs.YtfndidcoahammaaDoor
