/- Contracts of package date: a zone of hours and minutes. -/
import Derived.Test.YtpmjlhpbknppiaaDoorDtE
namespace Go.Proofs.YtpmjlhpbknppiaaDoor
open Go Go.RowKit

/-- Function values, one a piece. -/
inductive PcL (τ : Tg) (w : World) : List Value → List Pf → Prop
  | nil : PcL τ w [] []
  | cons {v : Value} {f : Pf} {vs : List Value} {fs : List Pf} : Takes τ w v f → PcL τ w vs fs → PcL τ w (v :: vs) (f :: fs)
theorem PcL.len {τ : Tg} {w : World} {vs : List Value} {fs : List Pf} (h : PcL τ w vs fs) : vs.length = fs.length := by
  induction h with
  | nil => rfl
  | cons _ _ ih => simp [ih]
theorem PcL.at {τ : Tg} {w : World} {vs : List Value} {fs : List Pf} (h : PcL τ w vs fs) : ∀ i, (hi : i < fs.length) → ∃ v, vs[i]? = some v ∧ Takes τ w v fs[i] := by
  induction h with
  | nil => intro i hi; simp at hi
  | cons ht _ ih =>
    intro i hi
    cases i with
    | zero => exact ⟨_, rfl, ht⟩
    | succ i => simpa using ih i (by simpa using hi)
theorem pcs_new {τ : Tg} {w : World} {vs : List Value} {fs : List Pf} {t : TypeId} (hl : Low τ w.heap.size) (h : PcL τ w vs fs) (hn : fs.length ≤ 1000000) :
    Pcs τ (w.alloc (.cells vs.toArray t)) (.slice (some ⟨w.heap.size, 0, none⟩) fs.length fs.length) fs := by
  refine ⟨_, _, rfl, Nat.le_refl _, by unfold maxLen; omega, fun i hi => ?_⟩
  obtain ⟨v, hv, ht⟩ := h.at i hi
  refine ⟨w.heap.size, v, rfl, by simp, hl.off (Nat.le_refl _), ?_, ht.lt (Lt.alloc w _)⟩
  simp only [World.cell?, heap_alloc_new]
  simpa using hv
theorem pcs_nil (τ : Tg) (w : World) : Pcs τ w (.slice none 0 0) [] := ⟨none, 0, rfl, Nat.le_refl _, Nat.zero_le _, fun i hi => by simp at hi⟩

set_option maxRecDepth 100000 in
set_option maxHeartbeats 2000000 in
theorem perhaps_any (τ : Tg) (sv : Value) (fs : List Pf) (w : World) (hl : Low τ w.heap.size) (hp : Pcs τ w sv fs) :
    Calls Tryd.prog 21 #[sv] w (MakesP τ w (eitherF [rowF fs, rowF []])) := by
  have HRow := Lib.hid (fun sv fs w h1 h2 => row_any τ sv fs w h1 h2)
  have HEi := Lib.hid (fun sv fs w h1 h2 => either_any τ sv fs w h1 h2)
  obtain ⟨ao, cap, rfl, hca, hcm, hcell⟩ := hp
  have hp : Pcs τ w (.slice ao fs.length cap) fs := ⟨ao, cap, rfl, hca, hcm, hcell⟩
  have HP := Lib.hid hp
  have HLow := Lib.hid hl
  have HB := Lib.hid (Below.refl w.heap.size w)
  unfold MakesP at HRow HEi ⊢
  clear hcell hp hcm hl
  go_enter Tryd.func21, Tryd.ntmps21
  go_wp2_with fail
  with_reducible refine (HRow.out _ _ w HLow.out HP.out).mono ?_
  rintro e v1 ⟨g1, lb1, rfl, T1, hb⟩
  have hl : Lt τ w v1 := Lt.of_below hb
  replace HB := Lib.hid (HB.out.trans (hb.mono HB.out.size))
  replace HLow := Lib.hid (HLow.out.mono hb.size)
  clear hl hb
  replace T1 := Lib.hid T1
  go_wp2_with fail
  with_reducible refine (HRow.out _ _ v1 HLow.out (pcs_nil _ _)).mono ?_
  rintro e v2 ⟨g2, lb2, rfl, T2, hb⟩
  have hl : Lt τ v1 v2 := Lt.of_below hb
  replace HB := Lib.hid (HB.out.trans (hb.mono HB.out.size))
  replace HLow := Lib.hid (HLow.out.mono hb.size)
  replace T1 := Lib.hid (T1.out.lt hl)
  clear hl hb
  replace T2 := Lib.hid T2
  obtain ⟨v3, hw⟩ : ∃ W, W = v2.alloc (.cells #[.func (.func g1) #[] lb1, .func (.func g2) #[] lb2] 42) := ⟨_, rfl⟩
  have hb : Below v2.heap.size v2 v3 := by rw [hw]; exact (Below.refl _ _).alloc (Nat.le_refl _) _
  have hl : Lt τ v2 v3 := Lt.of_below hb
  have S3 : Hid (Pcs τ v3 (.slice (some ⟨v2.heap.size, 0, none⟩) 2 2) [rowF fs, rowF []]) := by rw [hw]; exact pcs_new HLow.out (PcL.cons T1.out (PcL.cons T2.out PcL.nil)) (by simp)
  clear T1
  clear T2
  replace HB := Lib.hid (HB.out.trans (hb.mono HB.out.size))
  replace HLow := Lib.hid (HLow.out.mono hb.size)
  clear hl hb
  go_wp2_with fail
  rw [← hw]
  clear hw
  with_reducible refine (HEi.out _ _ v3 HLow.out S3.out).mono ?_
  rintro e v4 ⟨g4, lb4, rfl, T4, hb⟩
  have hl : Lt τ v3 v4 := Lt.of_below hb
  replace HB := Lib.hid (HB.out.trans (hb.mono HB.out.size))
  replace HLow := Lib.hid (HLow.out.mono hb.size)
  clear hl hb
  replace T4 := Lib.hid T4
  go_wp2_with fail
  go_ret
  exact ⟨_, _, rfl, T4.out, HB.out⟩

/-- A sign, and two times two digits. -/
def awayK (l : List UInt8) : Option (Nat × Nat) :=
  if (l.head? = some 43 ∨ l.head? = some 45) ∧ digOk 4 (l.drop 1) then some (numOf ((l.drop 1).take 2), numOf ((l.drop 3).take 2)) else none
/-- The minutes of a sign, hours and minutes. -/
def awayM (l : List UInt8) (h m : Nat) : Int := if l.head? = some 45 then -((h * 60 + m : Nat) : Int) else ((h * 60 + m : Nat) : Int)
def awayF (a : Nat × Nat) : Pf := fun σ l => match awayK l with
  | some (h, m) => if h ≤ 23 ∧ m ≤ 59 then (some (l.drop 5), upd σ a (awayM l h m)) else (none, σ)
  | none => (none, σ)
def awayR (a b : Nat × Nat) : Pf := rowF [eitherF [markF [43], markF [45]], digF 2 a, digF 2 b]
theorem digOk_app {n m : Nat} {l : List UInt8} : digOk (n + m) l ↔ digOk n l ∧ digOk m (l.drop n) := by
  unfold digOk
  constructor
  · rintro ⟨h1, h2⟩
    rw [List.take_add, List.all_append, Bool.and_eq_true] at h2
    exact ⟨⟨by omega, h2.1⟩, by rw [List.length_drop]; omega, h2.2⟩
  · rintro ⟨⟨h1, h2⟩, h3, h4⟩
    rw [List.length_drop] at h3
    refine ⟨by omega, ?_⟩
    rw [List.take_add, List.all_append, h2, h4]
    rfl
theorem sign_two (σ : Sg) (l : List UInt8) : eitherF [markF [43], markF [45]] σ l = (if l.head? = some 43 ∨ l.head? = some 45 then some (l.drop 1) else none, σ) := by
  cases l with
  | nil => rfl
  | cons c r =>
    by_cases h1 : c = 43
    · subst h1
      simp [eitherF, markF, Lib.hasPrefix]
    · by_cases h2 : c = 45
      · subst h2
        simp [eitherF, markF, Lib.hasPrefix]
      · have e1 : ¬ (43 : UInt8) = c := fun e => h1 e.symm
        have e2 : ¬ (45 : UInt8) = c := fun e => h2 e.symm
        simp [eitherF, markF, Lib.hasPrefix, h1, h2, e1, e2]
theorem awayR_is (a b : Nat × Nat) (hab : a ≠ b) (l : List UInt8) : ∃ (h m : Nat) (o : Option (List UInt8)) (σ1 : Sg), awayR a b (fun _ => 0) l = (o, σ1) ∧ σ1 a = (h : Int) ∧ σ1 b = (m : Int) ∧ h ≤ 99 ∧ m ≤ 99 ∧
    ((awayK l = none ∧ o = none) ∨ (awayK l = some (h, m) ∧ o = some (l.drop 5) ∧ 0 < l.length)) := by
  unfold awayR awayK
  rw [rowF, sign_two]
  by_cases h1 : l.head? = some 43 ∨ l.head? = some 45
  · have hl : 0 < l.length := by
      cases l with
      | nil => simp at h1
      | cons _ _ => simp
    simp only [if_pos h1]
    rw [rowF]
    unfold digF
    by_cases h2 : digOk 2 (l.drop 1)
    · simp only [if_pos h2]
      rw [rowF]
      have n2 := numOf_lt _ h2.2
      rw [List.length_take, Nat.min_eq_left h2.1] at n2
      by_cases h3 : digOk 2 ((l.drop 1).drop 2)
      · simp only [if_pos h3, rowF]
        have n3 := numOf_lt _ h3.2
        rw [List.length_take, Nat.min_eq_left h3.1] at n3
        have h4 : digOk 4 (l.drop 1) := (digOk_app (n := 2) (m := 2)).2 ⟨h2, h3⟩
        rw [if_pos ⟨h1, h4⟩]
        have e3 : (l.drop 1).drop 2 = l.drop 3 := by rw [List.drop_drop]
        rw [e3] at n3 ⊢
        refine ⟨numOf ((l.drop 1).take 2), numOf ((l.drop 3).take 2), _, _, rfl, ?_, ?_, ?_, ?_, .inr ⟨rfl, ?_, hl⟩⟩
        · unfold upd
          rw [if_neg hab, if_pos rfl]
        · unfold upd
          rw [if_pos rfl]
        · omega
        · omega
        · rw [List.drop_drop]
      · simp only [if_neg h3]
        have h4 : ¬ digOk 4 (l.drop 1) := fun h => h3 ((digOk_app (n := 2) (m := 2)).1 h).2
        refine ⟨numOf ((l.drop 1).take 2), 0, none, _, rfl, ?_, ?_, ?_, by omega, .inl ⟨if_neg (fun h => h4 h.2), rfl⟩⟩
        · unfold upd
          rw [if_pos rfl]
        · unfold upd
          rw [if_neg (Ne.symm hab)]
          rfl
        · omega
    · simp only [if_neg h2]
      have h4 : ¬ digOk 4 (l.drop 1) := fun h => h2 ((digOk_app (n := 2) (m := 2)).1 h).1
      exact ⟨0, 0, none, _, rfl, rfl, rfl, by omega, by omega, .inl ⟨if_neg (fun h => h4 h.2), rfl⟩⟩
  · simp only [if_neg h1]
    exact ⟨0, 0, none, _, rfl, rfl, rfl, by omega, by omega, .inl ⟨if_neg (fun h => h1 h.1), rfl⟩⟩

set_option maxRecDepth 100000 in
set_option maxHeartbeats 4000000 in
theorem away1_any (τ : Tg) (a : Nat × Nat) (ha : a ∈ τ) (B : Nat) (w : World) (h1 : w.cell? ⟨B, 0, none⟩ = some (.pointer (some ⟨a.1, a.2, none⟩))) (σ : Sg) (s : ByteArray) (hh : Holds τ w σ) (hO : Off τ B) (hs : s.size ≤ 9223372036854775807) :
    Calls Tryd.prog 51 #[.string s, .pointer (some ⟨B, 0, none⟩)] w fun e w' => Told (awayF a σ s.data.toList).1 s.size e ∧ Lt τ w w' ∧ Holds τ w' (awayF a σ s.data.toList).2 := by
  have hB : B < w.heap.size := World.block_lt_of_cell? _ _ h1
  have hal := hh.lt ha
  have HH := Lib.hid hh
  have HA := Lib.hid ha
  have HO := Lib.hid hO
  have HPt := Lib.hid h1
  obtain ⟨X1, hX1⟩ : ∃ X, X = w.alloc (.cells #[.int .i64 0] 3) := ⟨_, rfl⟩
  obtain ⟨X2, hX2⟩ : ∃ X, X = X1.alloc (.cells #[.int .i64 0] 3) := ⟨_, rfl⟩
  obtain ⟨H, hH⟩ : ∃ H, H = w.heap.size := ⟨_, rfl⟩
  have hs1 : X1.heap.size = H + 1 := by rw [hX1, hH]; simp
  have hs2 : X2.heap.size = H + 2 := by rw [hX2, size_alloc', hs1]
  have HHs := Lib.hid hH
  obtain ⟨ρ, hρ⟩ : ∃ ρ : Tg, ρ = [(H, 0), (H + 1, 0)] := ⟨_, rfl⟩
  have HHo : Hid (Holds ρ X2 (fun _ => 0)) := by
    intro b hb
    rw [hρ] at hb
    have hbl : Below X1.heap.size X1 X2 := by rw [hX2]; exact (Below.refl _ _).alloc (Nat.le_refl _) _
    have hb' : b = (H, 0) ∨ b = (H + 1, 0) := by simpa using hb
    rcases hb' with rfl | rfl
    · refine ⟨(hbl.cell (p := ⟨H, 0, none⟩) (by rw [hs1]; exact Nat.lt_succ_self _)).trans ?_, (hbl.frozen (p := ⟨H, 0, none⟩) (by rw [hs1]; exact Nat.lt_succ_self _)).trans ?_⟩
      · rw [hX1, hH]
        exact cell_new1 w _ _
      · rw [hX1, hH]
        exact World.frozen?_alloc_new w _ _ _
    · rw [hX2, ← hs1]
      exact ⟨cell_new1 X1 _ _, World.frozen?_alloc_new X1 _ _ _⟩
  have HLow : Hid (Low ρ X2.heap.size) := by
    intro b hb
    rw [hρ] at hb
    have hb' : b = (H, 0) ∨ b = (H + 1, 0) := by simpa using hb
    rw [hs2]
    rcases hb' with rfl | rfl <;> simp
  have HB : Hid (Below w.heap.size w X2) := by rw [hX2, hX1]; exact below_two w _ _
  have HRow := Lib.hid (fun sv fs w h1 h2 => row_any ρ sv fs w h1 h2)
  have HEi := Lib.hid (fun sv fs w h1 h2 => either_any ρ sv fs w h1 h2)
  have HMk := Lib.hid (fun t w h1 => mark_any ρ t w h1)
  have HDg := Lib.hid (fun b i ha n k hk hn w hl => digits_mk ρ b i ha n k hk hn w hl)
  have HIn1 : Hid ((H, 0) ∈ ρ) := by unfold Hid; rw [hρ]; simp
  have HIn2 : Hid ((H + 1, 0) ∈ ρ) := by unfold Hid; rw [hρ]; simp
  have HOff : Hid (∀ b ∈ ρ, H ≤ b.1) := by
    intro b hb
    rw [hρ] at hb
    have hb' : b = (H, 0) ∨ b = (H + 1, 0) := by simpa using hb
    rcases hb' with rfl | rfl <;> simp
  have HSz := Lib.hid hs2
  unfold MakesP at HRow HEi HMk HDg
  obtain ⟨ab, ao⟩ := a
  simp only at hal HPt
  clear hh ha hO h1 hρ
  go_enter Tryd.func51, Tryd.ntmps51
  go_wp2_with fail
  rw [← hX1, ← hX2, ← hH]
  clear hX1 hX2 hH hs1 hs2
  go_wp2_with fail
  with_reducible refine (HMk.out _ X2 HLow.out).mono ?_
  rintro e v1 ⟨g1, lb1, rfl, T1, hb⟩
  have hl : Lt ρ X2 v1 := Lt.of_below hb
  replace HB := Lib.hid (HB.out.trans (hb.mono HB.out.size))
  replace HLow := Lib.hid (HLow.out.mono hb.size)
  replace HHo := Lib.hid (HHo.out.below hb)
  clear hl hb
  replace T1 := Lib.hid T1
  go_wp2_with fail
  with_reducible refine (HMk.out _ v1 HLow.out).mono ?_
  rintro e v2 ⟨g2, lb2, rfl, T2, hb⟩
  have hl : Lt ρ v1 v2 := Lt.of_below hb
  replace HB := Lib.hid (HB.out.trans (hb.mono HB.out.size))
  replace HLow := Lib.hid (HLow.out.mono hb.size)
  replace HHo := Lib.hid (HHo.out.below hb)
  replace T1 := Lib.hid (T1.out.lt hl)
  clear hl hb
  replace T2 := Lib.hid T2
  obtain ⟨v3, hw⟩ : ∃ W, W = v2.alloc (.cells #[.func (.func g1) #[] lb1, .func (.func g2) #[] lb2] 42) := ⟨_, rfl⟩
  have hb : Below v2.heap.size v2 v3 := by rw [hw]; exact (Below.refl _ _).alloc (Nat.le_refl _) _
  have hl : Lt ρ v2 v3 := Lt.of_below hb
  have S3 : Hid (Pcs ρ v3 (.slice (some ⟨v2.heap.size, 0, none⟩) 2 2) [markF [43], markF [45]]) := by rw [hw]; exact pcs_new HLow.out (PcL.cons T1.out (PcL.cons T2.out PcL.nil)) (by simp)
  clear T1
  clear T2
  replace HB := Lib.hid (HB.out.trans (hb.mono HB.out.size))
  replace HLow := Lib.hid (HLow.out.mono hb.size)
  replace HHo := Lib.hid (HHo.out.below hb)
  clear hl hb
  go_wp2_with fail
  rw [← hw]
  clear hw
  with_reducible refine (HEi.out _ _ v3 HLow.out S3.out).mono ?_
  rintro e v4 ⟨g4, lb4, rfl, T4, hb⟩
  have hl : Lt ρ v3 v4 := Lt.of_below hb
  replace HB := Lib.hid (HB.out.trans (hb.mono HB.out.size))
  replace HLow := Lib.hid (HLow.out.mono hb.size)
  replace HHo := Lib.hid (HHo.out.below hb)
  clear hl hb
  replace T4 := Lib.hid T4
  go_wp2_with fail
  with_reducible refine (HDg.out _ _ HIn1.out 2 2 rfl (by omega) v4 HLow.out).mono ?_
  rintro e v5 ⟨g5, lb5, rfl, T5, hb⟩
  have hl : Lt ρ v4 v5 := Lt.of_below hb
  replace HB := Lib.hid (HB.out.trans (hb.mono HB.out.size))
  replace HLow := Lib.hid (HLow.out.mono hb.size)
  replace HHo := Lib.hid (HHo.out.below hb)
  replace T4 := Lib.hid (T4.out.lt hl)
  clear hl hb
  replace T5 := Lib.hid T5
  go_wp2_with fail
  with_reducible refine (HDg.out _ _ HIn2.out 2 2 rfl (by omega) v5 HLow.out).mono ?_
  rintro e v6 ⟨g6, lb6, rfl, T6, hb⟩
  have hl : Lt ρ v5 v6 := Lt.of_below hb
  replace HB := Lib.hid (HB.out.trans (hb.mono HB.out.size))
  replace HLow := Lib.hid (HLow.out.mono hb.size)
  replace HHo := Lib.hid (HHo.out.below hb)
  replace T4 := Lib.hid (T4.out.lt hl)
  replace T5 := Lib.hid (T5.out.lt hl)
  clear hl hb
  replace T6 := Lib.hid T6
  obtain ⟨v7, hw⟩ : ∃ W, W = v6.alloc (.cells #[.func (.func g4) #[] lb4, .func (.func g5) #[] lb5, .func (.func g6) #[] lb6] 42) := ⟨_, rfl⟩
  have hb : Below v6.heap.size v6 v7 := by rw [hw]; exact (Below.refl _ _).alloc (Nat.le_refl _) _
  have hl : Lt ρ v6 v7 := Lt.of_below hb
  have S7 : Hid (Pcs ρ v7 (.slice (some ⟨v6.heap.size, 0, none⟩) 3 3) [eitherF [markF [43], markF [45]], digF 2 (H, 0), digF 2 (H + 1, 0)]) := by rw [hw]; exact pcs_new HLow.out (PcL.cons T4.out (PcL.cons T5.out (PcL.cons T6.out PcL.nil))) (by simp)
  clear T4
  clear T5
  clear T6
  replace HB := Lib.hid (HB.out.trans (hb.mono HB.out.size))
  replace HLow := Lib.hid (HLow.out.mono hb.size)
  replace HHo := Lib.hid (HHo.out.below hb)
  clear hl hb
  go_wp2_with fail
  rw [← hw]
  clear hw
  with_reducible refine (HRow.out _ _ v7 HLow.out S7.out).mono ?_
  rintro e v8 ⟨g8, lb8, rfl, T8, hb⟩
  have hl : Lt ρ v7 v8 := Lt.of_below hb
  replace HB := Lib.hid (HB.out.trans (hb.mono HB.out.size))
  replace HLow := Lib.hid (HLow.out.mono hb.size)
  replace HHo := Lib.hid (HHo.out.below hb)
  clear hl hb
  replace T8 := Lib.hid T8
  obtain ⟨hen, hcall⟩ := T8.out.call
  have eg : ∀ args w, (callFunc g8 args).run Tryd.prog w = .ok (.enter g8 args) w := hen
  have cS := hcall v8 (fun _ => 0) s (Lt.refl _ _) HHo.out hs
  obtain ⟨h, m, o, σ1, hR, hh1, hm1, hh99, hm99, hcase⟩ := awayR_is (H, 0) (H + 1, 0) (by simp) s.data.toList
  unfold awayR at hR
  rw [hR] at cS
  clear hcall hen hR
  go_wp2_with fail
  refine cS.mono ?_
  rintro e w3 ⟨⟨t2, rfl, hl2, hs2⟩, hk3, hh3⟩
  have hvl : H ≤ v8.heap.size := by have := HB.out.size; rw [← HHs.out] at this; exact this
  have HB3 : Hid (Below w.heap.size w w3) := HB.out.trans (by rw [← HHs.out]; exact hk3.below HOff.out hvl)
  have HH3 := Lib.hid (HH.out.below HB3.out)
  have hcH := (hh3 (H, 0) HIn1.out).1
  have hcM := (hh3 (H + 1, 0) HIn2.out).1
  simp only at hcH hcM
  rw [hh1] at hcH
  rw [hm1] at hcM
  have hbH : H < w3.heap.size := World.block_lt_of_cell? _ _ hcH
  have hbM : H + 1 < w3.heap.size := World.block_lt_of_cell? _ _ hcM
  have hp3 : w3.cell? ⟨B, 0, none⟩ = some (.pointer (some ⟨ab, ao, none⟩)) := (HB3.out.cell (p := ⟨B, 0, none⟩) hB).trans HPt.out
  have ha3 := (HH3.out (ab, ao) HA.out).1
  have hf3 := (HH3.out (ab, ao) HA.out).2
  simp only at ha3 hf3
  have hpS : ∀ v, (w3.setCell ⟨ab, ao, none⟩ v).cell? ⟨B, 0, none⟩ = some (.pointer (some ⟨ab, ao, none⟩)) := fun v => (HO.out.set (a := (ab, ao)) HA.out w3 v 0).trans hp3
  have haS : ∀ v, (w3.setCell ⟨ab, ao, none⟩ v).cell? ⟨ab, ao, none⟩ = some v := fun v => World.cell?_setCell_same _ _ _ ha3
  have hfS : ∀ v, (w3.setCell ⟨ab, ao, none⟩ v).frozen? ⟨ab, ao, none⟩ = false := fun v => (World.frozen?_setCell _ _ _ _).trans hf3
  have HX := Lib.hid (show ∀ v, Lt τ w (w3.setCell ⟨ab, ao, none⟩ v) from fun v => (Lt.of_below HB3.out).trans (Lt.set (a := (ab, ao)) HA.out v))
  have HX2 := Lib.hid (show ∀ u v, Lt τ w ((w3.setCell ⟨ab, ao, none⟩ u).setCell ⟨ab, ao, none⟩ v) from fun u v => (HX.out u).trans (Lt.set (a := (ab, ao)) HA.out v))
  have HY := Lib.hid (show ∀ n, Holds τ (w3.setCell ⟨ab, ao, none⟩ (.int .i64 n)) (upd σ (ab, ao) n) from fun n => HH3.out.set (a := (ab, ao)) HA.out n)
  have HY2 := Lib.hid (show ∀ u n, Holds τ ((w3.setCell ⟨ab, ao, none⟩ (.int .i64 u)).setCell ⟨ab, ao, none⟩ (.int .i64 n)) (upd σ (ab, ao) n) from fun u n => by
    have := (HY.out u).set (a := (ab, ao)) HA.out n
    rwa [upd_upd] at this)
  have HL2 := Lib.hid hl2
  clear hh3 hk3 hh1 hm1 cS hl2 HLow HHo HHs HIn1 HIn2 HOff HSz
  rcases hcase with ⟨hK, rfl⟩ | ⟨hK, rfl, hl0⟩
  · have HR : Hid (awayF (ab, ao) σ s.data.toList = (none, σ)) := by
      unfold Hid awayF
      rw [hK]
    clear hK
    go_wp2_with fail
    go_ret2
    rw [HR.out]
    exact ⟨⟨s, rfl, (fun l h => by cases h), Nat.le_refl _⟩, Lt.of_below HB3.out, HH3.out⟩
  · have hl0' : 0 < s.size := by rw [len_toList] at hl0; exact hl0
    by_cases h23 : h ≤ 23
    · have h23i : decide ((23 : Int) < (h : Int)) = false := decide_eq_false (by omega)
      by_cases h59 : m ≤ 59
      · have h59i : decide ((59 : Int) < (m : Int)) = false := decide_eq_false (by omega)
        have hhd : s.data.toList.head? = some s[0] := head_at s hl0'
        have HR : Hid (awayF (ab, ao) σ s.data.toList = (some (s.data.toList.drop 5), upd σ (ab, ao) (awayM s.data.toList h m))) := by
          unfold Hid awayF
          rw [hK]
          exact if_pos ⟨h23, h59⟩
        clear hK hl0
        by_cases hneg : s[0].toNat = 45
        · have hne : ((s[0].toNat : Int) == 45) = true := beq_yes (by omega)
          have HM : Hid (awayM s.data.toList h m = -((h * 60 + m : Nat) : Int)) := by
            unfold Hid awayM
            rw [hhd, if_pos]
            exact congrArg some (UInt8.toNat_inj.1 hneg)
          clear hneg hhd
          obtain ⟨z, hz⟩ : ∃ z : Int, z = (h : Int) * 60 + (m : Int) := ⟨_, rfl⟩
          have hz1 : 0 ≤ z ∧ z ≤ 10000 := by omega
          go_wp2_with fail
          rw [← hz]
          obtain ⟨W4, hW4⟩ : ∃ W4, W4 = w3.setCell ⟨ab, ao, none⟩ (.int .i64 z) := ⟨_, rfl⟩
          have hp4 : W4.cell? ⟨B, 0, none⟩ = some (.pointer (some ⟨ab, ao, none⟩)) := by rw [hW4]; exact hpS _
          have ha4 : W4.cell? ⟨ab, ao, none⟩ = some (.int .i64 z) := by rw [hW4]; exact haS _
          have hf4 : W4.frozen? ⟨ab, ao, none⟩ = false := by rw [hW4]; exact hfS _
          have HX4 := Lib.hid (HX2.out (.int .i64 z) (.int .i64 (-z)))
          have HY4 := Lib.hid (HY2.out z (-z))
          rw [← hW4] at HX4 HY4 ⊢
          clear hW4 hp3 ha3 hf3 hpS haS hfS hcH hcM
          have HZ := Lib.hid hz
          go_region
          go_wp2_with fail
          go_ret2
          rw [HR.out, HM.out]
          rw [show (-((h * 60 + m : Nat) : Int)) = -z by rw [HZ.out]; omega, ← HZ.out]
          exact ⟨⟨t2, rfl, HL2.out, hs2⟩, HX4.out.trans (Lt.of_below (below_drewN' 1)), HY4.out.below (below_drewN' 1)⟩
        · have hne : ((s[0].toNat : Int) == 45) = false := beq_no (by omega)
          have HM : Hid (awayM s.data.toList h m = ((h * 60 + m : Nat) : Int)) := by
            unfold Hid awayM
            rw [hhd, if_neg]
            intro e
            apply hneg
            exact congrArg UInt8.toNat (Option.some.inj e)
          clear hneg hhd
          go_wp2_with fail
          go_ret2
          rw [HR.out, HM.out]
          refine ⟨⟨t2, rfl, HL2.out, hs2⟩, HX.out _, ?_⟩
          rw [show (((h * 60 + m : Nat) : Int)) = (h : Int) * 60 + (m : Int) by omega]
          exact HY.out _
      · have h59i : decide ((59 : Int) < (m : Int)) = true := decide_eq_true (by omega)
        have HR : Hid (awayF (ab, ao) σ s.data.toList = (none, σ)) := by
          unfold Hid awayF
          rw [hK]
          exact if_neg (fun h => h59 h.2)
        clear hK hl0
        go_wp2_with fail
        go_ret2
        rw [HR.out]
        exact ⟨⟨s, rfl, (fun l h => by cases h), Nat.le_refl _⟩, Lt.of_below HB3.out, HH3.out⟩
    · have h23i : decide ((23 : Int) < (h : Int)) = true := decide_eq_true (by omega)
      have HR : Hid (awayF (ab, ao) σ s.data.toList = (none, σ)) := by
        unfold Hid awayF
        rw [hK]
        exact if_neg (fun h => h23 h.1)
      clear hK hl0
      go_wp2_with fail
      go_ret2
      rw [HR.out]
      exact ⟨⟨s, rfl, (fun l h => by cases h), Nat.le_refl _⟩, Lt.of_below HB3.out, HH3.out⟩
set_option maxRecDepth 100000 in
theorem away_mk (τ : Tg) (b i : Nat) (ha : (b, i) ∈ τ) (w : World) (hl : Low τ w.heap.size) :
    Calls Tryd.prog 23 #[.pointer (some ⟨b, i, none⟩)] w (MakesP τ w (awayF (b, i))) := by
  unfold MakesP
  go_enter Tryd.func23, Tryd.ntmps23
  go_wp2
  go_ret
  refine ⟨_, _, rfl, ⟨51, #[.pointer (some ⟨w.heap.size, 0, none⟩)], rfl, enters_of Tryd.func51 (by kernel_rfl) rfl, ?_⟩, (Below.refl _ _).alloc (Nat.le_refl _) _⟩
  intro W σ s hL hH hs
  have ho : Off τ w.heap.size := hl.off (Nat.le_refl _)
  exact away1_any τ (b, i) ha _ W ((hL.cell (by simp) ho).trans (cell_new1 w _ _)) σ s hH ho hs
end Go.Proofs.YtpmjlhpbknppiaaDoor
