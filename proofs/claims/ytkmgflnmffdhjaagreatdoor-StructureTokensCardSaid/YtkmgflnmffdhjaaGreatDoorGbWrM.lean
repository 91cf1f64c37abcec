/- Layer 18: contracts of package wire: token. -/
import Derived.Test.YtkmgflnmffdhjaaGreatDoorGbWrK
namespace Go.Proofs.YtkmgflnmffdhjaaGreatDoor
open Go Go.RowKit

theorem tok_quo (r : List UInt8) : tokW (34 :: r) = (quoW r).map fun p => (2, p.1, p.2) := by
  unfold tokW
  rw [litW_not (by decide) (by decide)]
  simp only
  rw [if_neg (by decide), if_neg (by decide), if_neg (by decide), if_pos trivial]
theorem tok_lit {s t q : List UInt8} (h : litW s = some (t, q)) : tokW s = some (2, t, q) := by
  unfold tokW
  rw [h]
theorem tok_word {c : UInt8} {r : List UInt8} (h : litW (c :: r) = none) (h1 : c ≠ 40) (h2 : c ≠ 41) (h3 : c ≠ 32) (h4 : c ≠ 34) : tokW (c :: r) = (wrdW ((c :: r).length + 1) [] (c :: r)).bind fun p => if p.1 = [] then none else some (1, p.1, p.2) := by
  unfold tokW
  rw [h]
  simp only
  rw [if_neg h1, if_neg h2, if_neg h3, if_neg h4]
  cases wrdW ((c :: r).length + 1) [] (c :: r) <;> rfl
/-- What 'token' answers. -/
def TkW (B b off cap : Nat) (l : List UInt8) (k : Nat) (w : World) (o : Option (Nat × List UInt8 × List UInt8)) (e : Ending) (w' : World) : Prop :=
  match o with
  | none => ∃ (kd : Nat) (t : List UInt8), e = .returned (.tuple #[.agg #[.int .i64 (kd : Int), .string ⟨t.toArray⟩], .bool false]) ∧ Gr B w w'
  | some (kd, t, r) => ∃ k' : Nat, e = .returned (.tuple #[.agg #[.int .i64 (kd : Int), .string ⟨t.toArray⟩], .bool true]) ∧ k < k' ∧ k' ≤ l.length ∧ l.drop k' = r ∧ Rb w' B b off cap l k' ∧ Gr B w w'
theorem take_nil_iff {l : List UInt8} {k k' : Nat} (h : k ≤ k') (h2 : k' ≤ l.length) : (l.drop k).take (k' - k) = [] ↔ ¬ k < k' := by
  constructor
  · intro e
    have := congrArg List.length e
    rw [List.length_take, List.length_drop] at this
    simp at this
    omega
  · intro e
    rw [show k' - k = 0 by omega]
    rfl
set_option maxRecDepth 100000 in
set_option maxHeartbeats 4000000 in
theorem wtoken_any (B b off cap : Nat) (l : List UInt8) (k : Nat) (w : World) (hr : Rb w B b off cap l k) (hk : k < l.length) :
    Calls Tryz.prog 13 #[.pointer (some ⟨B, 0, none⟩)] w (TkW B b off cap l k w (tokW (l.drop k))) := by
  have hBw := hr.ltB
  have hbw := hr.lt
  have hsm := hr.sm
  have hmx := hr.mx
  have hle := hr.le
  have hkl : k ≤ l.length := by omega
  have HTk := Lib.hid (fun j q p W x hq hp hx (h : Rb W B b off cap l j) hj => wtakes_any B b off cap l j q p W hq hp h hj x hx)
  have HQ := Lib.hid (fun j W (h : Rb W B b off cap l j) hj => wquoted_any B b off cap l j W h hj)
  have HLi := Lib.hid (fun j W (h : Rb W B b off cap l j) hj => wliteral_any B b off cap l j W h hj)
  have HWd := Lib.hid (fun j W (h : Rb W B b off cap l j) hj => wword1_any B b off cap l j W h hj)
  have HD := Lib.hid (drop_consL hk)
  have HB0 : Hid (B2 (w.alloc (.cells #[.int .i64 0, .string ⟨#[]⟩] 38)) w.heap.size 38 (.int .i64 0) (.string ⟨#[]⟩)) := B2.new _ _ _ _
  have HA0 : Hid (Below w.heap.size w (w.alloc (.cells #[.int .i64 0, .string ⟨#[]⟩] 38))) := (Below.refl _ _).alloc (Nat.le_refl _) _
  have HR0 := Lib.hid (hr.below HA0.out)
  have HG0 : Hid (Gr B w (w.alloc (.cells #[.int .i64 0, .string ⟨#[]⟩] 38))) := (Gr.refl B w).below HA0.out
  obtain ⟨w0, hw0⟩ : ∃ x, x = w.alloc (.cells #[.int .i64 0, .string ⟨#[]⟩] 38) := ⟨_, rfl⟩
  rw [← hw0] at HB0 HR0 HG0
  have HW0 := Lib.hid hw0
  have HW : Hid (∀ (W : World) (u v : Value), Below w.heap.size W ((W.setCell ⟨w.heap.size, 0, none⟩ u).setCell ⟨w.heap.size, 1, none⟩ v)) := fun W u v => ((Below.refl w.heap.size W).setCell (p := ⟨w.heap.size, 0, none⟩) (Nat.le_refl _) u).setCell (p := ⟨w.heap.size, 1, none⟩) (Nat.le_refl _) v
  clear hr hw0 HA0
  go_enter Tryz.func13, Tryz.ntmps13
  obtain ⟨x1, hx1⟩ : ∃ x, ([40] : List UInt8).isPrefixOf (l.drop k) = x := ⟨_, rfl⟩
  have HX1 := Lib.hid (pre1_at 40 hk x1 hx1)
  have HT1 := Lib.hid (HTk.out k ⟨#[40]⟩ [40] w0 x1 rfl (by decide) hx1 HR0.out hkl)
  clear hx1
  go_wp2_with fail
  rw [← HW0.out]
  with_reducible refine HT1.out.mono ?_
  rintro e w1 ⟨rfl, hr1, hg1⟩
  have HB1 := Lib.hid (HB0.out.gr hg1 (by omega))
  have HG1 := Lib.hid (HG0.out.trans hg1)
  cases x1 with
  | true =>
    have HR1 : Hid (Rb w1 B b off cap l (k + 1)) := hr1
    have HE : Hid (tokW (l.drop k) = some (3, [], l.drop (k + 1))) := by unfold Hid; rw [HD.out, show l[k] = 40 by have := HX1.out; simpa using this.symm, tok_open]
    have c0 := HB1.out.c0
    have c1 := HB1.out.c1
    have f0 := HB1.out.f 0
    have f1 := HB1.out.f 1
    clear hr1 hg1 HT1
    go_wp2_with fail
    (try simp only [Exit.inBlock, Exit.then])
    refine bodyPost_ret (results_cell_rowW (P := Tryz.prog) Tryz.results13 _ _ w.heap.size 38 _ (0, 0) _ rfl ((HB1.out.set0 (.int .i64 3)).set1 (.string ⟨#[]⟩)) Tryz.underlying38 rfl (by kernel_rfl)) rfl ?_
    rw [HE.out]
    exact ⟨k + 1, rfl, by omega, hk, rfl, HR1.out.low (HW.out _ _ _) hBw hbw, HG1.out.low (HW.out _ _ _)⟩
  | false =>
    have HR1 : Hid (Rb w1 B b off cap l k) := hr1
    have HNe1 : Hid (l[k] ≠ 40) := by have := HX1.out; unfold Hid; simpa using this.symm
    clear hr1 hg1 HT1 HB0 HG0 HR0
    obtain ⟨x2, hx2⟩ : ∃ x, ([41] : List UInt8).isPrefixOf (l.drop k) = x := ⟨_, rfl⟩
    have HX2 := Lib.hid (pre1_at 41 hk x2 hx2)
    have HT2 := Lib.hid (HTk.out k ⟨#[41]⟩ [41] w1 x2 rfl (by decide) hx2 HR1.out hkl)
    clear hx2
    go_wp2_with fail
    with_reducible refine HT2.out.mono ?_
    rintro e w2 ⟨rfl, hr2, hg2⟩
    have HB2 := Lib.hid (HB1.out.gr hg2 (by omega))
    have HG2 := Lib.hid (HG1.out.trans hg2)
    cases x2 with
    | true =>
      have HR2 : Hid (Rb w2 B b off cap l (k + 1)) := hr2
      have HE : Hid (tokW (l.drop k) = some (4, [], l.drop (k + 1))) := by unfold Hid; rw [HD.out, show l[k] = 41 by have := HX2.out; simpa using this.symm, tok_close]
      have c0 := HB2.out.c0
      have c1 := HB2.out.c1
      have f0 := HB2.out.f 0
      have f1 := HB2.out.f 1
      clear hr2 hg2 HT2
      go_wp2_with fail
      (try simp only [Exit.inBlock, Exit.then])
      refine bodyPost_ret (results_cell_rowW (P := Tryz.prog) Tryz.results13 _ _ w.heap.size 38 _ (0, 0) _ rfl ((HB2.out.set0 (.int .i64 4)).set1 (.string ⟨#[]⟩)) Tryz.underlying38 rfl (by kernel_rfl)) rfl ?_
      rw [HE.out]
      exact ⟨k + 1, rfl, by omega, hk, rfl, HR2.out.low (HW.out _ _ _) hBw hbw, HG2.out.low (HW.out _ _ _)⟩
    | false =>
      have HR2 : Hid (Rb w2 B b off cap l k) := hr2
      have HNe2 : Hid (l[k] ≠ 41) := by have := HX2.out; unfold Hid; simpa using this.symm
      clear hr2 hg2 HT2 HB1 HG1 HR1
      obtain ⟨x3, hx3⟩ : ∃ x, ([32] : List UInt8).isPrefixOf (l.drop k) = x := ⟨_, rfl⟩
      have HX3 := Lib.hid (pre1_at 32 hk x3 hx3)
      have HT3 := Lib.hid (HTk.out k ⟨#[32]⟩ [32] w2 x3 rfl (by decide) hx3 HR2.out hkl)
      clear hx3
      go_wp2_with fail
      with_reducible refine HT3.out.mono ?_
      rintro e w3 ⟨rfl, hr3, hg3⟩
      have HB3 := Lib.hid (HB2.out.gr hg3 (by omega))
      have HG3 := Lib.hid (HG2.out.trans hg3)
      cases x3 with
      | true =>
        have HR3 : Hid (Rb w3 B b off cap l (k + 1)) := hr3
        have HE : Hid (tokW (l.drop k) = some (5, [], l.drop (k + 1))) := by unfold Hid; rw [HD.out, show l[k] = 32 by have := HX3.out; simpa using this.symm, tok_space]
        have c0 := HB3.out.c0
        have c1 := HB3.out.c1
        have f0 := HB3.out.f 0
        have f1 := HB3.out.f 1
        clear hr3 hg3 HT3
        go_wp2_with fail
        (try simp only [Exit.inBlock, Exit.then])
        refine bodyPost_ret (results_cell_rowW (P := Tryz.prog) Tryz.results13 _ _ w.heap.size 38 _ (0, 0) _ rfl ((HB3.out.set0 (.int .i64 5)).set1 (.string ⟨#[]⟩)) Tryz.underlying38 rfl (by kernel_rfl)) rfl ?_
        rw [HE.out]
        exact ⟨k + 1, rfl, by omega, hk, rfl, HR3.out.low (HW.out _ _ _) hBw hbw, HG3.out.low (HW.out _ _ _)⟩
      | false =>
        have HR3 : Hid (Rb w3 B b off cap l k) := hr3
        have HNe3 : Hid (l[k] ≠ 32) := by have := HX3.out; unfold Hid; simpa using this.symm
        clear hr3 hg3 HT3 HB2 HG2 HR2
        obtain ⟨x4, hx4⟩ : ∃ x, ([34] : List UInt8).isPrefixOf (l.drop k) = x := ⟨_, rfl⟩
        have HX4 := Lib.hid (pre1_at 34 hk x4 hx4)
        have HT4 := Lib.hid (HTk.out k ⟨#[34]⟩ [34] w3 x4 rfl (by decide) hx4 HR3.out hkl)
        clear hx4
        go_wp2_with fail
        with_reducible refine HT4.out.mono ?_
        rintro e w4 ⟨rfl, hr4, hg4⟩
        have HB4 := Lib.hid (HB3.out.gr hg4 (by omega))
        have HG4 := Lib.hid (HG3.out.trans hg4)
        cases x4 with
        | true =>
          have HR4 : Hid (Rb w4 B b off cap l (k + 1)) := hr4
          have HE : Hid (tokW (l.drop k) = (quoW (l.drop (k + 1))).map fun p => (2, p.1, p.2)) := by unfold Hid; rw [HD.out, show l[k] = 34 by have := HX4.out; simpa using this.symm, tok_quo]
          have HQ1 := Lib.hid (HQ.out (k + 1) w4 HR4.out hk)
          unfold QuoW at HQ1
          clear hr4 hg4 HT4 HB3 HG3 HR3
          cases hq : quoW (l.drop (k + 1)) with
          | none =>
            rw [hq] at HQ1 HE
            have HQ1 := Lib.hid HQ1.out
            simp only at HQ1
            clear hq
            go_wp2_with fail
            with_reducible refine HQ1.out.mono ?_
            rintro e w5 ⟨rfl, k5, hk5, hr5, hg5⟩
            have HB5 := Lib.hid (HB4.out.gr hg5 (by omega))
            have HG5 := Lib.hid (HG4.out.trans hg5)
            have hcv := bytesArg_string (W := w5) (v := .slice none 0 0) (l := []) ⟨none, 0, rfl, Nat.le_refl _, Nat.zero_le _, .inl rfl⟩
            have c0 := HB5.out.c0
            have c1 := HB5.out.c1
            have f0 := HB5.out.f 0
            have f1 := HB5.out.f 1
            clear hr5 hg5
            go_wp2_with fail
            (try simp only [Exit.inBlock, Exit.then])
            refine bodyPost_ret (results_cell_rowW (P := Tryz.prog) Tryz.results13 _ _ w.heap.size 38 _ (0, 0) _ rfl ((HB5.out.set0 (.int .i64 2)).set1 (.string ⟨#[]⟩)) Tryz.underlying38 rfl (by kernel_rfl)) rfl ?_
            rw [HE.out]
            exact ⟨2, [], rfl, HG5.out.low (HW.out _ _ _)⟩
          | some p =>
            obtain ⟨t, q⟩ := p
            rw [hq] at HQ1 HE
            have HQ1 := Lib.hid HQ1.out
            simp only at HQ1
            have HQL := Lib.hid (quoW_len hq)
            clear hq
            go_wp2_with fail
            with_reducible refine HQ1.out.mono ?_
            rintro e w5 ⟨v5, k5, rfl, hv5, _, hk5, hr5, hd5, hg5⟩
            have HR5 := Lib.hid hr5
            have HB5 := Lib.hid (HB4.out.gr hg5 (by omega))
            have HG5 := Lib.hid (HG4.out.trans hg5)
            have HD5 := Lib.hid hd5
            have hcv := bytesArg_string hv5
            have c0 := HB5.out.c0
            have c1 := HB5.out.c1
            have f0 := HB5.out.f 0
            have f1 := HB5.out.f 1
            have hlt5 : k < k5 := by
              have h1 := HQL.out
              rw [← hd5, List.length_drop, List.length_drop] at h1
              omega
            clear hr5 hg5 hv5 hd5
            go_wp2_with fail
            (try simp only [Exit.inBlock, Exit.then])
            refine bodyPost_ret (results_cell_rowW (P := Tryz.prog) Tryz.results13 _ _ w.heap.size 38 _ (0, 0) _ rfl ((HB5.out.set0 (.int .i64 2)).set1 (.string ⟨t.toArray⟩)) Tryz.underlying38 rfl (by kernel_rfl)) rfl ?_
            rw [HE.out]
            exact ⟨k5, rfl, hlt5, hk5, HD5.out, HR5.out.low (HW.out _ _ _) hBw hbw, HG5.out.low (HW.out _ _ _)⟩
        | false =>
          have HR4 : Hid (Rb w4 B b off cap l k) := hr4
          have HNe4 : Hid (l[k] ≠ 34) := by have := HX4.out; unfold Hid; simpa using this.symm
          have HL1 := Lib.hid (HLi.out k w4 HR4.out hkl)
          unfold LtW at HL1
          clear hr4 hg4 HT4 HB3 HG3 HR3
          cases hx : litW (l.drop k) with
          | some p =>
            obtain ⟨t, q⟩ := p
            have HE := Lib.hid (tok_lit hx)
            rw [hx] at HL1
            have HL1 := Lib.hid HL1.out
            simp only at HL1
            clear hx
            go_wp2_with fail
            with_reducible refine HL1.out.mono ?_
            rintro e w5 ⟨f, k5, rfl, hlt5, hf5, hk5, ht5, hd5, hr5, hg5⟩
            have HR5 := Lib.hid hr5
            have HB5 := Lib.hid (HB4.out.gr hg5 (by omega))
            have HG5 := Lib.hid (HG4.out.trans hg5)
            have HD5 := Lib.hid hd5
            have hcv := bytesArg_string (cutV_arg hr5.src hf5 hk5 (by omega))
            rw [ht5] at hcv
            have c0 := HB5.out.c0
            have c1 := HB5.out.c1
            have f0 := HB5.out.f 0
            have f1 := HB5.out.f 1
            clear hr5 hg5 hd5 ht5
            generalize cutV b off f k5 = v5 at hcv ⊢
            go_wp2_with fail
            (try simp only [Exit.inBlock, Exit.then])
            refine bodyPost_ret (results_cell_rowW (P := Tryz.prog) Tryz.results13 _ _ w.heap.size 38 _ (0, 0) _ rfl ((HB5.out.set0 (.int .i64 2)).set1 (.string ⟨t.toArray⟩)) Tryz.underlying38 rfl (by kernel_rfl)) rfl ?_
            rw [HE.out]
            exact ⟨k5, rfl, hlt5, hk5, HD5.out, HR5.out.low (HW.out _ _ _) hBw hbw, HG5.out.low (HW.out _ _ _)⟩
          | none =>
            have hE0 := hx
            rw [HD.out] at hE0
            have hE1 := tok_word hE0 HNe1.out HNe2.out HNe3.out HNe4.out
            rw [← HD.out] at hE1
            rw [hx] at HL1
            have HL1 := Lib.hid HL1.out
            simp only at HL1
            clear hx hE0
            go_wp2_with fail
            with_reducible refine HL1.out.mono ?_
            rintro e w5 ⟨rfl, hb5⟩
            have HR5 := Lib.hid (HR4.out.below hb5)
            have HB5 := Lib.hid (HB4.out.below hb5)
            have HG5 := Lib.hid (HG4.out.below hb5)
            have HW1 := Lib.hid (HWd.out k w5 HR5.out hkl)
            unfold WdW at HW1
            clear hb5 HR4 HB4 HG4 HL1
            cases hy : wrdW ((l.drop k).length + 1) [] (l.drop k) with
            | none =>
              rw [hy] at hE1 HW1
              have HE : Hid (tokW (l.drop k) = none) := hE1
              have HW1 := Lib.hid HW1.out
              simp only at HW1
              clear hy hE1
              go_wp2_with fail
              with_reducible refine HW1.out.mono ?_
              rintro e w6 ⟨rfl, k6, hk6, hr6, hg6⟩
              have HB6 := Lib.hid (HB5.out.gr hg6 (by omega))
              have HG6 := Lib.hid (HG5.out.trans hg6)
              have hcv := bytesArg_string (W := w6) (v := .slice none 0 0) (l := []) ⟨none, 0, rfl, Nat.le_refl _, Nat.zero_le _, .inl rfl⟩
              have c0 := HB6.out.c0
              have c1 := HB6.out.c1
              have f0 := HB6.out.f 0
              have f1 := HB6.out.f 1
              clear hr6 hg6
              go_wp2_with fail
              (try simp only [Exit.inBlock, Exit.then])
              refine bodyPost_ret (results_cell_rowW (P := Tryz.prog) Tryz.results13 _ _ w.heap.size 38 _ (0, 0) _ rfl ((HB6.out.set0 (.int .i64 1)).set1 (.string ⟨#[]⟩)) Tryz.underlying38 rfl (by kernel_rfl)) rfl ?_
              rw [HE.out]
              exact ⟨1, [], rfl, HG6.out.low (HW.out _ _ _)⟩
            | some p =>
              obtain ⟨t, q⟩ := p
              rw [hy] at hE1 HW1
              have HW1 := Lib.hid HW1.out
              simp only at HW1
              simp only [Option.bind_some] at hE1
              have HE1 := Lib.hid hE1
              clear hy hE1
              go_wp2_with fail
              with_reducible refine HW1.out.mono ?_
              rintro e w6 ⟨k6, rfl, hkk, hk6, ht6, hd6, hr6, hg6⟩
              have HR6 := Lib.hid hr6
              have HB6 := Lib.hid (HB5.out.gr hg6 (by omega))
              have HG6 := Lib.hid (HG5.out.trans hg6)
              have HD6 := Lib.hid hd6
              have hnil := take_nil_iff hkk hk6
              rw [ht6] at hnil
              have HNil := Lib.hid hnil
              have hcv := bytesArg_string (cutV_arg hr6.src hkk hk6 (by omega))
              rw [ht6] at hcv
              have c0 := HB6.out.c0
              have c1 := HB6.out.c1
              have f0 := HB6.out.f 0
              have f1 := HB6.out.f 1
              have HLt : Hid (decide (k < k6) = true ↔ k < k6) := decide_eq_true_iff
              clear hr6 hg6 hd6 ht6 hnil
              generalize cutV b off k k6 = v6 at hcv ⊢
              generalize decide (k < k6) = x6 at HLt ⊢
              go_wp2_with fail
              (try simp only [Exit.inBlock, Exit.then])
              refine bodyPost_ret (results_cell_rowW (P := Tryz.prog) Tryz.results13 _ _ w.heap.size 38 _ (0, 0) _ rfl ((HB6.out.set0 (.int .i64 1)).set1 (.string ⟨t.toArray⟩)) Tryz.underlying38 rfl (by kernel_rfl)) rfl ?_
              cases x6 with
              | true =>
                have hlt := HLt.out.1 rfl
                rw [HE1.out, if_neg (fun e => HNil.out.1 e hlt)]
                exact ⟨k6, rfl, hlt, hk6, HD6.out, HR6.out.low (HW.out _ _ _) hBw hbw, HG6.out.low (HW.out _ _ _)⟩
              | false =>
                have hlt : ¬ k < k6 := fun h => by have := HLt.out.2 h; cases this
                rw [HE1.out, if_pos (HNil.out.2 hlt)]
                exact ⟨1, t, rfl, HG6.out.low (HW.out _ _ _)⟩
end Go.Proofs.YtkmgflnmffdhjaaGreatDoor

/- Layer 18: contracts of package wire: Tokens. -/
namespace Go.Proofs.YtkmgflnmffdhjaaGreatDoor
open Go Go.RowKit

def tokC (p : Nat × List UInt8) : List Value := [.int .i64 (p.1 : Int), .string ⟨p.2.toArray⟩]
def tokCells (ts : List (Nat × List UInt8)) : List Value := ts.flatMap tokC
theorem tokCells_snoc (ts : List (Nat × List UInt8)) (p : Nat × List UInt8) : tokCells (ts ++ [p]) = tokCells ts ++ tokC p := by simp [tokCells]
theorem tokCells_at (ts : List (Nat × List UInt8)) (i : Nat) (h : i < ts.length) : (tokCells ts)[i * 2]? = some (.int .i64 (ts[i].1 : Int)) ∧ (tokCells ts)[i * 2 + 1]? = some (.string ⟨ts[i].2.toArray⟩) := by
  induction ts generalizing i with
  | nil => simp at h
  | cons x r ih =>
    have e : tokCells (x :: r) = tokC x ++ tokCells r := by simp [tokCells]
    rw [e]
    cases i with
    | zero => simp [tokC]
    | succ i =>
      have := ih i (by simpa using h)
      simp only [List.getElem_cons_succ]
      rw [List.getElem?_append_right (by simp [tokC]; omega), List.getElem?_append_right (by simp [tokC]; omega)]
      simp only [tokC, List.length_cons, List.length_nil]
      rw [show (i + 1) * 2 - (0 + 1 + 1) = i * 2 by omega, show (i + 1) * 2 + 1 - (0 + 1 + 1) = i * 2 + 1 by omega]
      exact this
theorem Tryz.infoTok : (Tryz.prog.info? 38).map (fun i => (i.zero, i.size, i.bytes)) = some (some (.agg #[.int .i64 0, .string ⟨#[]⟩]), 2, 24) := by kernel_rfl
theorem own_grN {B base n k : Nat} {W W' : World} {e : TypeId} {v : Value} {xs : List Value} (h : W.ownsRow base e k v n xs) (hg : Gr B W W') (hB : B < base) : W'.ownsRow base e k v n xs := by
  refine h.kept hg ?_
  rcases hv : v.ownBlock with _ | q
  · exact .inl rfl
  · right
    intro e
    cases e
    have := (h.lt _ hv).1
    omega
theorem own_belowN {base n k : Nat} {W W' : World} {e : TypeId} {v : Value} {xs : List Value} (h : W.ownsRow base e k v n xs) (hb : Below W.heap.size W W') : W'.ownsRow base e k v n xs :=
  h.kept (row := none) ⟨hb.os, hb.tape, hb.output, hb.size, fun i hi _ => hb.block i hi⟩ (by
    rcases hv : v.ownBlock with _ | q
    · exact .inl rfl
    · exact .inr (by simp))
theorem own_castN {w : World} {base n n' k : Nat} {e : TypeId} {v : Value} {xs ys : List Value} (h : w.ownsRow base e k v n xs) (h1 : n = n') (h2 : xs = ys) : w.ownsRow base e k v n' ys := by subst h1 h2; exact h
/-- What Tokens answers. -/
def TksW (w : World) (o : Option (List (Nat × List UInt8))) (e : Ending) (w' : World) : Prop :=
  Below w.heap.size w w' ∧ match o with
  | none => e = .returned (.tuple #[.slice none 0 0, .int .i64 50])
  | some ts => ∃ u, e = .returned (.tuple #[u, .int .i64 0]) ∧ w'.ownsRow (w.heap.size + 1) 38 2 u ts.length (tokCells ts)
theorem toksW_no {g : Nat} {s : List UInt8} (h0 : s ≠ []) (h : tokW s = none) : toksW (g + 1) s = none := by
  cases s with
  | nil => exact absurd rfl h0
  | cons c r =>
    conv => lhs; unfold toksW
    rw [h]
set_option maxRecDepth 100000 in
set_option maxHeartbeats 4000000 in
theorem wtokens_nil (v : Value) (w : World) (hv : bytesArg w v []) : Calls Tryz.prog 8 #[v] w (TksW w (toksW 1 [])) := by
  obtain ⟨ao, cap, rfl, hc, hm, _⟩ := hv
  go_enter Tryz.func8, Tryz.ntmps8
  go_wp2_with fail
  refine wp_loop_rounds 1 ?_
  rw [rounds_succ]
  go_wp2
  go_ret2
  exact ⟨(Below.refl _ _).alloc (Nat.le_refl _) _, _, rfl, ⟨rfl, .inl ⟨rfl, rfl⟩⟩⟩
set_option maxRecDepth 100000 in
set_option maxHeartbeats 4000000 in
theorem wtokens_at (b off cap : Nat) (l : List UInt8) (w : World) (hlt : b < w.heap.size) (hc : l.length ≤ cap) (hm : cap ≤ maxLen) (hsm : l.length ≤ 1000000000000) (hat : ∀ j, (h : j < l.length) → w.cell? ⟨b, off + j, none⟩ = some (byteV l[j])) :
    Calls Tryz.prog 8 #[.slice (some ⟨b, off, none⟩) l.length cap] w (TksW w (toksW (l.length + 1) l)) := by
  obtain ⟨i0, hi, hz⟩ := Option.map_eq_some_iff.1 Tryz.infoTok
  simp only [Prod.mk.injEq] at hz
  obtain ⟨hz0, hz1, hz2⟩ := hz
  obtain ⟨w0, hw0⟩ : ∃ x, x = w.alloc (.cells #[.slice (some ⟨b, off, none⟩) l.length cap, .int .i64 0] 48) := ⟨_, rfl⟩
  have HB0 : Hid (Below w.heap.size w w0) := by unfold Hid; rw [hw0]; exact (Below.refl _ _).alloc (Nat.le_refl _) _
  have HR0 : Hid (Rb w0 w.heap.size b off cap l 0) := by
    have h2 : B2 w0 w.heap.size 48 (.slice (some ⟨b, off, none⟩) l.length cap) (.int .i64 0) := by rw [hw0]; exact B2.new _ _ _ _
    exact ⟨h2.c0, h2.c1, h2.f 1, by omega, hc, hm, hsm, by have := HB0.out.size; omega, fun j hj => (HB0.out.cell (p := ⟨b, off + j, none⟩) hlt).trans (hat j hj)⟩
  have HTk := Lib.hid (fun j W (h : Rb W w.heap.size b off cap l j) hj => wtoken_any w.heap.size b off cap l j W h hj)
  have HW0 := Lib.hid hw0
  have hbase : w.heap.size + 1 ≤ w0.heap.size := HR0.out.ltB
  have HBlt := hlt
  clear hat hlt
  go_enter Tryz.func8, Tryz.ntmps8
  go_wp2_with fail
  rw [← HW0.out]
  clear hw0
  go_loopg [5] l.length (fun g v wr => ∃ (j n : Nat) (acc : List (Nat × List UInt8)), g = l.length - j ∧ j ≤ l.length ∧ acc.length ≤ j ∧ Hid ((l.drop j).length < n) ∧ Hid (Rb wr w.heap.size b off cap l j) ∧ Hid (Below w.heap.size w wr) ∧ Hid (w.heap.size + 1 ≤ wr.heap.size) ∧
    Hid (wr.ownsRow (w.heap.size + 1) 38 2 v acc.length (tokCells acc)) ∧ Hid (toksW (l.length + 1) l = (toksW n (l.drop j)).map fun ts => acc ++ ts))
  case atStart => exact ⟨0, l.length + 1, [], by omega, by omega, Nat.zero_le _, by unfold Hid; simp, HR0.out, HB0.out, hbase, ⟨rfl, .inl ⟨rfl, rfl⟩⟩, by unfold Hid; rw [List.drop_zero]; cases toksW (l.length + 1) l <;> rfl⟩
  case round =>
    obtain ⟨j, n, acc, rfl, hj, hal, HN, HRj, HB, HZ, HO, HS⟩ := hrel
    obtain ⟨n, rfl⟩ : ∃ m, n = m + 1 := ⟨n - 1, by have := HN.out; omega⟩
    have c0 := HRj.out.c0
    have c1 := HRj.out.c1
    by_cases hlt : j < l.length
    · have hd : ((j : Int) < (l.length : Int)) := by omega
      have HT1 := Lib.hid (HTk.out j wr HRj.out hlt)
      unfold TkW at HT1
      cases ht : tokW (l.drop j) with
      | none =>
        rw [ht] at HT1
        have HT1 := Lib.hid HT1.out
        simp only at HT1
        have HE : Hid (toksW (l.length + 1) l = none) := by
          unfold Hid
          rw [HS.out, toksW_no (fun e => by have := congrArg List.length e; rw [List.length_drop, List.length_nil] at this; omega) ht]
          rfl
        clear ht
        go_wp2_with fail
        with_reducible refine HT1.out.mono ?_
        rintro e w1 ⟨kd, t, rfl, hg1⟩
        have HB1 := Lib.hid (HB.out.trans (hg1.toBelow (Nat.le_refl _) HB.out.size))
        clear hg1
        go_wp2_with fail
        try rw [Exit.noGoto_ret]
        go_ret2
        rw [HE.out]
        exact ⟨HB1.out.alloc HB1.out.size _, rfl⟩
      | some p =>
        obtain ⟨kd, t, q⟩ := p
        rw [ht] at HT1
        have HT1 := Lib.hid HT1.out
        simp only at HT1
        have HE : Hid (toksW (l.length + 1) l = (toksW n q).map fun ts => (acc ++ [(kd, t)]) ++ ts) := by
          unfold Hid
          rw [HS.out, toks_step ht]
          cases toksW n q with
          | none => rfl
          | some ts => simp
        clear ht
        go_wp2_with fail
        with_reducible refine HT1.out.mono ?_
        rintro e w1 ⟨k1, rfl, hjk, hk1, hd1, hr1, hg1⟩
        have HR1 := Lib.hid hr1
        have HB1 := Lib.hid (HB.out.trans (hg1.toBelow (Nat.le_refl _) HB.out.size))
        have HO1 := Lib.hid (own_grN HO.out hg1 (Nat.lt_succ_self _))
        have HZ1 : Hid (w.heap.size + 1 ≤ w1.heap.size) := Nat.le_trans HZ.out hg1.size
        have HD1 := Lib.hid hd1
        clear hr1 hg1 hd1 HT1 c0 c1 HRj HB HO HZ
        go_wp2_with (at_builtin; refine wpList_append_own _ rfl _ _ 33 rfl (w.heap.size + 1) 38 i0 (.agg #[.int .i64 0, .string ⟨#[]⟩]) 2 24 Tryz.underlying33 hi hz0 hz1 hz2 rfl (by decide) _ acc.length (tokCells acc) rfl (own_belowN HO1.out ?ca) ⟨w1.heap.size + 1, 0, none⟩ 1 1 [.int .i64 (kd : Int), .string ⟨t.toArray⟩] rfl rfl ?c1 ?c2 ?c3 ?c4 ?c5 ?_)
        case ca => exact ((Below.refl w1.heap.size w1).alloc (Nat.le_refl _) _).alloc (by simp) _
        case c1 => simpa using cells_two_new (w1.alloc (.cells #[.int .i64 (kd : Int), .string ⟨t.toArray⟩] 38)) 38 (.int .i64 (kd : Int)) (.string ⟨t.toArray⟩)
        case c2 => intro u hu; simp at hu; rcases hu with rfl | rfl <;> rfl
        case c3 => unfold maxLen; omega
        case c4 => omega
        case c5 => have := HZ1.out; simp; omega
        intro v3 w3 hown3 hgrow3 _
        have HA3 : Hid (Below w1.heap.size w1 ((w1.alloc (.cells #[.int .i64 (kd : Int), .string ⟨t.toArray⟩] 38)).alloc (.cells #[.int .i64 (kd : Int), .string ⟨t.toArray⟩] 38))) := ((Below.refl w1.heap.size w1).alloc (Nat.le_refl _) _).alloc (by simp) _
        have hlow : Below (w.heap.size + 1) w1 w3 := (HA3.out.mono HZ1.out).trans (below_grownW hgrow3 (fun q hq => (HO1.out.lt q hq).1) (by have := HA3.out.size; have := HZ1.out; omega))
        have HR3 := Lib.hid (HR1.out.low hlow (Nat.lt_succ_self _) (by have := HR1.out.ne; have := HBlt; omega))
        have HB3 := Lib.hid (HB1.out.trans (hlow.mono (Nat.le_succ _)))
        have HZ3 : Hid (w.heap.size + 1 ≤ w3.heap.size) := Nat.le_trans HZ1.out hlow.size
        have HO3 : Hid (w3.ownsRow (w.heap.size + 1) 38 2 v3 (acc ++ [(kd, t)]).length (tokCells (acc ++ [(kd, t)]))) := own_castN hown3 (by simp) (by rw [tokCells_snoc]; rfl)
        clear hown3 hgrow3 hlow HA3 HR1 HB1 HO1 HZ1
        go_wp2_with fail
        go_roundg (l.length - k1)
        case measure => omega
        case rel =>
          refine ⟨k1, n, acc ++ [(kd, t)], rfl, hk1, by simp; omega, ?_, HR3.out, HB3.out, HZ3.out, HO3.out, ?_⟩
          · have h1 := HN.out
            unfold Hid
            simp only [List.length_drop] at h1 ⊢
            omega
          · unfold Hid
            rw [HE.out, HD1.out]
    · have HE : Hid (toksW (l.length + 1) l = some acc) := by
        unfold Hid
        rw [HS.out, List.drop_eq_nil_of_le (by omega : l.length ≤ j), toks_nil]
        simp
      go_wp2_with fail
      try simp only [Exit.noGoto_normal]
      go_ret2
      rw [HE.out]
      exact ⟨HB.out, _, rfl, HO.out⟩
theorem wtokens_any (v : Value) (l : List UInt8) (w : World) (hv : bytesArg w v l) (hsm : l.length ≤ 1000000000000) : Calls Tryz.prog 8 #[v] w (TksW w (toksW (l.length + 1) l)) := by
  by_cases h0 : l = []
  · subst h0
    exact wtokens_nil v w hv
  · obtain ⟨ao, cap, rfl, hc, hm, hs⟩ := hv
    rcases hs with hs | ⟨b, off, rfl, hlt, hat⟩
    · exact absurd hs h0
    · exact wtokens_at b off cap l w hlt hc hm hsm hat
end Go.Proofs.YtkmgflnmffdhjaaGreatDoor
