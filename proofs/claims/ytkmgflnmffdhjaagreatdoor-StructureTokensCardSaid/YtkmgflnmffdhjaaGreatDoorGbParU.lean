/- Contracts of package params: Parse, Get. -/
import Derived.Test.YtkmgflnmffdhjaaGreatDoorGbParS
import Derived.Test.YtkmgflnmffdhjaaGreatDoorGbParE
namespace Go.Proofs.YtkmgflnmffdhjaaGreatDoor
open Go Go.RowKit

theorem tokenL_small (l : List UInt8) : (tokenL l).1.length ≤ l.length := Nat.le_trans (tokL_len _) (skL_le l false 0)
theorem unqL_small : ∀ (l acc : List UInt8) (e : Bool) (p : List UInt8 × List UInt8), unqL e acc l = some p → p.1.length ≤ acc.length + l.length := by
  intro l
  induction l with
  | nil => intro acc e p h; cases e <;> simp [unqL] at h
  | cons c l ih =>
    intro acc e p h
    cases e
    · unfold unqL at h
      split at h
      · cases h; simp
      · split at h
        · have := ih _ _ _ h; simp; omega
        · have := ih _ _ _ h; simp at this ⊢; omega
    · have := ih (acc ++ [c]) false p h; simp at this ⊢; omega
theorem valueL_small {l : List UInt8} {p : List UInt8 × List UInt8} (h : valueL l = some p) : p.1.length ≤ l.length := by
  unfold valueL at h
  have hl := skL_le l false 0
  split at h
  · next c r e =>
    unfold sk at e
    rw [e] at hl
    simp at hl
    split at h
    · have := unqL_small _ _ _ _ h
      simp at this
      omega
    · split at h
      · cases h
      · cases h
        exact tokenL_small l
  · cases h
theorem parL_small {l : List UInt8} {p : Prm} {r : List UInt8} (h : parL l = some (p, r)) : p.1.length ≤ l.length ∧ p.2.length ≤ l.length := by
  unfold parL at h
  split at h
  · cases h
  · next l1 e1 =>
    have h1 := takeL_len e1
    have h1' := tokenL_small l1
    split at h
    · cases h
    · split at h
      · cases h
      · next l2 e2 =>
        have h2 := takeL_len e2
        have h3 := tokenL_len l1
        split at h
        · cases h
        · next v r' e3 =>
          have h4 : v.length ≤ l2.length := valueL_small e3
          cases h
          refine ⟨?_, by show v.length ≤ _; omega⟩
          show (foldS _).length ≤ _
          unfold foldS
          rw [List.length_map]
          omega
theorem parsL_small : ∀ (n : Nat) (l : List UInt8), ∀ p ∈ parsL n l, p.1.length ≤ l.length ∧ p.2.length ≤ l.length := by
  intro n
  induction n with
  | zero => intro l p hp; simp [parsL] at hp
  | succ n ih =>
    intro l p hp
    have e : parsL (n + 1) l = match parL l with | none => [] | some (p, r) => p :: parsL n r := rfl
    rw [e] at hp
    cases h : parL l with
    | none => rw [h] at hp; simp at hp
    | some x =>
      obtain ⟨q, r⟩ := x
      rw [h] at hp
      have h1 := parL_small h
      have h2 := parL_len h
      simp only [List.mem_cons] at hp
      rcases hp with rfl | hp
      · exact h1
      · have := ih r p hp
        omega

def valC (o : Option Val) (b : Bool) (t sb : List UInt8) (ps : List Prm) : Prop := match o with
  | some V => b = true ∧ t = V.type ∧ sb = V.sub ∧ ps = V.params
  | none => b = false ∧ t = [] ∧ sb = [] ∧ ps = []
def parsePost (o : Option Val) (w : World) (e : Ending) (w' : World) : Prop := ∃ t sb u ps b, e = .returned (.tuple #[.agg #[.string ⟨t.toArray⟩, .string ⟨sb.toArray⟩, u], .bool b]) ∧
  w'.ownsRow w.heap.size 71 2 u ps.length (prmCells ps) ∧ Below w.heap.size w w' ∧ valC o b t sb ps

set_option maxRecDepth 100000 in
set_option maxHeartbeats 4000000 in
theorem parse_false (s : ByteArray) (w : World) (hl : s.size ≤ 100000) (he : env w) :
    Calls Tryz.prog 16 #[.string s, .bool false] w (parsePost (parseL s.data.toList false) w) := by
  have HE := Lib.hid he
  clear he
  obtain ⟨W0, hW0⟩ : ∃ W0, W0 = (w.alloc (.cells #[.string ⟨#[]⟩, .string ⟨#[]⟩, .slice none 0 0] 60)).alloc (.cells #[.string s, .int .i64 0] 88) := ⟨_, rfl⟩
  have HB0 : Hid (Below w.heap.size w W0) := by rw [hW0]; exact ((Below.refl _ _).alloc (Nat.le_refl _) _).alloc (by simp) _
  have hnew : W0.heap[w.heap.size + 1]? = some (.cells #[.string s, .int .i64 0] 88 (0, 0)) := by
    rw [hW0]
    have := heap_alloc_new (w.alloc (.cells #[.string ⟨#[]⟩, .string ⟨#[]⟩, .slice none 0 0] 60)) (.cells #[.string s, .int .i64 0] 88)
    simpa using this
  have HR0 : Hid (Rd W0 (w.heap.size + 1) s 0) := ⟨by simp [World.cell?, hnew], by simp [World.cell?, hnew], by simp [World.frozen?, hnew]⟩
  have HRow0 : Hid (W0.heap[w.heap.size]? = some (.cells #[.string ⟨#[]⟩, .string ⟨#[]⟩, .slice none 0 0] 60 (0, 0))) := by
    unfold Hid
    rw [hW0, Below.heap_alloc _ _ _ (by simp)]
    exact heap_alloc_new _ _
  have HW0 : Hid (W0 = _) := hW0
  have HNm := Lib.hid (rdName_any (w.heap.size + 1) s 0 W0 HR0.out (by omega) (Nat.zero_le _))
  have HSb := Lib.hid (fun j W h hj => sub_any (w.heap.size + 1) s j W h (by omega) hj)
  have HPs := Lib.hid (fun j W h hj => params_any (w.heap.size + 1) s j W h (by omega) hj)
  rw [List.drop_zero] at HNm
  have hRB : w.heap.size ≠ w.heap.size + 1 := by omega
  obtain ⟨T, R, hTR⟩ : ∃ T R, tokenL s.data.toList = (T, R) := ⟨_, _, rfl⟩
  have HTR := Lib.hid hTR
  rw [hTR] at HNm
  have HLow : Hid (∀ W, Gr (w.heap.size + 1) W0 W → Below w.heap.size w W) := fun W h => Below.grown HB0.out h HB0.out.size (by intro k hk; cases hk; omega)
  have HSm : Hid (∀ j, smallP (parsL s.size (s.data.toList.drop j))) := fun j p hp => by
    have := parsL_small _ _ p hp
    rw [List.length_drop, len_toList] at this
    omega
  clear hW0 hnew hTR
  have hsz4 : ∀ W, Gr (w.heap.size + 1) W0 W → w.heap.size < W.heap.size := fun W h => by
    have h1 := HR0.out.lt
    have h2 := h.size
    omega
  by_cases hT : T = []
  · have HN : Hid (parseL s.data.toList false = none) := by
      unfold Hid parseL
      simp only [HTR.out]
      rw [if_pos hT]
    have hte : (foldS T).isEmpty = true := by rw [hT]; rfl
    clear hT
    go_enter Tryz.func16, Tryz.ntmps16
    go_wp2_with fail
    rw [← HW0.out]
    with_reducible refine HNm.out.mono ?_
    rintro e w1 ⟨rfl, k1, hR1, hk1, hD1, hG1⟩
    have HR1 := Lib.hid hR1
    have HG1 := Lib.hid hG1
    have HRow1 := Lib.hid (hG1.row hRB HRow0.out)
    have HD1 := Lib.hid hD1
    clear hR1 hG1 hD1 HRow0 HNm HW0 HR0
    unfold tokV
    rw [hte]
    go_wp2_with (refine wpList_store_row' rfl 60 (.tmp 4) (.tmp 26) rfl w.heap.size #[.string ⟨#[]⟩, .string ⟨#[]⟩, .slice none 0 0] rfl rfl 60 _ HRow1.out (by kernel_rfl) rfl (by kernel_rfl) ?_; intro WE hWE)
    (try simp only [Exit.inBlock, Exit.then])
    have hrow := setRow_heap _ w.heap.size _ #[.string ⟨#[]⟩, .string ⟨#[]⟩, .slice none 0 0] _ _ HRow1.out
    rw [← hWE.out] at hrow
    refine bodyPost_ret (results_row_tmp (P := Tryz.prog) Tryz.results16 _ _ w.heap.size 60 _ (0, 0) _ rfl hrow Tryz.underlying60 rfl rfl) rfl ?_
    refine ⟨[], [], .slice none 0 0, [], false, rfl, World.ownsRow_nil _ _ _ _, by rw [hWE.out]; exact below_setRow (HLow.out _ HG1.out) (Nat.le_refl _) _, ?_⟩
    rw [HN.out]
    exact ⟨rfl, rfl, rfl, rfl⟩
  · have hte : (foldS T).isEmpty = false := by unfold foldS; cases T with | nil => exact absurd rfl hT | cons a b => rfl
    have HTne := Lib.hid hT
    clear hT
    go_enter Tryz.func16, Tryz.ntmps16
    go_wp2_with fail
    rw [← HW0.out]
    with_reducible refine HNm.out.mono ?_
    rintro e w1 ⟨rfl, k1, hR1, hk1, hD1, hG1⟩
    have HR1 := Lib.hid hR1
    have HG1 := Lib.hid hG1
    have HRow1 := Lib.hid (hG1.row hRB HRow0.out)
    have HD1 := Lib.hid hD1
    clear hR1 hG1 hD1 HRow0 HNm HW0 HR0
    unfold tokV
    rw [hte]
    have HP1 := Lib.hid (HPs.out k1 _ HR1.out (by assumption))
    go_wp2_with fail
    with_reducible refine HP1.out.mono ?_
    rintro e w4 ⟨v, rfl, hown4, hpl4, hG4⟩
    have HG4 := Lib.hid (HG1.out.trans hG4)
    have HRow4 := Lib.hid (hG4.row hRB HRow1.out)
    have HPr4 := Lib.hid (prmAt_owned hown4)
    have HB4 := Lib.hid (HLow.out w4 HG4.out)
    have HJ := Lib.hid (joined_any v _ w4 HPr4.out (HSm.out k1) (by omega) (HE.out.below HB4.out))
    clear hown4 hG4 HP1 HPr4 hpl4
    go_wp2_with fail
    with_reducible refine HJ.out.mono ?_
    rintro e w5 ⟨u, rfl, hown5, hb5⟩
    have HW5 := Lib.hid hown5
    have HB5 := Lib.hid hb5
    have HRow5 := Lib.hid ((hb5.block w.heap.size (Array.getElem?_eq_some_iff.1 HRow4.out).1).trans HRow4.out)
    obtain ⟨uo, un, uc, rfl⟩ : ∃ a n c, u = .slice a n c := by
      rcases hown5.2 with ⟨h, _⟩ | ⟨g, cp, cur, h, _⟩
      · exact ⟨_, _, _, h⟩
      · exact ⟨_, _, _, h⟩
    clear hown5 hb5 HJ HRow4
    go_wp2_with (refine wpList_store_row' rfl 60 (.tmp 4) (.tmp 31) rfl w.heap.size #[.string ⟨(foldS T).toArray⟩, .string ⟨#[]⟩, .slice uo un uc] rfl rfl 60 _ HRow5.out (by kernel_rfl) rfl (by kernel_rfl) ?_; intro WE hWE)
    (try simp only [Exit.inBlock, Exit.then])
    have hrow := setRow_heap _ w.heap.size _ #[.string ⟨(foldS T).toArray⟩, .string ⟨#[]⟩, .slice uo un uc] _ _ HRow5.out
    rw [← hWE.out] at hrow
    refine bodyPost_ret (results_row_tmp (P := Tryz.prog) Tryz.results16 _ _ w.heap.size 60 _ (0, 0) _ rfl hrow Tryz.underlying60 rfl rfl) rfl ?_
    refine ⟨foldS T, [], .slice uo un uc, joinL (parsL s.size (s.data.toList.drop k1)), true, rfl, ?_, ?_, ?_⟩
    · rw [hWE.out]
      have h1 : (w5.setRow w.heap.size #[.string ⟨(foldS T).toArray⟩, .string ⟨#[]⟩, .slice uo un uc]).ownsRow w4.heap.size 71 2 (.slice uo un uc) _ _ :=
        HW5.out.kept (row := some w.heap.size) ⟨rfl, rfl, rfl, by rw [size_setRow]; exact Nat.le_refl _, fun k _ hk => setRow_other _ _ k _ (fun e => hk (by rw [e]))⟩ (by
          cases hv : (Value.slice uo un uc).ownBlock with
          | none => exact .inl rfl
          | some q =>
            refine .inr (fun e => ?_)
            have h2 := (HW5.out.lt q hv).1
            have h3 := Option.some.inj e
            have h4 := (Array.getElem?_eq_some_iff.1 HRow1.out).1
            have h5 := HG4.out.size
            have h6 := HB0.out.size
            have h7 : w.heap.size < w4.heap.size := hsz4 w4 HG4.out
            omega)
      exact own_base2 h1 HB4.out.size
    · rw [hWE.out]
      exact below_setRow (HB4.out.trans (HB5.out.mono HB4.out.size)) (Nat.le_refl _) _
    · rw [show parseL s.data.toList false = some ⟨foldS T, [], joinL (parsL R.length R)⟩ by
          unfold parseL
          simp only [HTR.out]
          rw [if_neg HTne.out]
          rfl]
      have hr : s.data.toList.drop k1 = R := HD1.out
      refine ⟨rfl, rfl, rfl, ?_⟩
      rw [hr]
      show joinL (parsL s.size R) = joinL (parsL R.length R)
      rw [parsL_same s.size R.length R (by rw [← hr, List.length_drop, len_toList]; omega) (Nat.le_refl _)]

set_option maxRecDepth 100000 in
set_option maxHeartbeats 4000000 in
theorem parse_true (s : ByteArray) (w : World) (hl : s.size ≤ 100000) (he : env w) :
    Calls Tryz.prog 16 #[.string s, .bool true] w (parsePost (parseL s.data.toList true) w) := by
  have HE := Lib.hid he
  clear he
  obtain ⟨W0, hW0⟩ : ∃ W0, W0 = (w.alloc (.cells #[.string ⟨#[]⟩, .string ⟨#[]⟩, .slice none 0 0] 60)).alloc (.cells #[.string s, .int .i64 0] 88) := ⟨_, rfl⟩
  have HB0 : Hid (Below w.heap.size w W0) := by rw [hW0]; exact ((Below.refl _ _).alloc (Nat.le_refl _) _).alloc (by simp) _
  have hnew : W0.heap[w.heap.size + 1]? = some (.cells #[.string s, .int .i64 0] 88 (0, 0)) := by
    rw [hW0]
    have := heap_alloc_new (w.alloc (.cells #[.string ⟨#[]⟩, .string ⟨#[]⟩, .slice none 0 0] 60)) (.cells #[.string s, .int .i64 0] 88)
    simpa using this
  have HR0 : Hid (Rd W0 (w.heap.size + 1) s 0) := ⟨by simp [World.cell?, hnew], by simp [World.cell?, hnew], by simp [World.frozen?, hnew]⟩
  have HRow0 : Hid (W0.heap[w.heap.size]? = some (.cells #[.string ⟨#[]⟩, .string ⟨#[]⟩, .slice none 0 0] 60 (0, 0))) := by
    unfold Hid
    rw [hW0, Below.heap_alloc _ _ _ (by simp)]
    exact heap_alloc_new _ _
  have HW0 : Hid (W0 = _) := hW0
  have HNm := Lib.hid (rdName_any (w.heap.size + 1) s 0 W0 HR0.out (by omega) (Nat.zero_le _))
  have HSb := Lib.hid (fun j W h hj => sub_any (w.heap.size + 1) s j W h (by omega) hj)
  have HPs := Lib.hid (fun j W h hj => params_any (w.heap.size + 1) s j W h (by omega) hj)
  rw [List.drop_zero] at HNm
  have hRB : w.heap.size ≠ w.heap.size + 1 := by omega
  obtain ⟨T, R, hTR⟩ : ∃ T R, tokenL s.data.toList = (T, R) := ⟨_, _, rfl⟩
  have HTR := Lib.hid hTR
  rw [hTR] at HNm
  have HLow : Hid (∀ W, Gr (w.heap.size + 1) W0 W → Below w.heap.size w W) := fun W h => Below.grown HB0.out h HB0.out.size (by intro k hk; cases hk; omega)
  have HSm : Hid (∀ j, smallP (parsL s.size (s.data.toList.drop j))) := fun j p hp => by
    have := parsL_small _ _ p hp
    rw [List.length_drop, len_toList] at this
    omega
  clear hW0 hnew hTR
  have hsz4 : ∀ W, Gr (w.heap.size + 1) W0 W → w.heap.size < W.heap.size := fun W h => by
    have h1 := HR0.out.lt
    have h2 := h.size
    omega
  by_cases hT : T = []
  · have HN : Hid (parseL s.data.toList true = none) := by
      unfold Hid parseL
      simp only [HTR.out]
      rw [if_pos hT]
    have hte : (foldS T).isEmpty = true := by rw [hT]; rfl
    clear hT
    go_enter Tryz.func16, Tryz.ntmps16
    go_wp2_with fail
    rw [← HW0.out]
    with_reducible refine HNm.out.mono ?_
    rintro e w1 ⟨rfl, k1, hR1, hk1, hD1, hG1⟩
    have HR1 := Lib.hid hR1
    have HG1 := Lib.hid hG1
    have HRow1 := Lib.hid (hG1.row hRB HRow0.out)
    have HD1 := Lib.hid hD1
    clear hR1 hG1 hD1 HRow0 HNm HW0 HR0
    unfold tokV
    rw [hte]
    go_wp2_with (refine wpList_store_row' rfl 60 (.tmp 4) (.tmp 26) rfl w.heap.size #[.string ⟨#[]⟩, .string ⟨#[]⟩, .slice none 0 0] rfl rfl 60 _ HRow1.out (by kernel_rfl) rfl (by kernel_rfl) ?_; intro WE hWE)
    (try simp only [Exit.inBlock, Exit.then])
    have hrow := setRow_heap _ w.heap.size _ #[.string ⟨#[]⟩, .string ⟨#[]⟩, .slice none 0 0] _ _ HRow1.out
    rw [← hWE.out] at hrow
    refine bodyPost_ret (results_row_tmp (P := Tryz.prog) Tryz.results16 _ _ w.heap.size 60 _ (0, 0) _ rfl hrow Tryz.underlying60 rfl rfl) rfl ?_
    refine ⟨[], [], .slice none 0 0, [], false, rfl, World.ownsRow_nil _ _ _ _, by rw [hWE.out]; exact below_setRow (HLow.out _ HG1.out) (Nat.le_refl _) _, ?_⟩
    rw [HN.out]
    exact ⟨rfl, rfl, rfl, rfl⟩
  · have hte : (foldS T).isEmpty = false := by unfold foldS; cases T with | nil => exact absurd rfl hT | cons a b => rfl
    have HTne := Lib.hid hT
    clear hT
    go_enter Tryz.func16, Tryz.ntmps16
    go_wp2_with fail
    rw [← HW0.out]
    with_reducible refine HNm.out.mono ?_
    rintro e w1 ⟨rfl, k1, hR1, hk1, hD1, hG1⟩
    have HR1 := Lib.hid hR1
    have HG1 := Lib.hid hG1
    have HRow1 := Lib.hid (hG1.row hRB HRow0.out)
    have HD1 := Lib.hid hD1
    clear hR1 hG1 hD1 HRow0 HNm HW0 HR0
    unfold tokV
    rw [hte]
    have HD1' : Hid (s.data.toList.drop k1 = R) := HD1.out
    have HSb1 := Lib.hid (HSb.out k1 w1 HR1.out hk1)
    rw [HD1'.out] at HSb1
    cases hsu : subL R with
    | none =>
      rw [hsu] at HSb1
      have HN : Hid (parseL s.data.toList true = none) := by
        unfold Hid parseL
        simp only [HTR.out]
        rw [if_neg HTne.out]
        simp only [hsu, if_true]
      clear hsu
      unfold subV at HSb1
      go_wp2_with fail
      with_reducible refine HSb1.out.mono ?_
      rintro e w2 ⟨rfl, k2, hR2, hk2, _, hG2⟩
      have HG2 := Lib.hid (HG1.out.trans hG2)
      have HRow2 := Lib.hid (hG2.row hRB HRow1.out)
      clear hR2 hG2 HSb1
      go_wp2_with (refine wpList_store_row' rfl 60 (.tmp 4) (.tmp 26) rfl w.heap.size #[.string ⟨#[]⟩, .string ⟨#[]⟩, .slice none 0 0] rfl rfl 60 _ HRow2.out (by kernel_rfl) rfl (by kernel_rfl) ?_; intro WE hWE)
      (try simp only [Exit.inBlock, Exit.then])
      have hrow := setRow_heap _ w.heap.size _ #[.string ⟨#[]⟩, .string ⟨#[]⟩, .slice none 0 0] _ _ HRow2.out
      rw [← hWE.out] at hrow
      refine bodyPost_ret (results_row_tmp (P := Tryz.prog) Tryz.results16 _ _ w.heap.size 60 _ (0, 0) _ rfl hrow Tryz.underlying60 rfl rfl) rfl ?_
      refine ⟨[], [], .slice none 0 0, [], false, rfl, World.ownsRow_nil _ _ _ _, by rw [hWE.out]; exact below_setRow (HLow.out _ HG2.out) (Nat.le_refl _) _, ?_⟩
      rw [HN.out]
      exact ⟨rfl, rfl, rfl, rfl⟩
    | some p =>
      obtain ⟨sv, R2⟩ := p
      rw [hsu] at HSb1
      have HN : Hid (parseL s.data.toList true = some ⟨foldS T, sv, joinL (parsL R2.length R2)⟩) := by
        unfold Hid parseL
        simp only [HTR.out]
        rw [if_neg HTne.out]
        simp only [hsu, if_true]
      clear hsu
      unfold subV at HSb1
      go_wp2_with fail
      with_reducible refine HSb1.out.mono ?_
      rintro e w2 ⟨rfl, k2, hR2, hk2, hD2, hG2⟩
      have HR2 := Lib.hid hR2
      have HG2 := Lib.hid (HG1.out.trans hG2)
      have HRow2 := Lib.hid (hG2.row hRB HRow1.out)
      have HD2 : Hid (s.data.toList.drop k2 = R2) := hD2 sv R2 rfl
      clear hR2 hG2 hD2 HSb1
      have HP1 := Lib.hid (HPs.out k2 _ HR2.out (by assumption))
      go_wp2_with fail
      with_reducible refine HP1.out.mono ?_
      rintro e w4 ⟨v, rfl, hown4, hpl4, hG4⟩
      have HG4 := Lib.hid (HG2.out.trans hG4)
      have HRow4 := Lib.hid (hG4.row hRB HRow2.out)
      have HPr4 := Lib.hid (prmAt_owned hown4)
      have HB4 := Lib.hid (HLow.out w4 HG4.out)
      have HJ := Lib.hid (joined_any v _ w4 HPr4.out (HSm.out k2) (by omega) (HE.out.below HB4.out))
      clear hown4 hG4 HP1 HPr4 hpl4
      go_wp2_with fail
      with_reducible refine HJ.out.mono ?_
      rintro e w5 ⟨u, rfl, hown5, hb5⟩
      have HW5 := Lib.hid hown5
      have HB5 := Lib.hid hb5
      have HRow5 := Lib.hid ((hb5.block w.heap.size (Array.getElem?_eq_some_iff.1 HRow4.out).1).trans HRow4.out)
      obtain ⟨uo, un, uc, rfl⟩ : ∃ a n c, u = .slice a n c := by
        rcases hown5.2 with ⟨h, _⟩ | ⟨g, cp, cur, h, _⟩
        · exact ⟨_, _, _, h⟩
        · exact ⟨_, _, _, h⟩
      clear hown5 hb5 HJ HRow4
      go_wp2_with (refine wpList_store_row' rfl 60 (.tmp 4) (.tmp 31) rfl w.heap.size #[.string ⟨(foldS T).toArray⟩, .string ⟨sv.toArray⟩, .slice uo un uc] rfl rfl 60 _ HRow5.out (by kernel_rfl) rfl (by kernel_rfl) ?_; intro WE hWE)
      (try simp only [Exit.inBlock, Exit.then])
      have hrow := setRow_heap _ w.heap.size _ #[.string ⟨(foldS T).toArray⟩, .string ⟨sv.toArray⟩, .slice uo un uc] _ _ HRow5.out
      rw [← hWE.out] at hrow
      refine bodyPost_ret (results_row_tmp (P := Tryz.prog) Tryz.results16 _ _ w.heap.size 60 _ (0, 0) _ rfl hrow Tryz.underlying60 rfl rfl) rfl ?_
      refine ⟨foldS T, sv, .slice uo un uc, joinL (parsL s.size (s.data.toList.drop k2)), true, rfl, ?_, ?_, ?_⟩
      · rw [hWE.out]
        have h1 : (w5.setRow w.heap.size #[.string ⟨(foldS T).toArray⟩, .string ⟨sv.toArray⟩, .slice uo un uc]).ownsRow w4.heap.size 71 2 (.slice uo un uc) _ _ :=
          HW5.out.kept (row := some w.heap.size) ⟨rfl, rfl, rfl, by rw [size_setRow]; exact Nat.le_refl _, fun k _ hk => setRow_other _ _ k _ (fun e => hk (by rw [e]))⟩ (by
            cases hv : (Value.slice uo un uc).ownBlock with
            | none => exact .inl rfl
            | some q =>
              refine .inr (fun e => ?_)
              have h2 := (HW5.out.lt q hv).1
              have h3 := Option.some.inj e
              have h4 := (Array.getElem?_eq_some_iff.1 HRow1.out).1
              have h5 := HG4.out.size
              have h6 := HB0.out.size
              have h7 : w.heap.size < w4.heap.size := hsz4 w4 HG4.out
              omega)
        exact own_base2 h1 HB4.out.size
      · rw [hWE.out]
        exact below_setRow (HB4.out.trans (HB5.out.mono HB4.out.size)) (Nat.le_refl _) _
      · rw [HN.out]
        have hr : s.data.toList.drop k2 = R2 := HD2.out
        refine ⟨rfl, rfl, rfl, ?_⟩
        rw [hr]
        show joinL (parsL s.size R2) = joinL (parsL R2.length R2)
        rw [parsL_same s.size R2.length R2 (by rw [← hr, List.length_drop, len_toList]; omega) (Nat.le_refl _)]

theorem parse_any (s : ByteArray) (two : Bool) (w : World) (hl : s.size ≤ 100000) (he : env w) :
    Calls Tryz.prog 16 #[.string s, .bool two] w (parsePost (parseL s.data.toList two) w) := by
  cases two
  · exact parse_false s w hl he
  · exact parse_true s w hl he
end Go.Proofs.YtkmgflnmffdhjaaGreatDoor

/- Contracts of package params: Get; the example that every statement asks first. -/
namespace Go.Proofs.YtkmgflnmffdhjaaGreatDoor
open Go Go.RowKit

def getP (ps : List Prm) (nm : List UInt8) : Option (List UInt8) := (ps.find? (fun p => foldS p.1 == foldS nm)).map (·.2)
theorem getP_hit {p : Prm} {ps : List Prm} {nm : List UInt8} (h : foldS p.1 = foldS nm) : getP (p :: ps) nm = some p.2 := by
  unfold getP
  rw [List.find?_cons_of_pos (by simpa using h)]
  rfl
theorem getP_miss {p : Prm} {ps : List Prm} {nm : List UInt8} (h : ¬ foldS p.1 = foldS nm) : getP (p :: ps) nm = getP ps nm := by
  unfold getP
  rw [List.find?_cons_of_neg (by simpa using h)]
def small1 (ps : List Prm) : Prop := ∀ p ∈ ps, p.1.length ≤ 1000000
set_option maxRecDepth 100000 in
set_option maxHeartbeats 2000000 in
theorem get_any (ts sb : ByteArray) (u : Value) (ps : List Prm) (nm : ByteArray) (w : World) (hu : prmAt w u ps) (hps : small1 ps) :
    Calls Tryz.prog 82 #[.agg #[.string ts, .string sb, u], .string nm] w fun e w' => e = .returned (getOV (getP ps nm.data.toList)) ∧ Below w.heap.size w w' := by
  have HU := Lib.hid hu
  obtain ⟨ao, cap, rfl, hcl, hcm, hcell⟩ := hu
  unfold maxLen at hcm
  clear hcell
  have HSa := Lib.hid (fun (a : ByteArray) W h => same_any a nm W h)
  go_enter Tryz.func82, Tryz.ntmps82
  go_wp2_with fail
  go_loopg [11] ps.length (fun g v11 wr => ∃ k : Nat, g = ps.length - k ∧ k ≤ ps.length ∧ v11 = .int .i64 (k : Int) ∧ Hid (Below w.heap.size w wr) ∧ Hid (getP ps nm.data.toList = getP (ps.drop k) nm.data.toList))
  case atStart => exact ⟨0, by omega, by omega, rfl, (Below.refl _ _).alloc (Nat.le_refl _) _, rfl⟩
  case round =>
    obtain ⟨k, rfl, hk, rfl, HB, HS⟩ := hrel
    by_cases hlt : k < ps.length
    · obtain ⟨_, _, e0, _, _, hc⟩ := HU.out.below HB.out
      cases e0
      rcases hc with h0 | ⟨g, rfl, hg, hcc⟩
      · rw [h0] at hlt
        simp at hlt
      · obtain ⟨d0, d1⟩ := hcc k hlt
        have hsm := hps ps[k] (List.getElem_mem hlt)
        have HStep : Hid (ps.drop k = ps[k] :: ps.drop (k + 1)) := List.drop_eq_getElem_cons hlt
        rw [HStep.out] at HS
        obtain ⟨p, hp⟩ : ∃ p, p = ps[k] := ⟨_, rfl⟩
        rw [← hp] at d0 d1 HS hsm
        obtain ⟨pn, pv⟩ := p
        have HA : Hid (Below wr.heap.size wr (wr.alloc (.cells #[.string ⟨pn.toArray⟩, .string ⟨pv.toArray⟩] 71))) := (Below.refl _ _).alloc (Nat.le_refl _) _
        have HSa1 := Lib.hid (HSa.out ⟨pn.toArray⟩ (wr.alloc (.cells #[.string ⟨pn.toArray⟩, .string ⟨pv.toArray⟩] 71)) (by rw [toArr_size]; exact Nat.le_trans hsm (by omega)))
        clear hcc hp HStep
        by_cases hf : foldS pn = foldS nm.data.toList
        · have HF : Hid (decide (foldS (⟨pn.toArray⟩ : ByteArray).data.toList = foldS nm.data.toList) = true) := decide_eq_true hf
          have HG : Hid (getP ((pn, pv) :: ps.drop (k + 1)) nm.data.toList = some pv) := getP_hit hf
          rw [HF.out] at HSa1
          clear hf
          go_wp2_with fail
          with_reducible refine HSa1.out.mono ?_
          rintro e w2 ⟨rfl, n, hw2⟩
          have hb2 : Below (wr.alloc (.cells #[.string ⟨pn.toArray⟩, .string ⟨pv.toArray⟩] 71)).heap.size (wr.alloc (.cells #[.string ⟨pn.toArray⟩, .string ⟨pv.toArray⟩] 71)) w2 := by rw [hw2]; exact below_drewN' _
          obtain ⟨e0, e1⟩ := box2_cells hb2
          have HB2 : Hid (Below w.heap.size w w2) := (HB.out.trans (HA.out.mono HB.out.size)).trans (hb2.mono (by have := HB.out.size; simp; omega))
          clear hw2 hb2 e0
          go_wp2_with fail
          go_ret2
          exact ⟨by rw [HS.out, HG.out]; rfl, HB2.out⟩
        · have HF : Hid (decide (foldS (⟨pn.toArray⟩ : ByteArray).data.toList = foldS nm.data.toList) = false) := decide_eq_false hf
          have HG : Hid (getP ((pn, pv) :: ps.drop (k + 1)) nm.data.toList = getP (ps.drop (k + 1)) nm.data.toList) := getP_miss hf
          rw [HF.out] at HSa1
          clear hf
          go_wp2_with fail
          with_reducible refine HSa1.out.mono ?_
          rintro e w2 ⟨rfl, n, hw2⟩
          have hb2 : Below (wr.alloc (.cells #[.string ⟨pn.toArray⟩, .string ⟨pv.toArray⟩] 71)).heap.size (wr.alloc (.cells #[.string ⟨pn.toArray⟩, .string ⟨pv.toArray⟩] 71)) w2 := by rw [hw2]; exact below_drewN' _
          have HB2 : Hid (Below w.heap.size w w2) := (HB.out.trans (HA.out.mono HB.out.size)).trans (hb2.mono (by have := HB.out.size; simp; omega))
          clear hw2 hb2
          go_wp2_with fail
          go_roundg (ps.length - (k + 1))
          case measure => omega
          case rel => exact ⟨k + 1, rfl, by omega, by go_num, HB2.out, by unfold Hid; rw [HS.out, HG.out]⟩
    · have HN : Hid (ps.drop k = []) := List.drop_eq_nil_of_le (by omega)
      go_wp2_with fail
      go_ret2
      exact ⟨by rw [HS.out, HN.out]; rfl, HB.out⟩

theorem own_slice {w : World} {base : Nat} {e : TypeId} {size : Nat} {v : Value} {n : Nat} {xs : List Value} (h : w.ownsRow base e size v n xs) : ∃ a m c, v = .slice a m c := by
  rcases h.2 with ⟨h, _⟩ | ⟨g, cp, cur, h, _⟩
  · exact ⟨_, _, _, h⟩
  · exact ⟨_, _, _, h⟩
/-- A value that was told. -/
theorem parse_some (s : ByteArray) (two : Bool) (V : Val) (hV : parseL s.data.toList two = some V) (w : World) (hl : s.size ≤ 100000) (he : env w) :
    Calls Tryz.prog 16 #[.string s, .bool two] w fun e w' => ∃ a n c, e = .returned (.tuple #[.agg #[.string ⟨V.type.toArray⟩, .string ⟨V.sub.toArray⟩, .slice a n c], .bool true]) ∧ prmAt w' (.slice a n c) V.params ∧ Below w.heap.size w w' :=
  (parse_any s two w hl he).mono fun e w' ⟨t, sb, u, ps, b, he, hown, hb, hc⟩ => by
    rw [hV] at hc
    obtain ⟨rfl, rfl, rfl, rfl⟩ := hc
    obtain ⟨a, n, c, rfl⟩ := own_slice hown
    exact ⟨a, n, c, he, prmAt_owned hown, hb⟩
theorem parse_none (s : ByteArray) (two : Bool) (hV : parseL s.data.toList two = none) (w : World) (hl : s.size ≤ 100000) (he : env w) :
    Calls Tryz.prog 16 #[.string s, .bool two] w fun e w' => ∃ a n c, e = .returned (.tuple #[.agg #[.string ⟨#[]⟩, .string ⟨#[]⟩, .slice a n c], .bool false]) ∧ prmAt w' (.slice a n c) [] ∧ Below w.heap.size w w' :=
  (parse_any s two w hl he).mono fun e w' ⟨t, sb, u, ps, b, he, hown, hb, hc⟩ => by
    rw [hV] at hc
    obtain ⟨rfl, rfl, rfl, rfl⟩ := hc
    obtain ⟨a, n, c, rfl⟩ := own_slice hown
    exact ⟨a, n, c, he, prmAt_owned hown, hb⟩
theorem box3_cells {W W' : World} {t : TypeId} {a b c : Value} (h : Below (W.alloc (.cells #[a, b, c] t)).heap.size (W.alloc (.cells #[a, b, c] t)) W') :
    W'.cell? ⟨W.heap.size, 0, none⟩ = some a ∧ W'.cell? ⟨W.heap.size, 1, none⟩ = some b ∧ W'.cell? ⟨W.heap.size, 2, none⟩ = some c := by
  have e : W'.heap[W.heap.size]? = some (.cells #[a, b, c] t (0, 0)) := (h.block _ (by simp)).trans (heap_alloc_new W _)
  simp [World.cell?, e]
end Go.Proofs.YtkmgflnmffdhjaaGreatDoor
