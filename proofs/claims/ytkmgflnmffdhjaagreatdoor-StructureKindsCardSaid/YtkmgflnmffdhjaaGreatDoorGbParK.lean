/- Contracts of package params: a parameter. -/
import Derived.Test.YtkmgflnmffdhjaaGreatDoorGbParN
import Derived.Laws.ResultCell
namespace Go.Proofs.YtkmgflnmffdhjaaGreatDoor
open Go Go.RowKit

theorem Gr.row {B g : Nat} {W W' : World} (h : Gr B W W') (hg : g ≠ B) {o : Obj} (ho : W.heap[g]? = some o) : W'.heap[g]? = some o :=
  (h.block g (Array.getElem?_eq_some_iff.1 ho).1 (fun e => hg (Option.some.inj e))).trans ho
theorem Gr.setRow {B : Nat} {W W' : World} (h : Gr B W W') (g : Nat) (cs : Array Value) (hg : W.heap.size ≤ g) : Gr B W (W'.setRow g cs) :=
  ⟨h.os, h.tape, h.output, by rw [size_setRow]; exact h.size, fun k hk hB => (setRow_other W' g k cs (by omega)).trans (h.block k hk hB)⟩
theorem Rd.setRow {W : World} {B g : Nat} {s : ByteArray} {k : Nat} (h : Rd W B s k) (hg : g ≠ B) (cs : Array Value) : Rd (W.setRow g cs) B s k := h.block (setRow_other W g B cs (Ne.symm hg))
theorem results_row_tmp {P : Program} {fn : Func} {p u : Tmp} {ty : TypeId} (h : fn.results = #[.cell p ty, .tmp u]) (tmps : Array Value) (w : World) (g : Nat) (t : TypeId) (cs : Array Value) (fr : Nat × Nat) (d : TypeDesc)
    (hp : tmps.getD p undef = .pointer (some ⟨g, 0, none⟩)) (hg : w.heap[g]? = some (.cells cs t fr))
    (hu : P.underlying ty = some d) (hd : (match d with | .struct _ | .array _ _ => true | _ => false) = true) (hi : (P.info? ty).map (·.size) = some cs.size) :
    (results fn tmps).run P w = .ok (.tuple #[.agg cs, tmps.getD u undef]) w := by
  have hp' : tmps[p]?.getD undef = .pointer (some ⟨g, 0, none⟩) := by simpa using hp
  rw [results_cell_tmp h]
  simp [hp', asAddr, run_loadVar_row w g t ty cs fr d hg hu hd hi]

def parIs (s : ByteArray) (l : List UInt8) (n v : List UInt8) (b : Bool) (k' : Nat) : Prop :=
  match parL l with
  | some ((n', v'), r) => b = true ∧ n = n' ∧ v = v' ∧ s.data.toList.drop k' = r
  | none => b = false
def parV (n v : List UInt8) (b : Bool) : Value := .tuple #[.agg #[.string ⟨n.toArray⟩, .string ⟨v.toArray⟩], .bool b]
set_option maxRecDepth 100000 in
set_option maxHeartbeats 4000000 in
theorem param_any (B : Nat) (s : ByteArray) (k : Nat) (w : World) (hr : Rd w B s k) (hl : s.size ≤ 1000000000) (hk : k ≤ s.size) :
    Calls Tryz.prog 68 #[.pointer (some ⟨B, 0, none⟩)] w fun e w' => ∃ (n v : List UInt8) (b : Bool) (k' : Nat), e = .returned (parV n v b) ∧ Rd w' B s k' ∧ k' ≤ s.size ∧
      parIs s (s.data.toList.drop k) n v b k' ∧ Gr B w w' := by
  have hlB := hr.lt
  have HA : Below w.heap.size w (w.alloc (.cells #[.string ⟨#[]⟩, .string ⟨#[]⟩] 71)) := (Below.refl _ _).alloc (Nat.le_refl _) _
  have HT1 := Lib.hid (takes_int B s k 59 59 rfl _ (hr.below HA) hl hk)
  have HRow0 : Hid ((w.alloc (.cells #[.string ⟨#[]⟩, .string ⟨#[]⟩] 71)).heap[w.heap.size]? = some (.cells #[.string ⟨#[]⟩, .string ⟨#[]⟩] 71 (0, 0))) := heap_alloc_new _ _
  have HG0 := Lib.hid ((Gr.refl B w).below HA)
  have HNm := Lib.hid (fun j W h hj => rdName_any B s j W h hl hj)
  have HT2 := Lib.hid (fun j W h hj => takes_int B s j 61 61 rfl W h hl hj)
  have HVl := Lib.hid (fun j W h hj => rdValue_any B s j W h hl hj)
  have hRB : w.heap.size ≠ B := by omega
  clear hr HA
  cases h1 : takeL 59 (s.data.toList.drop k) with
  | none =>
    rw [h1] at HT1
    have HN : Hid (parL (s.data.toList.drop k) = none) := by unfold Hid parL; rw [h1]
    have HH1 := Lib.hid h1
    clear h1
    go_enter Tryz.func68, Tryz.ntmps68
    go_wp2_with fail
    with_reducible refine HT1.out.mono ?_
    rintro e w1 ⟨rfl, k1, hR1, hk1, hD1, hG1⟩
    have HR1 := Lib.hid hR1
    have HG1 := Lib.hid (HG0.out.trans hG1)
    have HRow1 := Lib.hid (hG1.row hRB HRow0.out)
    have HD1 := Lib.hid hD1
    clear hR1 hG1 hD1 HRow0 HT1 HG0
    go_wp2_with (refine wpList_store_row' rfl 71 (.tmp 2) (.tmp 10) rfl w.heap.size #[.string ⟨#[]⟩, .string ⟨#[]⟩] rfl rfl 71 _ HRow1.out (by kernel_rfl) rfl (by kernel_rfl) ?_; intro WE hWE)
    (try simp only [Exit.inBlock, Exit.then])
    have hrow := setRow_heap _ w.heap.size _ #[.string ⟨#[]⟩, .string ⟨#[]⟩] _ _ HRow1.out
    rw [← hWE.out] at hrow
    refine bodyPost_ret (results_row_tmp (P := Tryz.prog) Tryz.results68 _ _ w.heap.size 71 _ (0, 0) _ rfl hrow Tryz.underlying71 rfl rfl) rfl ?_
    exact ⟨[], [], false, k1, rfl, by rw [hWE.out]; exact HR1.out.setRow hRB _, hk1, by unfold parIs; rw [HN.out], by rw [hWE.out]; exact HG1.out.setRow _ _ (Nat.le_refl _)⟩
  | some l1 =>
    rw [h1] at HT1
    have HH1 := Lib.hid h1
    clear h1
    go_enter Tryz.func68, Tryz.ntmps68
    go_wp2_with fail
    with_reducible refine HT1.out.mono ?_
    rintro e w1 ⟨rfl, k1, hR1, hk1, hD1, hG1⟩
    have HR1 := Lib.hid hR1
    have HG1 := Lib.hid (HG0.out.trans hG1)
    have HRow1 := Lib.hid (hG1.row hRB HRow0.out)
    have HD1 := Lib.hid hD1
    clear hR1 hG1 hD1 HRow0 HT1 HG0
    have HD1' : Hid (s.data.toList.drop k1 = l1) := HD1.out l1 rfl
    have HNm1 := Lib.hid (HNm.out k1 w1 HR1.out hk1)
    rw [HD1'.out] at HNm1
    obtain ⟨T, R, hTR⟩ : ∃ T R, tokenL l1 = (T, R) := ⟨_, _, rfl⟩
    rw [hTR] at HNm1
    have HTR := Lib.hid hTR
    clear hTR HNm HD1
    obtain ⟨TF, hTF⟩ : ∃ TF, TF = foldS T := ⟨_, rfl⟩
    have HTF := Lib.hid hTF
    have HE : Hid (TF.isEmpty = T.isEmpty) := by rw [hTF]; unfold Hid foldS; cases T <;> rfl
    simp only at HNm1
    rw [← hTF] at HNm1
    clear hTF
    go_wp2_with fail
    with_reducible refine HNm1.out.mono ?_
    rintro e w2 ⟨rfl, k2, hR2, hk2, hD2, hG2⟩
    have HR2 := Lib.hid hR2
    have HG2 := Lib.hid (HG1.out.trans hG2)
    have HRow2 := Lib.hid (hG2.row hRB HRow1.out)
    have HD2 := Lib.hid hD2
    clear hR2 hG2 hD2 HRow1 HNm1 HG1 HR1
    unfold tokV
    by_cases hT : T = []
    · have HN : Hid (parL (s.data.toList.drop k) = none) := by
        unfold Hid parL
        rw [HH1.out]
        simp only [HTR.out]
        rw [if_pos hT]
      have hte : TF.isEmpty = true := by rw [HE.out, hT]; rfl
      rw [hte]
      clear hT hte
      go_wp2_with (refine wpList_store_row' rfl 71 (.tmp 2) (.tmp 23) rfl w.heap.size #[.string ⟨#[]⟩, .string ⟨#[]⟩] rfl rfl 71 _ HRow2.out (by kernel_rfl) rfl (by kernel_rfl) ?_; intro WE hWE)
      (try simp only [Exit.inBlock, Exit.then])
      have hrow := setRow_heap _ w.heap.size _ #[.string ⟨#[]⟩, .string ⟨#[]⟩] _ _ HRow2.out
      rw [← hWE.out] at hrow
      refine bodyPost_ret (results_row_tmp (P := Tryz.prog) Tryz.results68 _ _ w.heap.size 71 _ (0, 0) _ rfl hrow Tryz.underlying71 rfl rfl) rfl ?_
      exact ⟨[], [], false, k2, rfl, by rw [hWE.out]; exact HR2.out.setRow hRB _, hk2, by unfold parIs; rw [HN.out], by rw [hWE.out]; exact HG2.out.setRow _ _ (Nat.le_refl _)⟩
    · have hte : TF.isEmpty = false := by rw [HE.out]; cases T with | nil => exact absurd rfl hT | cons a b => rfl
      rw [hte]
      have HTne := Lib.hid hT
      have HT21 := Lib.hid (HT2.out k2 w2 HR2.out hk2)
      rw [HD2.out] at HT21
      clear hte hT HT2
      cases h2 : takeL 61 R with
      | none =>
        rw [h2] at HT21
        have HN : Hid (parL (s.data.toList.drop k) = none) := by
          unfold Hid parL
          rw [HH1.out]
          simp only [HTR.out]
          rw [if_neg HTne.out, h2]
        clear h2
        go_wp2_with fail
        with_reducible refine HT21.out.mono ?_
        rintro e w3 ⟨rfl, k3, hR3, hk3, _, hG3⟩
        have HR3 := Lib.hid hR3
        have HG3 := Lib.hid (HG2.out.trans hG3)
        have HRow3 := Lib.hid (hG3.row hRB HRow2.out)
        clear hR3 hG3
        go_wp2_with (refine wpList_store_row' rfl 71 (.tmp 2) (.tmp 23) rfl w.heap.size #[.string ⟨#[]⟩, .string ⟨#[]⟩] rfl rfl 71 _ HRow3.out (by kernel_rfl) rfl (by kernel_rfl) ?_; intro WE hWE)
        (try simp only [Exit.inBlock, Exit.then])
        have hrow := setRow_heap _ w.heap.size _ #[.string ⟨#[]⟩, .string ⟨#[]⟩] _ _ HRow3.out
        rw [← hWE.out] at hrow
        refine bodyPost_ret (results_row_tmp (P := Tryz.prog) Tryz.results68 _ _ w.heap.size 71 _ (0, 0) _ rfl hrow Tryz.underlying71 rfl rfl) rfl ?_
        exact ⟨[], [], false, k3, rfl, by rw [hWE.out]; exact HR3.out.setRow hRB _, hk3, by unfold parIs; rw [HN.out], by rw [hWE.out]; exact HG3.out.setRow _ _ (Nat.le_refl _)⟩
      | some l2 =>
        rw [h2] at HT21
        have HH2 := Lib.hid h2
        clear h2
        go_wp2_with fail
        with_reducible refine HT21.out.mono ?_
        rintro e w3 ⟨rfl, k3, hR3, hk3, hD3, hG3⟩
        have HR3 := Lib.hid hR3
        have HG3 := Lib.hid (HG2.out.trans hG3)
        have HRow3 := Lib.hid (hG3.row hRB HRow2.out)
        have HD3 : Hid (s.data.toList.drop k3 = l2) := hD3 l2 rfl
        have HV1 := Lib.hid (HVl.out k3 w3 hR3 hk3)
        rw [HD3.out] at HV1
        clear hR3 hG3 hD3 HT21 HVl HR2 HG2 HRow2
        cases h3 : valueL l2 with
        | none =>
          rw [h3] at HV1
          have HN : Hid (parL (s.data.toList.drop k) = none) := by
            unfold Hid parL
            rw [HH1.out]
            simp only [HTR.out]
            rw [if_neg HTne.out, HH2.out]
            simp only [h3]
          clear h3
          unfold valV at HV1
          go_wp2_with fail
          with_reducible refine HV1.out.mono ?_
          rintro e w4 ⟨rfl, k4, hR4, hk4, _, hG4⟩
          have HR4 := Lib.hid hR4
          have HG4 := Lib.hid (HG3.out.trans hG4)
          have HRow4 := Lib.hid (hG4.row hRB HRow3.out)
          clear hR4 hG4
          go_wp2_with (refine wpList_store_row' rfl 71 (.tmp 2) (.tmp 31) rfl w.heap.size #[.string ⟨TF.toArray⟩, .string ⟨#[]⟩] rfl rfl 71 _ HRow4.out (by kernel_rfl) rfl (by kernel_rfl) ?_; intro WE hWE)
          (try simp only [Exit.inBlock, Exit.then])
          have hrow := setRow_heap _ w.heap.size _ #[.string ⟨TF.toArray⟩, .string ⟨#[]⟩] _ _ HRow4.out
          rw [← hWE.out] at hrow
          refine bodyPost_ret (results_row_tmp (P := Tryz.prog) Tryz.results68 _ _ w.heap.size 71 _ (0, 0) _ rfl hrow Tryz.underlying71 rfl rfl) rfl ?_
          exact ⟨TF, [], false, k4, rfl, by rw [hWE.out]; exact HR4.out.setRow hRB _, hk4, by unfold parIs; rw [HN.out], by rw [hWE.out]; exact HG4.out.setRow _ _ (Nat.le_refl _)⟩
        | some p =>
          obtain ⟨v, r⟩ := p
          rw [h3] at HV1
          have HN : Hid (parL (s.data.toList.drop k) = some ((foldS T, v), r)) := by
            unfold Hid parL
            rw [HH1.out]
            simp only [HTR.out]
            rw [if_neg HTne.out, HH2.out]
            simp only [h3]
          have HH3 := Lib.hid h3
          clear h3
          unfold valV at HV1
          go_wp2_with fail
          with_reducible refine HV1.out.mono ?_
          rintro e w4 ⟨rfl, k4, hR4, hk4, hD4, hG4⟩
          have HR4 := Lib.hid hR4
          have HG4 := Lib.hid (HG3.out.trans hG4)
          have HRow4 := Lib.hid (hG4.row hRB HRow3.out)
          have HD4 : Hid (s.data.toList.drop k4 = r) := hD4 v r rfl
          clear hR4 hG4 hD4
          go_wp2_with (refine wpList_store_row' rfl 71 (.tmp 2) (.tmp 31) rfl w.heap.size #[.string ⟨TF.toArray⟩, .string ⟨v.toArray⟩] rfl rfl 71 _ HRow4.out (by kernel_rfl) rfl (by kernel_rfl) ?_; intro WE hWE)
          (try simp only [Exit.inBlock, Exit.then])
          have hrow := setRow_heap _ w.heap.size _ #[.string ⟨TF.toArray⟩, .string ⟨v.toArray⟩] _ _ HRow4.out
          rw [← hWE.out] at hrow
          refine bodyPost_ret (results_row_tmp (P := Tryz.prog) Tryz.results68 _ _ w.heap.size 71 _ (0, 0) _ rfl hrow Tryz.underlying71 rfl rfl) rfl ?_
          refine ⟨TF, v, true, k4, rfl, by rw [hWE.out]; exact HR4.out.setRow hRB _, hk4, ?_, by rw [hWE.out]; exact HG4.out.setRow _ _ (Nat.le_refl _)⟩
          unfold parIs
          rw [HN.out]
          exact ⟨rfl, HTF.out, rfl, HD4.out⟩
end Go.Proofs.YtkmgflnmffdhjaaGreatDoor

/- Contracts of package params: all parameters; the type's second part. -/
namespace Go.Proofs.YtkmgflnmffdhjaaGreatDoor
open Go Go.RowKit

def prmCells (ps : List Prm) : List Value := ps.flatMap (fun p => [.string ⟨p.1.toArray⟩, .string ⟨p.2.toArray⟩])
theorem prmCells_app (a b : List Prm) : prmCells (a ++ b) = prmCells a ++ prmCells b := by simp [prmCells]
theorem prmCells_one (n v : List UInt8) : prmCells [(n, v)] = [.string ⟨n.toArray⟩, .string ⟨v.toArray⟩] := rfl
theorem Tryz.infoPrm : (Tryz.prog.info? 71).map (fun i => (i.zero, i.size, i.bytes)) = some (some (.agg #[.string ⟨#[]⟩, .string ⟨#[]⟩]), 2, 32) := by kernel_rfl
theorem Gr.own {B : Nat} {w W W' : World} {row : Option Nat} (h : Gr B w W) (hg : W.grownBy W' row) (hr : ∀ q, row = some q → w.heap.size ≤ q) : Gr B w W' :=
  ⟨hg.os.trans h.os, hg.tape.trans h.tape, hg.output.trans h.output, Nat.le_trans h.size hg.size, fun k hk hB => (hg.block k (Nat.lt_of_lt_of_le hk h.size) (fun e => by have := hr k e.symm; omega)).trans (h.block k hk hB)⟩
theorem Rd.own {W W' : World} {B : Nat} {s : ByteArray} {k : Nat} {row : Option Nat} (h : Rd W B s k) (hg : W.grownBy W' row) (hr : ∀ q, row = some q → q ≠ B) : Rd W' B s k :=
  h.block (hg.block B h.lt (fun e => hr B e.symm rfl))
theorem ownsRow_gr {w w' : World} {base B : Nat} {e : TypeId} {size : Nat} {v : Value} {n : Nat} {xs : List Value} (h : w.ownsRow base e size v n xs) (hb : Gr B w w') (hB : B < base) : w'.ownsRow base e size v n xs :=
  h.kept hb (by
    cases hv : v.ownBlock with
    | none => exact .inl rfl
    | some q => exact .inr (fun e => by have := (h.lt q hv).1; have e := Option.some.inj e; omega))
theorem own_cast2 {w : World} {base n n' size : Nat} {e : TypeId} {v : Value} {xs ys : List Value} (h : w.ownsRow base e size v n xs) (h1 : n = n') (h2 : xs = ys) : w.ownsRow base e size v n' ys := by subst h1 h2; exact h

set_option maxRecDepth 100000 in
set_option maxHeartbeats 4000000 in
theorem params_any (B : Nat) (s : ByteArray) (k : Nat) (w : World) (hr : Rd w B s k) (hl : s.size ≤ 1000000) (hk : k ≤ s.size) :
    Calls Tryz.prog 36 #[.pointer (some ⟨B, 0, none⟩)] w fun e w' => ∃ v, e = .returned v ∧ w'.ownsRow w.heap.size 71 2 v (parsL s.size (s.data.toList.drop k)).length (prmCells (parsL s.size (s.data.toList.drop k))) ∧
      (parsL s.size (s.data.toList.drop k)).length ≤ s.size ∧ Gr B w w' := by
  have hlB := hr.lt
  have HP := Lib.hid (fun j W h hj => param_any B s j W h (Nat.le_trans hl (by omega)) hj)
  obtain ⟨i0, hi, hz⟩ := Option.map_eq_some_iff.1 Tryz.infoPrm
  simp only [Prod.mk.injEq] at hz
  obtain ⟨hz0, hz1, hz2⟩ := hz
  have HR0 := Lib.hid hr
  clear hr
  go_enter Tryz.func36, Tryz.ntmps36
  go_wp2_with fail
  go_loopg [3] (s.size - k) (fun g v3 wr => ∃ (acc : List Prm) (j : Nat), g = s.size - j ∧ k ≤ j ∧ j ≤ s.size ∧ acc.length ≤ j ∧ wr.ownsRow w.heap.size 71 2 v3 acc.length (prmCells acc) ∧ Hid (Rd wr B s j) ∧ Hid (Gr B w wr) ∧
    Hid (parsL s.size (s.data.toList.drop k) = acc ++ parsL s.size (s.data.toList.drop j)))
  case atStart => exact ⟨[], k, by omega, by omega, hk, by simp, World.ownsRow_nil _ _ _ _, HR0.out, Gr.refl _ _, rfl⟩
  case round =>
    obtain ⟨acc, j, rfl, hkj, hj, hal, hown, HR, HG, HS⟩ := hrel
    have HO := Lib.hid hown
    have HP1 := Lib.hid (HP.out j wr HR.out hj)
    clear hown HP
    go_wp2_with fail
    with_reducible refine HP1.out.mono ?_
    rintro e w1 ⟨n, v, b, j1, rfl, hR1, hj1, hpi, hG1⟩
    have HR1 := Lib.hid hR1
    have HG1 := Lib.hid (HG.out.trans hG1)
    have HO1 := Lib.hid (ownsRow_gr HO.out hG1 hlB)
    have HPI := Lib.hid hpi
    have hsz := HG.out.size
    have hsz1 := HG1.out.size
    clear hR1 hG1 hpi HP1 HR HG HO HR0
    unfold parV
    cases b with
    | false =>
      have HN : Hid (parL (s.data.toList.drop j) = none) := by
        have h := HPI.out
        unfold parIs at h
        split at h
        · exact absurd h.1 (by simp)
        · next e => exact e
      have HE : Hid (parsL s.size (s.data.toList.drop k) = acc) := by unfold Hid; rw [HS.out, parsL_end HN.out, List.append_nil]
      go_wp2_with fail
      go_ret
      refine ⟨_, rfl, ?_, by rw [HE.out]; omega, HG1.out.below ((Below.refl _ _).alloc (Nat.le_refl _) _)⟩
      rw [HE.out]
      exact HO1.out.alloc _
    | true =>
      obtain ⟨r, HN⟩ : ∃ r, Hid (parL (s.data.toList.drop j) = some ((n, v), r) ∧ s.data.toList.drop j1 = r) := by
        have h := HPI.out
        unfold parIs at h
        split at h
        · next n' v' r e =>
          obtain ⟨_, rfl, rfl, h4⟩ := h
          exact ⟨r, e, h4⟩
        · exact absurd h (by simp)
      have hjj : j < j1 := by
        have h1 := parL_len HN.out.1
        rw [← HN.out.2, List.length_drop, List.length_drop, len_toList] at h1
        omega
      have HE : Hid (parsL s.size (s.data.toList.drop j) = (n, v) :: parsL s.size (s.data.toList.drop j1)) := by
        unfold Hid
        rw [parsL_step HN.out.1 (by rw [List.length_drop, len_toList]; omega), HN.out.2]
      have HC1 : Hid (∀ q u, [Value.string ⟨n.toArray⟩, .string ⟨v.toArray⟩][q]? = some u → ((w1.alloc (.cells #[.string ⟨n.toArray⟩, .string ⟨v.toArray⟩] 71)).alloc (.cells #[.string ⟨n.toArray⟩, .string ⟨v.toArray⟩] 71)).cell? ((⟨w1.heap.size + 1, 0, none⟩ : Addr).add q) = some u) := by
        have := cells_two_new (w1.alloc (.cells #[.string ⟨n.toArray⟩, .string ⟨v.toArray⟩] 71)) 71 (.string ⟨n.toArray⟩) (.string ⟨v.toArray⟩)
        intro q u h
        have := this q u h
        simpa using this
      go_wp2_with (at_builtin; refine wpList_append_own _ rfl _ _ 58 rfl w.heap.size 71 i0 (.agg #[.string ⟨#[]⟩, .string ⟨#[]⟩]) 2 32 Tryz.underlying58 hi hz0 hz1 hz2 rfl (by decide) _ acc.length (prmCells acc) rfl ((HO1.out.alloc _).alloc _) ⟨w1.heap.size + 1, 0, none⟩ 1 1 [.string ⟨n.toArray⟩, .string ⟨v.toArray⟩] rfl rfl HC1.out (by simp [Value.oneCell']) (by unfold maxLen; omega) (by omega) (by simp; omega) ?_; intro v4 w4 hown4 hgrow4 _)
      have HAA : Below w1.heap.size w1 ((w1.alloc (.cells #[.string ⟨n.toArray⟩, .string ⟨v.toArray⟩] 71)).alloc (.cells #[.string ⟨n.toArray⟩, .string ⟨v.toArray⟩] 71)) := ((Below.refl _ _).alloc (Nat.le_refl _) _).alloc (by simp) _
      have HG4 := Lib.hid (Gr.own (HG1.out.below HAA) hgrow4 (fun q hq => (HO1.out.lt q hq).1))
      have HR4 := Lib.hid (Rd.own (HR1.out.below HAA) hgrow4 (fun q hq => by have := (HO1.out.lt q hq).1; omega))
      have HO4 := Lib.hid hown4
      clear hgrow4 hown4 HAA HC1
      go_roundg (s.size - j1)
      case measure => omega
      case rel =>
        refine ⟨acc ++ [(n, v)], j1, rfl, by omega, hj1, by simp; omega, own_cast2 HO4.out (by simp) (by rw [prmCells_app, prmCells_one]), HR4.out, HG4.out, ?_⟩
        unfold Hid
        rw [HS.out, HE.out, List.append_assoc]
        rfl

def subV : Option (List UInt8 × List UInt8) → Value
  | some (v, _) => .tuple #[.string ⟨v.toArray⟩, .bool true]
  | none => .tuple #[.string ⟨#[]⟩, .bool false]
set_option maxRecDepth 100000 in
theorem sub_any (B : Nat) (s : ByteArray) (k : Nat) (w : World) (hr : Rd w B s k) (hl : s.size ≤ 1000000000) (hk : k ≤ s.size) :
    Calls Tryz.prog 34 #[.pointer (some ⟨B, 0, none⟩)] w fun e w' => e = .returned (subV (subL (s.data.toList.drop k))) ∧
      ∃ k', Rd w' B s k' ∧ k' ≤ s.size ∧ (∀ v r, subL (s.data.toList.drop k) = some (v, r) → s.data.toList.drop k' = r) ∧ Gr B w w' := by
  have HT1 := Lib.hid (takes_int B s k 47 47 rfl w hr hl hk)
  have HNm := Lib.hid (fun j W h hj => rdName_any B s j W h hl hj)
  clear hr
  cases h1 : takeL 47 (s.data.toList.drop k) with
  | none =>
    rw [h1] at HT1
    have HN : Hid (subL (s.data.toList.drop k) = none) := by unfold Hid subL; rw [h1]
    clear h1
    go_enter Tryz.func34, Tryz.ntmps34
    go_wp2_with fail
    with_reducible refine HT1.out.mono ?_
    rintro e w1 ⟨rfl, k1, hR1, hk1, _, hG1⟩
    go_wp2_with fail
    go_ret2
    refine ⟨by rw [HN.out]; rfl, k1, hR1, hk1, fun v r h => ?_, hG1⟩
    rw [HN.out] at h
    cases h
  | some l1 =>
    rw [h1] at HT1
    have HH1 := Lib.hid h1
    clear h1
    go_enter Tryz.func34, Tryz.ntmps34
    go_wp2_with fail
    with_reducible refine HT1.out.mono ?_
    rintro e w1 ⟨rfl, k1, hR1, hk1, hD1, hG1⟩
    have HD1' : Hid (s.data.toList.drop k1 = l1) := hD1 l1 rfl
    have HG1 := Lib.hid hG1
    have HNm1 := Lib.hid (HNm.out k1 w1 hR1 hk1)
    rw [HD1'.out] at HNm1
    obtain ⟨T, R, hTR⟩ : ∃ T R, tokenL l1 = (T, R) := ⟨_, _, rfl⟩
    rw [hTR] at HNm1
    simp only at HNm1
    have HS : Hid (subL (s.data.toList.drop k) = if T = [] then none else some (foldS T, R)) := by
      unfold Hid subL
      rw [HH1.out]
      simp only [hTR]
    clear hTR HNm hD1 hG1 hR1
    unfold tokV at HNm1
    go_wp2_with fail
    with_reducible refine HNm1.out.mono ?_
    rintro e w2 ⟨rfl, k2, hR2, hk2, hD2, hG2⟩
    have HR2 := Lib.hid hR2
    have HG2 := Lib.hid (HG1.out.trans hG2)
    have HD2 := Lib.hid hD2
    clear hR2 hG2 hD2
    go_wp2_with fail
    go_ret2
    refine ⟨?_, k2, HR2.out, hk2, fun v r h => ?_, HG2.out⟩
    · rw [HS.out]
      cases T <;> rfl
    · rw [HS.out] at h
      split at h
      · cases h
      · cases h
        exact HD2.out
end Go.Proofs.YtkmgflnmffdhjaaGreatDoor
