/- Contracts of package params: all parameters; the type's second part. -/
import Derived.Test.YtcnihodikpcfkaaGreatDoorParJ
namespace Go.Proofs.YtcnihodikpcfkaaGreatDoor
open Go Go.RowKit

def prmCells (ps : List Prm) : List Value := ps.flatMap (fun p => [.string ⟨p.1.toArray⟩, .string ⟨p.2.toArray⟩])
theorem prmCells_app (a b : List Prm) : prmCells (a ++ b) = prmCells a ++ prmCells b := by simp [prmCells]
theorem prmCells_one (n v : List UInt8) : prmCells [(n, v)] = [.string ⟨n.toArray⟩, .string ⟨v.toArray⟩] := rfl
theorem Tryz.infoPrm : (Tryz.prog.info? 42).map (fun i => (i.zero, i.size, i.bytes)) = some (some (.agg #[.string ⟨#[]⟩, .string ⟨#[]⟩]), 2, 32) := by kernel_rfl
theorem Gr.own {B : Nat} {w W W' : World} {row : Option Nat} (h : Gr B w W) (hg : W.grownBy W' row) (hr : ∀ q, row = some q → w.heap.size ≤ q) : Gr B w W' :=
  ⟨hg.os.trans h.os, hg.tape.trans h.tape, hg.output.trans h.output, Nat.le_trans h.size hg.size, fun k hk hB => (hg.block k (Nat.lt_of_lt_of_le hk h.size) (fun e => by have := hr k e.symm; omega)).trans (h.block k hk hB)⟩
theorem Rd.own {W W' : World} {B : Nat} {s : ByteArray} {k : Nat} {row : Option Nat} (h : Rd W B s k) (hg : W.grownBy W' row) (hr : ∀ q, row = some q → q ≠ B) : Rd W' B s k :=
  h.block (hg.block B h.lt (fun e => hr B e.symm rfl))
theorem ownsRow_gr {w w' : World} {base B : Nat} {e : TypeId} {size : Nat} {v : Value} {n : Nat} {xs : List Value} (h : w.ownsRow base e size v n xs) (hb : Gr B w w') (hB : B < base) : w'.ownsRow base e size v n xs :=
  h.kept hb (by
    cases hv : v.ownBlock with
    | none => exact .inl rfl
    | some q => exact .inr (fun e => by have := (h.lt q hv).1; have e := Option.some.inj e; omega))
theorem own_cast2 {w : World} {base n n' size : Nat} {e : TypeId} {v : Value} {xs ys : List Value} (h : w.ownsRow base e size v n xs) (h1 : n = n') (h2 : xs = ys) : w.ownsRow base e size v n' ys := by subst h1 h2; exact h

set_option maxRecDepth 100000 in
set_option maxHeartbeats 4000000 in
theorem params_any (B : Nat) (s : ByteArray) (k : Nat) (w : World) (hr : Rd w B s k) (hl : s.size ≤ 1000000) (hk : k ≤ s.size) :
    Calls Tryz.prog 19 #[.pointer (some ⟨B, 0, none⟩)] w fun e w' => ∃ v, e = .returned v ∧ w'.ownsRow w.heap.size 42 2 v (parsL s.size (s.data.toList.drop k)).length (prmCells (parsL s.size (s.data.toList.drop k))) ∧
      (parsL s.size (s.data.toList.drop k)).length ≤ s.size ∧ Gr B w w' := by
  have hlB := hr.lt
  have HP := Lib.hid (fun j W h hj => param_any B s j W h (Nat.le_trans hl (by omega)) hj)
  obtain ⟨i0, hi, hz⟩ := Option.map_eq_some_iff.1 Tryz.infoPrm
  simp only [Prod.mk.injEq] at hz
  obtain ⟨hz0, hz1, hz2⟩ := hz
  have HR0 := Lib.hid hr
  clear hr
  go_enter Tryz.func19, Tryz.ntmps19
  go_wp2_with fail
  go_loopg [3] (s.size - k) (fun g v3 wr => ∃ (acc : List Prm) (j : Nat), g = s.size - j ∧ k ≤ j ∧ j ≤ s.size ∧ acc.length ≤ j ∧ wr.ownsRow w.heap.size 42 2 v3 acc.length (prmCells acc) ∧ Hid (Rd wr B s j) ∧ Hid (Gr B w wr) ∧
    Hid (parsL s.size (s.data.toList.drop k) = acc ++ parsL s.size (s.data.toList.drop j)))
  case atStart => exact ⟨[], k, by omega, by omega, hk, by simp, World.ownsRow_nil _ _ _ _, HR0.out, Gr.refl _ _, rfl⟩
  case round =>
    obtain ⟨acc, j, rfl, hkj, hj, hal, hown, HR, HG, HS⟩ := hrel
    have HO := Lib.hid hown
    have HP1 := Lib.hid (HP.out j wr HR.out hj)
    clear hown HP
    go_wp2_with fail
    with_reducible refine HP1.out.mono ?_
    rintro e w1 ⟨n, v, b, j1, rfl, hR1, hj1, hpi, hG1⟩
    have HR1 := Lib.hid hR1
    have HG1 := Lib.hid (HG.out.trans hG1)
    have HO1 := Lib.hid (ownsRow_gr HO.out hG1 hlB)
    have HPI := Lib.hid hpi
    have hsz := HG.out.size
    have hsz1 := HG1.out.size
    clear hR1 hG1 hpi HP1 HR HG HO HR0
    unfold parV
    cases b with
    | false =>
      have HN : Hid (parL (s.data.toList.drop j) = none) := by
        have h := HPI.out
        unfold parIs at h
        split at h
        · exact absurd h.1 (by simp)
        · next e => exact e
      have HE : Hid (parsL s.size (s.data.toList.drop k) = acc) := by unfold Hid; rw [HS.out, parsL_end HN.out, List.append_nil]
      go_wp2_with fail
      go_ret
      refine ⟨_, rfl, ?_, by rw [HE.out]; omega, HG1.out.below ((Below.refl _ _).alloc (Nat.le_refl _) _)⟩
      rw [HE.out]
      exact HO1.out.alloc _
    | true =>
      obtain ⟨r, HN⟩ : ∃ r, Hid (parL (s.data.toList.drop j) = some ((n, v), r) ∧ s.data.toList.drop j1 = r) := by
        have h := HPI.out
        unfold parIs at h
        split at h
        · next n' v' r e =>
          obtain ⟨_, rfl, rfl, h4⟩ := h
          exact ⟨r, e, h4⟩
        · exact absurd h (by simp)
      have hjj : j < j1 := by
        have h1 := parL_len HN.out.1
        rw [← HN.out.2, List.length_drop, List.length_drop, len_toList] at h1
        omega
      have HE : Hid (parsL s.size (s.data.toList.drop j) = (n, v) :: parsL s.size (s.data.toList.drop j1)) := by
        unfold Hid
        rw [parsL_step HN.out.1 (by rw [List.length_drop, len_toList]; omega), HN.out.2]
      have HC1 : Hid (∀ q u, [Value.string ⟨n.toArray⟩, .string ⟨v.toArray⟩][q]? = some u → ((w1.alloc (.cells #[.string ⟨n.toArray⟩, .string ⟨v.toArray⟩] 42)).alloc (.cells #[.string ⟨n.toArray⟩, .string ⟨v.toArray⟩] 42)).cell? ((⟨w1.heap.size + 1, 0, none⟩ : Addr).add q) = some u) := by
        have := cells_two_new (w1.alloc (.cells #[.string ⟨n.toArray⟩, .string ⟨v.toArray⟩] 42)) 42 (.string ⟨n.toArray⟩) (.string ⟨v.toArray⟩)
        intro q u h
        have := this q u h
        simpa using this
      go_wp2_with (at_builtin; refine wpList_append_own _ rfl _ _ 23 rfl w.heap.size 42 i0 (.agg #[.string ⟨#[]⟩, .string ⟨#[]⟩]) 2 32 Tryz.underlying23 hi hz0 hz1 hz2 rfl (by decide) _ acc.length (prmCells acc) rfl ((HO1.out.alloc _).alloc _) ⟨w1.heap.size + 1, 0, none⟩ 1 1 [.string ⟨n.toArray⟩, .string ⟨v.toArray⟩] rfl rfl HC1.out (by simp [Value.oneCell']) (by unfold maxLen; omega) (by omega) (by simp; omega) ?_; intro v4 w4 hown4 hgrow4 _)
      have HAA : Below w1.heap.size w1 ((w1.alloc (.cells #[.string ⟨n.toArray⟩, .string ⟨v.toArray⟩] 42)).alloc (.cells #[.string ⟨n.toArray⟩, .string ⟨v.toArray⟩] 42)) := ((Below.refl _ _).alloc (Nat.le_refl _) _).alloc (by simp) _
      have HG4 := Lib.hid (Gr.own (HG1.out.below HAA) hgrow4 (fun q hq => (HO1.out.lt q hq).1))
      have HR4 := Lib.hid (Rd.own (HR1.out.below HAA) hgrow4 (fun q hq => by have := (HO1.out.lt q hq).1; omega))
      have HO4 := Lib.hid hown4
      clear hgrow4 hown4 HAA HC1
      go_roundg (s.size - j1)
      case measure => omega
      case rel =>
        refine ⟨acc ++ [(n, v)], j1, rfl, by omega, hj1, by simp; omega, own_cast2 HO4.out (by simp) (by rw [prmCells_app, prmCells_one]), HR4.out, HG4.out, ?_⟩
        unfold Hid
        rw [HS.out, HE.out, List.append_assoc]
        rfl

def subV : Option (List UInt8 × List UInt8) → Value
  | some (v, _) => .tuple #[.string ⟨v.toArray⟩, .bool true]
  | none => .tuple #[.string ⟨#[]⟩, .bool false]
set_option maxRecDepth 100000 in
theorem sub_any (B : Nat) (s : ByteArray) (k : Nat) (w : World) (hr : Rd w B s k) (hl : s.size ≤ 1000000000) (hk : k ≤ s.size) :
    Calls Tryz.prog 17 #[.pointer (some ⟨B, 0, none⟩)] w fun e w' => e = .returned (subV (subL (s.data.toList.drop k))) ∧
      ∃ k', Rd w' B s k' ∧ k' ≤ s.size ∧ (∀ v r, subL (s.data.toList.drop k) = some (v, r) → s.data.toList.drop k' = r) ∧ Gr B w w' := by
  have HT1 := Lib.hid (takes_int B s k 47 47 rfl w hr hl hk)
  have HNm := Lib.hid (fun j W h hj => rdName_any B s j W h hl hj)
  clear hr
  cases h1 : takeL 47 (s.data.toList.drop k) with
  | none =>
    rw [h1] at HT1
    have HN : Hid (subL (s.data.toList.drop k) = none) := by unfold Hid subL; rw [h1]
    clear h1
    go_enter Tryz.func17, Tryz.ntmps17
    go_wp2_with fail
    with_reducible refine HT1.out.mono ?_
    rintro e w1 ⟨rfl, k1, hR1, hk1, _, hG1⟩
    go_wp2_with fail
    go_ret2
    refine ⟨by rw [HN.out]; rfl, k1, hR1, hk1, fun v r h => ?_, hG1⟩
    rw [HN.out] at h
    cases h
  | some l1 =>
    rw [h1] at HT1
    have HH1 := Lib.hid h1
    clear h1
    go_enter Tryz.func17, Tryz.ntmps17
    go_wp2_with fail
    with_reducible refine HT1.out.mono ?_
    rintro e w1 ⟨rfl, k1, hR1, hk1, hD1, hG1⟩
    have HD1' : Hid (s.data.toList.drop k1 = l1) := hD1 l1 rfl
    have HG1 := Lib.hid hG1
    have HNm1 := Lib.hid (HNm.out k1 w1 hR1 hk1)
    rw [HD1'.out] at HNm1
    obtain ⟨T, R, hTR⟩ : ∃ T R, tokenL l1 = (T, R) := ⟨_, _, rfl⟩
    rw [hTR] at HNm1
    simp only at HNm1
    have HS : Hid (subL (s.data.toList.drop k) = if T = [] then none else some (foldS T, R)) := by
      unfold Hid subL
      rw [HH1.out]
      simp only [hTR]
    clear hTR HNm hD1 hG1 hR1
    unfold tokV at HNm1
    go_wp2_with fail
    with_reducible refine HNm1.out.mono ?_
    rintro e w2 ⟨rfl, k2, hR2, hk2, hD2, hG2⟩
    have HR2 := Lib.hid hR2
    have HG2 := Lib.hid (HG1.out.trans hG2)
    have HD2 := Lib.hid hD2
    clear hR2 hG2 hD2
    go_wp2_with fail
    go_ret2
    refine ⟨?_, k2, HR2.out, hk2, fun v r h => ?_, HG2.out⟩
    · rw [HS.out]
      cases T <;> rfl
    · rw [HS.out] at h
      split at h
      · cases h
      · cases h
        exact HD2.out
end Go.Proofs.YtcnihodikpcfkaaGreatDoor
