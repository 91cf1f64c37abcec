/- Contracts of the document's layer 7: a parameter's value. -/
import Derived.Test.YtcnihodikpcfkaaGreatDoorPbD
namespace Go.Proofs.YtcnihodikpcfkaaGreatDoor
open Go Go.RowKit

set_option maxRecDepth 100000 in
set_option maxHeartbeats 2000000 in
theorem refGet_any (ts sb : ByteArray) (u : Value) (ps : List Prm) (nm : ByteArray) (w : World) (hu : prmAt w u ps) (hps : small1 ps) (hnm : nm.size ≤ 1000000) :
    Calls Tryz.prog 11 #[.agg #[.string ts, .string sb, u], .string nm] w fun e w' => e = .returned (getOV (getP ps nm.data.toList)) ∧ Below w.heap.size w w' := by
  have HU := Lib.hid hu
  obtain ⟨ao, cap, rfl, hcl, hcm, hcell⟩ := hu
  unfold maxLen at hcm
  have HC := Lib.hid hcell
  clear hcell
  obtain ⟨n, hn⟩ : ∃ n, n = ps.length := ⟨_, rfl⟩
  rw [← hn] at hcl ⊢
  have HN := Lib.hid hn
  clear hn
  obtain ⟨F, hF⟩ : ∃ F : ByteArray, F = ⟨(foldS nm.data.toList).toArray⟩ := ⟨_, rfl⟩
  have HF1 := Lib.hid (fun W => refFold_any nm W (by omega))
  rw [← hF] at HF1
  have HFl : Hid (F.data.toList = foldS nm.data.toList) := by unfold Hid; rw [hF]
  have HF2 := Lib.hid (fun (a : ByteArray) W h => refFold_any a W h)
  clear hF
  go_enter Tryz.func11, Tryz.ntmps11
  go_wp2_with fail
  go_loopg [6] n (fun g v1 wr => ∃ k : Nat, g = n - k ∧ k ≤ n ∧ v1 = .int .i64 (k : Int) ∧ Hid (Below w.heap.size w wr) ∧ w.heap.size < wr.heap.size ∧ wr.cell? ⟨w.heap.size, 2, none⟩ = some (.slice ao n cap) ∧ Hid (getP ps nm.data.toList = getP (ps.drop k) nm.data.toList))
  case atStart =>
    obtain ⟨x0, x1, x2⟩ := box3_cells (t := 30) (Below.refl _ (w.alloc (.cells #[.string ts, .string sb, .slice ao n cap] 30)))
    exact ⟨0, by omega, by omega, rfl, (Below.refl _ _).alloc (Nat.le_refl _) _, by simp, x2, rfl⟩
  case round =>
    obtain ⟨k, rfl, hk, rfl, HB, hbk, x2, HS⟩ := hrel
    by_cases hlt : k < n
    · have hlt' : k < ps.length := by rw [← HN.out]; exact hlt
      rcases HC.out with h0 | ⟨g, rfl, hg, hcc⟩
      · rw [h0] at hlt'
        simp at hlt'
      · obtain ⟨d0, d1⟩ := hcc k hlt'
        have hsm := hps ps[k] (List.getElem_mem hlt')
        have HStep : Hid (ps.drop k = ps[k] :: ps.drop (k + 1)) := List.drop_eq_getElem_cons hlt'
        rw [HStep.out] at HS
        obtain ⟨p, hp⟩ : ∃ p, p = ps[k] := ⟨_, rfl⟩
        rw [← hp] at d0 d1 HS hsm
        replace d0 := (HB.out.cell (p := ⟨g, k * 2, none⟩) hg).trans d0
        replace d1 := (HB.out.cell (p := ⟨g, k * 2 + 1, none⟩) hg).trans d1
        have hgr : g < wr.heap.size := Nat.lt_of_lt_of_le hg HB.out.size
        obtain ⟨pn, pv⟩ := p
        obtain ⟨A, hA⟩ : ∃ A : ByteArray, A = ⟨pn.toArray⟩ := ⟨_, rfl⟩
        have HA : Hid (A.data.toList = pn) := by unfold Hid; rw [hA]
        have hAs : A.size ≤ 1000000 := by rw [← len_toList, HA.out]; exact hsm
        replace d0 : wr.cell? ⟨g, k * 2, none⟩ = some (.string A) := by rw [hA]; exact d0
        obtain ⟨FA, hFA⟩ : ∃ FA : ByteArray, FA = ⟨(foldS A.data.toList).toArray⟩ := ⟨_, rfl⟩
        have HFA := Lib.hid (HF2.out A wr (by omega))
        rw [← hFA] at HFA
        have HFAl : Hid (FA.data.toList = foldS pn) := by unfold Hid; rw [hFA, HA.out]
        clear hcc hp HStep hA hFA hlt'
        by_cases hf : foldS pn = foldS nm.data.toList
        · have b1 : (FA.toList == F.toList) = true := str_eq (by rw [HFAl.out, HFl.out]; exact hf)
          have HG : Hid (getP ((pn, pv) :: ps.drop (k + 1)) nm.data.toList = some pv) := getP_hit hf
          clear hf
          go_wp2_with fail
          with_reducible refine HFA.out.mono ?_
          rintro e w2 ⟨rfl, hb2⟩
          have HF1' := Lib.hid (HF1.out w2)
          go_wp2_with fail
          with_reducible refine HF1'.out.mono ?_
          rintro e w3 ⟨rfl, hb3⟩
          have hb23 : Below wr.heap.size wr w3 := hb2.trans (hb3.mono hb2.size)
          replace x2 := (hb23.cell (p := ⟨w.heap.size, 2, none⟩) hbk).trans x2
          replace d1 : w3.cell? ⟨g, k * 2 + 1, none⟩ = some (.string ⟨pv.toArray⟩) := (hb23.cell (p := ⟨g, k * 2 + 1, none⟩) hgr).trans d1
          have HB3 : Hid (Below w.heap.size w w3) := HB.out.trans (hb23.mono HB.out.size)
          clear hb2 hb3 hb23 d0
          go_wp2_with fail
          go_ret2
          exact ⟨by rw [HS.out, HG.out]; rfl, HB3.out⟩
        · have b1 : (FA.toList == F.toList) = false := str_ne (by rw [HFAl.out, HFl.out]; exact hf)
          have HG : Hid (getP ((pn, pv) :: ps.drop (k + 1)) nm.data.toList = getP (ps.drop (k + 1)) nm.data.toList) := getP_miss hf
          clear hf
          go_wp2_with fail
          with_reducible refine HFA.out.mono ?_
          rintro e w2 ⟨rfl, hb2⟩
          have HF1' := Lib.hid (HF1.out w2)
          go_wp2_with fail
          with_reducible refine HF1'.out.mono ?_
          rintro e w3 ⟨rfl, hb3⟩
          have hb23 : Below wr.heap.size wr w3 := hb2.trans (hb3.mono hb2.size)
          replace x2 := (hb23.cell (p := ⟨w.heap.size, 2, none⟩) hbk).trans x2
          have HB3 : Hid (Below w.heap.size w w3) := HB.out.trans (hb23.mono HB.out.size)
          have hbk3 := Nat.lt_of_lt_of_le hbk hb23.size
          clear hb2 hb3 hb23 d0 d1
          go_wp2_with fail
          go_roundg (n - (k + 1))
          case measure => omega
          case rel => exact ⟨k + 1, rfl, by omega, by go_num, HB3, hbk3, x2, by unfold Hid; rw [HS.out, HG.out]⟩
    · have HE : Hid (ps.drop k = []) := List.drop_eq_nil_of_le (by have := HN.out; omega)
      go_wp2_with fail
      go_ret2
      exact ⟨by rw [HS.out, HE.out]; rfl, HB.out⟩
end Go.Proofs.YtcnihodikpcfkaaGreatDoor
