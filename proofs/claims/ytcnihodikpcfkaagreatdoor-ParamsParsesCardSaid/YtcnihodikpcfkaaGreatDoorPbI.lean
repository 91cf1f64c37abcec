/- Contracts of the document's layer 7: a base's value. -/
import Derived.Test.YtcnihodikpcfkaaGreatDoorPbG
namespace Go.Proofs.YtcnihodikpcfkaaGreatDoor
open Go Go.RowKit

theorem getV_at {ps : List Prm} {nm : List UInt8} {i : Nat} (h : idx ps nm = some i) (hi : i < ps.length) : getV ps nm = some (ps[i]).2 := by
  rw [getV_idx, h]
  show ps[i]?.map (·.2) = _
  rw [List.getElem?_eq_getElem hi]
  rfl
theorem getV_off {ps : List Prm} {nm : List UInt8} (h : idx ps nm = none) : getV ps nm = none := by
  rw [getV_idx, h]
  rfl
theorem refFind_hit {v : Value} {ps : List Prm} {nm : ByteArray} {w : World} {i : Nat} (hv : prmAt w v ps) (h : idx ps nm.data.toList = some i) :
    Calls Tryz.prog 39 #[v, .string nm] w fun e w' => e = .returned (.int .i64 (i : Int)) ∧ w = w' := by
  have := refFind_any v ps nm w hv
  rw [h] at this
  exact this
theorem refFind_miss {v : Value} {ps : List Prm} {nm : ByteArray} {w : World} (hv : prmAt w v ps) (h : idx ps nm.data.toList = none) :
    Calls Tryz.prog 39 #[v, .string nm] w fun e w' => e = .returned (.int .i64 (-1)) ∧ w = w' := by
  have := refFind_any v ps nm w hv
  rw [h] at this
  exact this
/-- A value's cell. -/
theorem prmAt.val {W : World} {ao : Option Addr} {n cap : Nat} {ps : List Prm} (h : prmAt W (.slice ao n cap) ps) {i : Nat} (hi : i < ps.length) :
    ∃ g, ao = some ⟨g, 0, none⟩ ∧ W.cell? ⟨g, i * 2 + 1, none⟩ = some (.string ⟨(ps[i]).2.toArray⟩) := by
  obtain ⟨ao', cap', e, _, _, hc⟩ := h
  cases e
  rcases hc with h0 | ⟨g, e, _, hcc⟩
  · rw [h0] at hi
    simp at hi
  · exact ⟨g, e, (hcc i hi).2⟩
theorem str_of (s : ByteArray) {l : List UInt8} (h : s.data.toList = l) : Value.string s = .string ⟨l.toArray⟩ := by
  subst h
  rfl

set_option maxRecDepth 100000 in
set_option maxHeartbeats 8000000 in
theorem refTold_any (v : Value) (ps : List Prm) (Bs : ByteArray) (w : World) (hv : prmAt w v ps) (hps : smallP ps) (hpl : ps.length ≤ 100000) (hb : Bs.size ≤ 1000000) :
    Calls Tryz.prog 25 #[v, .string Bs] w fun e w' => e = .returned (getOV (toldL ps Bs.data.toList)) ∧ Below w.heap.size w w' := by
  have HV := Lib.hid hv
  have HFh := Lib.hid (fun (nm : ByteArray) (i : Nat) W (h : prmAt W v ps) hi => refFind_hit (nm := nm) (i := i) h hi)
  have HFm := Lib.hid (fun (nm : ByteArray) W (h : prmAt W v ps) hi => refFind_miss (nm := nm) h hi)
  have HFa := Lib.hid (fun (nm : ByteArray) W (h : prmAt W v ps) => refFind_any v ps nm W h)
  have HOp := Lib.hid (fun s W h => refOpen_any s W h)
  have HBa := Lib.hid (fun s W h => refBare_any s W h)
  have HDi := Lib.hid (fun (n : Nat) W (h : n ≤ 1000000) => refDigits_any (n : Int) (by omega) (by omega) W)
  obtain ⟨Ns, hNs⟩ : ∃ N : ByteArray, N = Bs ++ ⟨#[42]⟩ := ⟨_, rfl⟩
  have hSl : Ns.data.toList = Bs.data.toList ++ [42] := by rw [hNs, cat_toList]
  have hSs : Ns.size ≤ 1000100 := by rw [← len_toList, hNs, cat_toList]; simp; omega
  have HN2 : Hid (Bs ++ ⟨#[42]⟩ = Ns) := hNs.symm
  have HSl := Lib.hid hSl
  obtain ⟨L, hL⟩ : ∃ l, l = Bs.data.toList := ⟨_, rfl⟩
  have HL := Lib.hid hL
  rw [← hL] at HSl ⊢
  have HTo : Hid (toldL ps L = match getV ps L with | some v => some v | none => match getV ps (L ++ [42]) with | some v => some (opn (bareL v)) | none => if (pieceL ps L 0).isSome then some (pcsL ps L (ps.length + 1) 0) else none) := rfl
  obtain ⟨ao, cap, rfl, hcl, hcm, _⟩ := hv
  unfold maxLen at hcm
  obtain ⟨n, hn⟩ : ∃ n, n = ps.length := ⟨_, rfl⟩
  rw [← hn] at hcl hpl HTo HV HFh HFm HFa ⊢
  have HN := Lib.hid hn
  clear hn hSl hNs hL
  go_enter Tryz.func25, Tryz.ntmps25
  go_wp2_with fail
  cases h1 : idx ps L with
  | some i =>
    have hi : i < ps.length := idx_lt h1
    have hin : (i : Int) < (n : Int) := by rw [HN.out]; omega
    have hi0 : (0 : Int) ≤ (i : Int) := by omega
    have hT : Hid (toldL ps L = some (ps[i]).2) := by unfold Hid; rw [HTo.out, getV_at h1 hi]
    obtain ⟨g, rfl, d⟩ := prmAt.val HV.out hi
    obtain ⟨X, hX⟩ : ∃ X, X = (ps[i]).2 := ⟨_, rfl⟩
    rw [← hX] at d hT
    with_reducible refine (HFh.out Bs i w HV.out (by rw [← HL.out]; exact h1)).mono ?_
    rintro e w1 ⟨rfl, rfl⟩
    clear h1 hX hi
    go_wp2_with fail
    go_ret2
    exact ⟨by rw [hT.out]; rfl, Below.refl _ _⟩
  | none =>
    have HT1 : Hid (toldL ps L = match getV ps (L ++ [42]) with | some v => some (opn (bareL v)) | none => if (pieceL ps L 0).isSome then some (pcsL ps L (n + 1) 0) else none) := by unfold Hid; rw [HTo.out, getV_off h1]
    with_reducible refine (HFm.out Bs w HV.out (by rw [← HL.out]; exact h1)).mono ?_
    rintro e w1 ⟨rfl, rfl⟩
    clear h1 HTo
    go_wp2_with fail
    rw [HN2.out]
    cases h2 : idx ps (L ++ [42]) with
    | some i =>
      have hi : i < ps.length := idx_lt h2
      have hin : (i : Int) < (n : Int) := by rw [HN.out]; omega
      have hi0 : (0 : Int) ≤ (i : Int) := by omega
      have hg2 := getV_at h2 hi
      have hsm := getV_small hps hg2
      have hT : Hid (toldL ps L = some (opn (bareL (ps[i]).2))) := by unfold Hid; rw [HT1.out, hg2]
      obtain ⟨g, rfl, d⟩ := prmAt.val HV.out hi
      with_reducible refine (HFh.out Ns i w HV.out (by rw [HSl.out]; exact h2)).mono ?_
      rintro e w1 ⟨rfl, rfl⟩
      obtain ⟨X, hX⟩ : ∃ X, X = (ps[i]).2 := ⟨_, rfl⟩
      rw [← hX] at hsm d hT
      clear h2 hi hg2 hX
      go_wp2_with fail
      with_reducible refine (HBa.out ⟨X.toArray⟩ _ (by rw [toArr_size]; omega)).mono ?_
      rintro e w1 ⟨T, rfl, hTl, rfl⟩
      have HTl := Lib.hid hTl
      have hTs : T.size ≤ 1000000000 := by
        have := bareL_len X
        have e := congrArg List.length hTl
        rw [len_toList] at e
        simp at e
        omega
      clear hTl
      go_wp2_with fail
      with_reducible refine (HOp.out T _ hTs).mono ?_
      rintro e w2 ⟨rfl, hb2⟩
      have HB2 := Lib.hid hb2
      clear hb2
      go_wp2_with fail
      go_ret2
      exact ⟨by rw [hT.out, HTl.out]; rfl, HB2.out⟩
    | none =>
      have HT2 : Hid (toldL ps L = if (pieceL ps L 0).isSome then some (pcsL ps L (n + 1) 0) else none) := by unfold Hid; rw [HT1.out, getV_off h2]
      with_reducible refine (HFm.out Ns w HV.out (by rw [HSl.out]; exact h2)).mono ?_
      rintro e w1 ⟨rfl, rfl⟩
      clear h2 HT1
      go_wp2_with fail
      go_loopg [7, 8] (n + 1) (fun g v7 v8 wr => ∃ (k : Nat) (O : ByteArray), g = n + 1 - k ∧ k ≤ n ∧ v8 = .int .i64 (k : Int) ∧ v7 = .string O ∧ O.size ≤ k * 1000000 ∧ Hid (Below w.heap.size w wr) ∧ Hid (∀ q, q < k → (pieceL ps L q).isSome = true) ∧
        Hid (pcsL ps L (n + 1) 0 = O.data.toList ++ pcsL ps L (n + 1 - k) k))
      case atStart => exact ⟨0, ⟨#[]⟩, by omega, by omega, rfl, rfl, by decide, Below.refl _ _, fun k hk => by omega, rfl⟩
      case round =>
        obtain ⟨k, O, rfl, hk, rfl, rfl, hO, HB, HAll, HS⟩ := hrel
        have hkn : (k : Int) ≤ (n : Int) := by omega
        obtain ⟨D, hD⟩ : ∃ D : ByteArray, D = ⟨(Lib.itoa (k : Int)).toArray⟩ := ⟨_, rfl⟩
        have hDl : D.data.toList = Lib.decDigits k := by rw [hD]; show Lib.itoa (k : Int) = _; rw [Lib.itoa_nonneg]
        have hDs : D.size ≤ 20 := by rw [← len_toList, hDl, Lib.decDigits_length]; exact Lib.nDigits_le20 _ (by omega)
        obtain ⟨A, hA⟩ : ∃ A : ByteArray, A = Ns ++ D := ⟨_, rfl⟩
        have hAl : A.data.toList = L ++ [42] ++ Lib.decDigits k := by rw [hA, cat_toList, HSl.out, hDl]
        have hAs : A.size ≤ 1000200 := by rw [hA, ByteArray.size_append]; omega
        obtain ⟨A2, hA2⟩ : ∃ A2 : ByteArray, A2 = A ++ ⟨#[42]⟩ := ⟨_, rfl⟩
        have hA2l : A2.data.toList = L ++ [42] ++ Lib.decDigits k ++ [42] := by rw [hA2, cat_toList, hAl]
        have HDi1 := Lib.hid (fun W => HDi.out k W (by omega))
        rw [← hD] at HDi1
        have HA : Hid (Bs ++ ⟨#[42]⟩ ++ D = A) := by unfold Hid; rw [HN2.out, hA]
        have HA2 : Hid (A ++ ⟨#[42]⟩ = A2) := hA2.symm
        have HAl := Lib.hid hAl
        have HA2l := Lib.hid hA2l
        clear hA hA2 hAl hA2l hDl hD
        have hcat : (Bs ++ ⟨#[42]⟩ : ByteArray).size ≤ 1000100 := by rw [HN2.out]; exact hSs
        go_wp2_with fail
        with_reducible refine (HDi1.out _).mono ?_
        rintro e w1 ⟨rfl, q, rfl⟩
        have HB1 : Hid (Below w.heap.size w (wr.drewN q)) := below_drewN HB.out q
        generalize wr.drewN q = w1 at HB1 ⊢
        have HV1 := Lib.hid (prmAt.below HV.out HB1.out)
        go_wp2_with fail
        rw [HA.out]
        cases h1 : idx ps (L ++ [42] ++ Lib.decDigits k) with
        | some i =>
          have hi : i < ps.length := idx_lt h1
          have hin : (i : Int) < (n : Int) := by rw [HN.out]; omega
          have hi0 : (0 : Int) ≤ (i : Int) := by omega
          have hi0' : ¬ (i : Int) < 0 := by omega
          have hpc : pieceL ps L k = some (ps[i]).2 := by unfold pieceL; rw [getV_at h1 hi]
          have hsm := pieceL_small hps hpc
          obtain ⟨g, rfl, d⟩ := prmAt.val HV1.out hi
          with_reducible refine (HFh.out A i w1 HV1.out (by rw [HAl.out]; exact h1)).mono ?_
          rintro e w2 ⟨rfl, rfl⟩
          have HF2 := Lib.hid (HFa.out A2 w1 HV1.out)
          obtain ⟨z, hz⟩ : ∃ z, z = findV (idx ps A2.data.toList) := ⟨_, rfl⟩
          rw [← hz] at HF2
          obtain ⟨X, hX⟩ : ∃ X, X = (ps[i]).2 := ⟨_, rfl⟩
          rw [← hX] at d hpc hsm
          have HPc := Lib.hid hpc
          have hXs : (⟨X.toArray⟩ : ByteArray).size ≤ 1000000 := by rw [toArr_size]; exact hsm
          clear h1 hX hi hz hpc
          go_wp2_with fail
          rw [HA2.out]
          with_reducible refine HF2.out.mono ?_
          rintro e w2 ⟨rfl, rfl⟩
          have hk1 : k + 1 ≤ n := by
            rw [HN.out]
            exact pieces_few ps L (k + 1) (fun q hq => by
              by_cases e : q = k
              · rw [e, HPc.out]; rfl
              · exact HAll.out q (by omega))
          have HAll' : Hid (∀ q, q < k + 1 → (pieceL ps L q).isSome = true) := fun q hq => by
            by_cases e : q = k
            · rw [e, HPc.out]; rfl
            · exact HAll.out q (by omega)
          have HSx : Hid (pcsL ps L (n + 1 - k) k = X ++ pcsL ps L (n + 1 - (k + 1)) (k + 1)) := by
            unfold Hid
            rw [show n + 1 - k = (n + 1 - (k + 1)) + 1 by omega, pcsL_step HPc.out]
          go_wp2_with fail
          go_roundg (n + 1 - (k + 1))
          case measure => omega
          case rel =>
            refine ⟨k + 1, O ++ ⟨X.toArray⟩, rfl, hk1, by go_num, rfl, by rw [ByteArray.size_append]; omega, HB1.out, HAll'.out, ?_⟩
            unfold Hid
            rw [HS.out, HSx.out, cat_toList, List.append_assoc]
        | none =>
          with_reducible refine (HFm.out A w1 HV1.out (by rw [HAl.out]; exact h1)).mono ?_
          rintro e w2 ⟨rfl, rfl⟩
          go_wp2_with fail
          rw [HA2.out]
          cases h2 : idx ps (L ++ [42] ++ Lib.decDigits k ++ [42]) with
          | some i =>
            have hi : i < ps.length := idx_lt h2
            have hin : (i : Int) < (n : Int) := by rw [HN.out]; omega
            have hi0 : (0 : Int) ≤ (i : Int) := by omega
            have hi0' : ¬ (i : Int) < 0 := by omega
            have hg2 := getV_at h2 hi
            have hvs := getV_small hps hg2
            have hpc : pieceL ps L k = some (opn (if k = 0 then bareL (ps[i]).2 else (ps[i]).2)) := by unfold pieceL; rw [getV_off h1, hg2]; rfl
            have hsm := pieceL_small hps hpc
            obtain ⟨g, rfl, d⟩ := prmAt.val HV1.out hi
            with_reducible refine (HFh.out A2 i w1 HV1.out (by rw [HA2l.out]; exact h2)).mono ?_
            rintro e w2 ⟨rfl, rfl⟩
            obtain ⟨V, hV⟩ : ∃ V, V = (ps[i]).2 := ⟨_, rfl⟩
            rw [← hV] at d hpc hsm hvs
            have hVs : (⟨V.toArray⟩ : ByteArray).size ≤ 1000000000 := by rw [toArr_size]; omega
            by_cases h0 : k = 0
            · have b0 : ((k : Int) == 0) = true := beq_yes (by omega)
              rw [if_pos h0] at hpc hsm
              obtain ⟨X, hX⟩ : ∃ X, X = opn (bareL V) := ⟨_, rfl⟩
              rw [← hX] at hpc hsm
              have HPc := Lib.hid hpc
              have HX := Lib.hid hX
              have hXs : (⟨X.toArray⟩ : ByteArray).size ≤ 1000000 := by rw [toArr_size]; exact hsm
              have hbl := bareL_len V
              clear h1 h2 hX hi hpc hg2 hV
              have hk1 : k + 1 ≤ n := by
                rw [HN.out]
                exact pieces_few ps L (k + 1) (fun q hq => by
                  by_cases e : q = k
                  · rw [e, HPc.out]; rfl
                  · exact HAll.out q (by omega))
              have HAll' : Hid (∀ q, q < k + 1 → (pieceL ps L q).isSome = true) := fun q hq => by
                by_cases e : q = k
                · rw [e, HPc.out]; rfl
                · exact HAll.out q (by omega)
              have HSx : Hid (pcsL ps L (n + 1 - k) k = X ++ pcsL ps L (n + 1 - (k + 1)) (k + 1)) := by
                unfold Hid
                rw [show n + 1 - k = (n + 1 - (k + 1)) + 1 by omega, pcsL_step HPc.out]
              go_wp2_with fail
              with_reducible refine (HBa.out ⟨V.toArray⟩ _ hVs).mono ?_
              rintro e w3 ⟨T, rfl, hTl, rfl⟩
              have HTl := Lib.hid hTl
              have hTs : T.size ≤ 1000000000 := by
                have e := congrArg List.length hTl
                rw [len_toList] at e
                simp at e
                omega
              clear hTl
              have HOp1 := Lib.hid (HOp.out T w1 hTs)
              rw [HTl.out] at HOp1
              have eX : opn (bareL (⟨V.toArray⟩ : ByteArray).data.toList) = X := HX.out.symm
              rw [eX] at HOp1
              clear eX
              go_wp2_with fail
              with_reducible refine HOp1.out.mono ?_
              rintro e w3 ⟨rfl, hb3⟩
              have HB3 := Lib.hid (HB1.out.trans (hb3.mono HB1.out.size))
              clear hb3
              go_wp2_with fail
              go_roundg (n + 1 - (k + 1))
              case measure => omega
              case rel =>
                refine ⟨k + 1, O ++ ⟨X.toArray⟩, rfl, hk1, by go_num, rfl, by rw [ByteArray.size_append]; omega, HB3.out, HAll'.out, ?_⟩
                unfold Hid
                rw [HS.out, HSx.out, cat_toList, List.append_assoc]
            · have b0 : ((k : Int) == 0) = false := beq_no (by omega)
              rw [if_neg h0] at hpc hsm
              obtain ⟨X, hX⟩ : ∃ X, X = opn V := ⟨_, rfl⟩
              rw [← hX] at hpc hsm
              have HPc := Lib.hid hpc
              have hXs : (⟨X.toArray⟩ : ByteArray).size ≤ 1000000 := by rw [toArr_size]; exact hsm
              have HOp1 := Lib.hid (HOp.out ⟨V.toArray⟩ w1 hVs)
              have eX : opn (⟨V.toArray⟩ : ByteArray).data.toList = X := hX.symm
              rw [eX] at HOp1
              clear h1 h2 hX hi hpc hg2 hV eX
              have hk1 : k + 1 ≤ n := by
                rw [HN.out]
                exact pieces_few ps L (k + 1) (fun q hq => by
                  by_cases e : q = k
                  · rw [e, HPc.out]; rfl
                  · exact HAll.out q (by omega))
              have HAll' : Hid (∀ q, q < k + 1 → (pieceL ps L q).isSome = true) := fun q hq => by
                by_cases e : q = k
                · rw [e, HPc.out]; rfl
                · exact HAll.out q (by omega)
              have HSx : Hid (pcsL ps L (n + 1 - k) k = X ++ pcsL ps L (n + 1 - (k + 1)) (k + 1)) := by
                unfold Hid
                rw [show n + 1 - k = (n + 1 - (k + 1)) + 1 by omega, pcsL_step HPc.out]
              go_wp2_with fail
              with_reducible refine HOp1.out.mono ?_
              rintro e w3 ⟨rfl, hb3⟩
              have HB3 := Lib.hid (HB1.out.trans (hb3.mono HB1.out.size))
              clear hb3
              go_wp2_with fail
              go_roundg (n + 1 - (k + 1))
              case measure => omega
              case rel =>
                refine ⟨k + 1, O ++ ⟨X.toArray⟩, rfl, hk1, by go_num, rfl, by rw [ByteArray.size_append]; omega, HB3.out, HAll'.out, ?_⟩
                unfold Hid
                rw [HS.out, HSx.out, cat_toList, List.append_assoc]
          | none =>
            have hpc : pieceL ps L k = none := by unfold pieceL; rw [getV_off h1, getV_off h2]; rfl
            have HR : Hid (Ending.returned (.tuple #[.string O, .bool (decide ((0 : Int) < (k : Int)))]) = .returned (getOV (toldL ps L))) := by
              unfold Hid
              rw [HT2.out]
              by_cases h0 : k = 0
              · subst h0
                rw [hpc]
                have e : O.data.toList = [] := by
                  have : O.data.toList.length = 0 := by rw [len_toList]; omega
                  exact List.eq_nil_of_length_eq_zero this
                rw [str_of O e]
                rfl
              · rw [HAll.out 0 (by omega), HS.out, pcsL_end hpc, List.append_nil, decide_eq_true (by omega)]
                rfl
            have HFm2 := Lib.hid (HFm.out A2 w1 HV1.out (by rw [HA2l.out]; exact h2))
            clear h1 h2 hpc
            with_reducible refine HFm2.out.mono ?_
            rintro e w2 ⟨rfl, rfl⟩
            go_wp2_with fail
            go_ret2
            refine ⟨Eq.trans ?_ HR.out, HB1.out⟩
            by_cases h0 : k = 0
            · subst h0; rfl
            · show Ending.returned (.tuple #[.string O, .bool (decide (0 < k))]) = _
              rw [decide_eq_true (by omega), decide_eq_true (by omega)]
end Go.Proofs.YtcnihodikpcfkaaGreatDoor

/- Contracts of the document's layer 7: names with their values. -/
namespace Go.Proofs.YtcnihodikpcfkaaGreatDoor
open Go Go.RowKit

theorem takeL_no0 {c : UInt8} {l : List UInt8} (h : sk l = []) : takeL c l = none := by unfold takeL; rw [h]
theorem takeL_no1 {c x : UInt8} {l r : List UInt8} (h : sk l = x :: r) (hx : x ≠ c) : takeL c l = none := by unfold takeL; rw [h]; exact if_neg hx
theorem takeL_yes {c : UInt8} {l r : List UInt8} (h : sk l = c :: r) : takeL c l = some r := by unfold takeL; rw [h]; exact if_pos rfl
theorem valueL_n {l : List UInt8} (h : sk l = []) : valueL l = none := by unfold valueL; rw [h]
theorem valueL_q {l r : List UInt8} (h : sk l = 34 :: r) : valueL l = unqL false [] r := by unfold valueL; rw [h]; exact if_pos rfl
theorem valueL_t {c : UInt8} {l r : List UInt8} (h : sk l = c :: r) (hc : c ≠ 34) : valueL l = if tokL (sk l) = [] then none else some (tokenL l) := by
  have e : valueL l = (if c = 34 then unqL false [] r else if tokL (sk l) = [] then none else some (tokenL l)) := by
    unfold valueL
    rw [h]
  rw [e, if_neg hc]
theorem parL_no1 {l : List UInt8} (h : takeL 59 l = none) : parL l = none := by unfold parL; rw [h]
theorem parL_no2 {l l1 : List UInt8} (h : takeL 59 l = some l1) (h2 : tokL (sk l1) = []) : parL l = none := by unfold parL; rw [h]; exact if_pos h2
theorem parL_no3 {l l1 : List UInt8} (h : takeL 59 l = some l1) (h2 : ¬ tokL (sk l1) = []) (h3 : takeL 61 (tokenL l1).2 = none) : parL l = none := by
  unfold parL
  rw [h]
  show (if tokL (sk l1) = [] then none else match takeL 61 (tokenL l1).2 with | none => none | some l2 => match valueL l2 with | none => none | some (v, r) => some ((foldS (tokenL l1).1, v), r)) = none
  rw [if_neg h2, h3]
theorem parL_is {l l1 l2 : List UInt8} (h : takeL 59 l = some l1) (h2 : ¬ tokL (sk l1) = []) (h3 : takeL 61 (tokenL l1).2 = some l2) :
    parL l = match valueL l2 with | none => none | some (v, r) => some ((foldS (tokL (sk l1)), v), r) := by
  unfold parL
  rw [h]
  show (if tokL (sk l1) = [] then none else match takeL 61 (tokenL l1).2 with | none => none | some l2 => match valueL l2 with | none => none | some (v, r) => some ((foldS (tokenL l1).1, v), r)) = _
  rw [if_neg h2, h3]
  rfl
theorem front (T : ByteArray) : T.data.toList = [] ∨ ∃ h : 0 < T.size, T.data.toList = T[0] :: (T.extract 1 T.size).data.toList := by
  by_cases h : 0 < T.size
  · exact .inr ⟨h, by rw [behind_toList]; exact drop_cons T 0 h⟩
  · exact .inl (List.eq_nil_of_length_eq_zero (by rw [len_toList]; omega))
theorem lst_eq0 {b : ByteArray} (h : b.data.toList = []) : (b.toList == []) = true := by
  rw [ByteArray.toList_eq, h]
  rfl
theorem lst_bne0 {b : ByteArray} (h : b.data.toList = []) : (b.toList != []) = false := by
  rw [ByteArray.toList_eq, h]
  rfl
theorem lst_bne1 {b : ByteArray} (h : ¬ b.data.toList = []) : (b.toList != []) = true := by
  rw [ByteArray.toList_eq]
  simpa using h
theorem size0 {b : ByteArray} (h : b.data.toList = []) : b.size = 0 := by rw [← len_toList, h]; rfl
theorem ne0_of {b : ByteArray} (h : 0 < b.size) : ¬ b.data.toList = [] := fun e => by rw [size0 e] at h; exact absurd h (by decide)
theorem Tryz.infoP : (Tryz.prog.info? 56).map (fun i => (i.zero, i.size, i.bytes)) = some (some (.agg #[.string ⟨#[]⟩, .string ⟨#[]⟩]), 2, 32) := by kernel_rfl

set_option maxRecDepth 100000 in
set_option maxHeartbeats 8000000 in
theorem refPairs_any (s : ByteArray) (w : World) (hl : s.size ≤ 1000000) :
    Calls Tryz.prog 23 #[.string s] w fun e w' => ∃ v, e = .returned v ∧ w'.ownsRow w.heap.size 56 2 v (parsL s.size s.data.toList).length (prmCells (parsL s.size s.data.toList)) ∧
      (parsL s.size s.data.toList).length ≤ s.size ∧ Below w.heap.size w w' := by
  obtain ⟨i0, hi, hz⟩ := Option.map_eq_some_iff.1 Tryz.infoP
  simp only [Prod.mk.injEq] at hz
  obtain ⟨hz0, hz1, hz2⟩ := hz
  have HSk := Lib.hid (fun T W h => refSkip_any T W h)
  have HTk := Lib.hid (fun T W h => refTok_any T W h)
  have HQ := Lib.hid (fun T W h h1 => refQuoted_any T W h h1)
  have HFo := Lib.hid (fun T W h => refFold_any T W h)
  go_enter Tryz.func23, Tryz.ntmps23
  go_wp2_with fail
  go_loopg [0, 3] (s.size + 1) (fun g v0 v3 wr => ∃ (T : ByteArray) (acc : List Prm), g = T.size + 1 ∧ v0 = .string T ∧ acc.length + T.size ≤ s.size ∧ wr.ownsRow w.heap.size 56 2 v3 acc.length (prmCells acc) ∧ Hid (Below w.heap.size w wr) ∧
    Hid (parsL s.size s.data.toList = acc ++ parsL s.size T.data.toList))
  case atStart => exact ⟨s, [], rfl, rfl, by simp, World.ownsRow_nil _ _ _ _, Below.refl _ _, rfl⟩
  case round =>
    obtain ⟨T, acc, rfl, rfl, hT, hown, HB, HS⟩ := hrel
    have HO := Lib.hid hown
    clear hown
    have HSz : Hid (parL T.data.toList = none → parsL s.size s.data.toList = acc) := fun h => by rw [HS.out, parsL_end h, List.append_nil]
    go_wp2_with fail
    with_reducible refine (HSk.out T wr (by omega)).mono ?_
    rintro e w1 ⟨T1, rfl, hT1, hT1s, rfl⟩
    rcases front T1 with h0 | ⟨h0, h0'⟩
    · have e1 := lst_eq0 h0
      have HN : Hid (parL T.data.toList = none) := parL_no1 (takeL_no0 (by rw [← hT1]; exact h0))
      clear h0 hT1

      go_wp2_with fail
      go_ret
      have HE := HSz.out HN.out
      refine ⟨_, rfl, ?_, by rw [HE]; omega, HB.out⟩
      rw [HE]
      exact HO.out
      
    have e1 := lst_ne0 (ne0_of h0)
    obtain ⟨c, hc⟩ : ∃ c, c = T1[0] := ⟨_, rfl⟩
    rw [← hc] at h0'
    have hc' := hc.symm
    have hct := c.toNat_lt
    by_cases h59 : c = 59
    case neg =>
      have b1 : ((c.toNat : Int) != 59) = true := bne_yes fun e => h59 (toNat_eq (by show c.toNat = 59; omega))
      have HN : Hid (parL T.data.toList = none) := parL_no1 (takeL_no1 (by rw [← hT1]; exact h0') h59)
      clear h0' hT1 hc h59

      go_wp2_with fail
      go_ret
      have HE := HSz.out HN.out
      refine ⟨_, rfl, ?_, by rw [HE]; omega, HB.out⟩
      rw [HE]
      exact HO.out
      
    subst h59
    have b1 : (((59 : UInt8).toNat : Int) != 59) = false := by decide
    obtain ⟨U, hU⟩ : ∃ U, U = T1.extract 1 T1.size := ⟨_, rfl⟩
    have HU : Hid (T1.extract 1 T1.size = U) := hU.symm
    have hUs : U.size + 1 = T1.size := by rw [hU, extract_size' T1 _ _ (Nat.le_refl _)]; omega
    rw [← hU] at h0'
    have HT59 : Hid (takeL 59 T.data.toList = some U.data.toList) := takeL_yes (by rw [← hT1]; exact h0')
    clear h0' hT1 hc hU
    go_wp2_with fail
    rw [HU.out]
    with_reducible refine (HSk.out U _ (by omega)).mono ?_
    rintro e w1 ⟨U1, rfl, hU1, hU1s, rfl⟩
    go_wp2_with fail
    with_reducible refine (HTk.out U1 _ (by omega)).mono ?_
    rintro e w2 ⟨Nm, R, rfl, hNm, hR, hb2⟩
    have HB2 := Lib.hid (HB.out.trans (hb2.mono HB.out.size))
    have HO2 := Lib.hid (ownsRow_below HO.out hb2)
    have hRs : R.size ≤ U1.size := by
      have := congrArg List.length hR
      rw [len_toList, List.length_drop, len_toList] at this
      omega
    have hNs : Nm.size ≤ 1000000 := by
      have := congrArg List.length hNm
      have h2 := List.takeWhile_sublist tokB (l := U1.data.toList)
      have h3 := h2.length_le
      rw [len_toList] at this
      unfold tokL at this
      rw [len_toList] at h3
      omega
    rw [hU1] at hNm hR
    have HR : Hid (R.data.toList = (tokenL U.data.toList).2) := hR
    have HNm := Lib.hid hNm
    clear hb2 hNm hR hU1
    go_wp2_with fail
    with_reducible refine (HSk.out R _ (by omega)).mono ?_
    rintro e w3 ⟨R1, rfl, hR1, hR1s, rfl⟩
    rw [HR.out] at hR1
    rcases front Nm with n0 | ⟨n0, hn0⟩
    · have e2 := lst_eq0 n0
      have HN : Hid (parL T.data.toList = none) := parL_no2 HT59.out (by rw [← HNm.out]; exact n0)
      clear n0 hR1

      go_wp2_with fail
      go_ret
      have HE := HSz.out HN.out
      refine ⟨_, rfl, ?_, by rw [HE]; omega, HB2.out⟩
      rw [HE]
      exact HO2.out
      
    have e2 := lst_ne0 (ne0_of n0)
    have HNe : Hid (¬ tokL (sk U.data.toList) = []) := by unfold Hid; rw [← HNm.out]; exact ne0_of n0
    clear n0 hn0
    rcases front R1 with r0 | ⟨r0, r0'⟩
    · have e3 := lst_eq0 r0
      have HN : Hid (parL T.data.toList = none) := parL_no3 HT59.out HNe.out (takeL_no0 (by rw [← hR1]; exact r0))
      clear r0 hR1

      go_wp2_with fail
      go_ret
      have HE := HSz.out HN.out
      refine ⟨_, rfl, ?_, by rw [HE]; omega, HB2.out⟩
      rw [HE]
      exact HO2.out
      
    have e3 := lst_ne0 (ne0_of r0)
    obtain ⟨d, hd⟩ : ∃ d, d = R1[0] := ⟨_, rfl⟩
    rw [← hd] at r0'
    have hd' := hd.symm
    have hdt := d.toNat_lt
    by_cases h61 : d = 61
    case neg =>
      have b2 : ((d.toNat : Int) != 61) = true := bne_yes fun e => h61 (toNat_eq (by show d.toNat = 61; omega))
      have HN : Hid (parL T.data.toList = none) := parL_no3 HT59.out HNe.out (takeL_no1 (by rw [← hR1]; exact r0') h61)
      clear r0' hR1 hd h61

      go_wp2_with fail
      go_ret
      have HE := HSz.out HN.out
      refine ⟨_, rfl, ?_, by rw [HE]; omega, HB2.out⟩
      rw [HE]
      exact HO2.out
      
    subst h61
    have b2 : (((61 : UInt8).toNat : Int) != 61) = false := by decide
    obtain ⟨V, hV⟩ : ∃ V, V = R1.extract 1 R1.size := ⟨_, rfl⟩
    have HV : Hid (R1.extract 1 R1.size = V) := hV.symm
    have hVs : V.size + 1 = R1.size := by rw [hV, extract_size' R1 _ _ (Nat.le_refl _)]; omega
    rw [← hV] at r0'
    have HIs : Hid (parL T.data.toList = match valueL V.data.toList with | none => none | some (v, r) => some ((foldS (tokL (sk U.data.toList)), v), r)) := parL_is HT59.out HNe.out (takeL_yes (by rw [← hR1]; exact r0'))
    rw [← HNm.out] at HIs
    clear r0' hR1 hd hV
    go_wp2_with fail
    rw [HV.out]
    with_reducible refine (HSk.out V _ (by omega)).mono ?_
    rintro e w3 ⟨V1, rfl, hV1, hV1s, rfl⟩
    have hV1s' : V1.size < T.size := by omega
    have HFo1 := Lib.hid (fun W => HFo.out Nm W (by omega))
    rcases front V1 with v0 | ⟨v0, v0'⟩
    · have e4 := lst_bne0 v0
      have e4b := lst_eq0 v0
      have HN : Hid (parL T.data.toList = none) := by unfold Hid; rw [HIs.out, valueL_n (by rw [← hV1]; exact v0)]
      go_wp2_with fail
      with_reducible refine (HTk.out V1 _ (by omega)).mono ?_
      rintro e w4 ⟨X, Z, rfl, hX, hZ, hb4⟩
      have HB4 := Lib.hid (HB2.out.trans (hb4.mono HB2.out.size))
      have HO4 := Lib.hid (ownsRow_below HO2.out hb4)
      have e5 : (X.toList == []) = true := lst_eq0 (by rw [hX, v0]; rfl)
      clear hb4 hX hZ v0 hV1

      go_wp2_with fail
      go_ret
      have HE := HSz.out HN.out
      refine ⟨_, rfl, ?_, by rw [HE]; omega, HB4.out⟩
      rw [HE]
      exact HO4.out
      
    have e4 := lst_bne1 (ne0_of v0)
    have e4b := lst_ne0 (ne0_of v0)
    obtain ⟨q, hq⟩ : ∃ q, q = V1[0] := ⟨_, rfl⟩
    rw [← hq] at v0'
    have hq' := hq.symm
    have hqt := q.toNat_lt
    by_cases h34 : q = 34
    · subst h34
      have b3 : (((34 : UInt8).toNat : Int) == 34) = true := by decide
      have HVq : Hid (valueL V.data.toList = unqL false [] (V1.data.toList.drop 1)) := by
        unfold Hid
        rw [v0', List.drop_succ_cons, List.drop_zero]
        exact valueL_q (by rw [← hV1]; exact v0')
      clear v0' hV1 hq
      go_wp2_with fail
      with_reducible refine (HQ.out V1 _ (by omega) (by omega)).mono ?_
      rintro e w4 ⟨X, Z, b, rfl, hu, hZs0, hb4⟩
      have HB4 := Lib.hid (HB2.out.trans (hb4.mono HB2.out.size))
      have HO4 := Lib.hid (ownsRow_below HO2.out hb4)
      rw [hu] at HVq
      clear hb4 hu
      cases b with
      | false =>
        have HN : Hid (parL T.data.toList = none) := by unfold Hid; rw [HIs.out, HVq.out]; rfl

        go_wp2_with fail
        go_ret
        have HE := HSz.out HN.out
        refine ⟨_, rfl, ?_, by rw [HE]; omega, HB4.out⟩
        rw [HE]
        exact HO4.out
        
      | true =>
        have HVl : Hid (valueL V.data.toList = some (X.data.toList, Z.data.toList)) := HVq.out
        clear HVq

        have HP := Lib.hid (show parL T.data.toList = some ((foldS Nm.data.toList, X.data.toList), Z.data.toList) from by rw [HIs.out, HVl.out])
        have HEq : Hid (parsL s.size T.data.toList = (foldS Nm.data.toList, X.data.toList) :: parsL s.size Z.data.toList) := parsL_step HP.out (by rw [len_toList]; omega)
        have hZs : Z.size < T.size := by
          have := parL_len HP.out
          rw [len_toList, len_toList] at this
          exact this
        clear HIs HVl HP
        go_wp2_with fail
        with_reducible refine (HFo1.out _).mono ?_
        rintro e w5 ⟨rfl, hb5⟩
        have HB5 := Lib.hid (HB4.out.trans (hb5.mono HB4.out.size))
        have HO5 := Lib.hid (ownsRow_below HO4.out hb5)
        have hsz5 := HB5.out.size
        have HC5 := Lib.hid (cells_two_new w5 56 (.string ⟨(foldS Nm.data.toList).toArray⟩) (.string X))
        clear hb5
        go_wp2_with (at_builtin; refine wpList_append_own _ rfl _ _ 28 rfl w.heap.size 56 i0 (.agg #[.string ⟨#[]⟩, .string ⟨#[]⟩]) 2 32 Tryz.underlying28 hi hz0 hz1 hz2 rfl (by decide) _ acc.length (prmCells acc) rfl (HO5.out.alloc _) ⟨w5.heap.size, 0, none⟩ 1 1 [.string ⟨(foldS Nm.data.toList).toArray⟩, .string X] rfl rfl HC5.out (by simp [Value.oneCell']) (by unfold maxLen; omega) (by omega) (by simp; omega) ?_; intro v6 w6 hown6 hgrow6 _)
        have HB6 := Lib.hid ((HB5.out.alloc HB5.out.size (.cells #[.string ⟨(foldS Nm.data.toList).toArray⟩, .string X] 56)).grown hgrow6 (by simp; omega) (fun q hq => (HO5.out.lt q hq).1))
        have HO6 := Lib.hid hown6
        clear hgrow6 hown6
        go_roundg (Z.size + 1)
        case measure => omega
        case rel =>
          refine ⟨Z, acc ++ [(foldS Nm.data.toList, X.data.toList)], rfl, rfl, by simp; omega, own_cast2 HO6.out (by simp) (by rw [prmCells_app, prmCells_one]), HB6.out, ?_⟩
          unfold Hid
          rw [HS.out, HEq.out, List.append_assoc]
          rfl
        
    · have b3 : ((q.toNat : Int) == 34) = false := beq_no fun e => h34 (toNat_eq (by show q.toNat = 34; omega))
      have HVt : Hid (valueL V.data.toList = if tokL (sk V.data.toList) = [] then none else some (tokenL V.data.toList)) := valueL_t (by rw [← hV1]; exact v0') h34
      clear v0' hq h34
      go_wp2_with fail
      with_reducible refine (HTk.out V1 _ (by omega)).mono ?_
      rintro e w4 ⟨X, Z, rfl, hX, hZ, hb4⟩
      have HB4 := Lib.hid (HB2.out.trans (hb4.mono HB2.out.size))
      have HO4 := Lib.hid (ownsRow_below HO2.out hb4)
      rw [hV1] at hX hZ
      rcases front X with x0 | ⟨x0, hx0⟩
      · have e5 := lst_eq0 x0
        have HN : Hid (parL T.data.toList = none) := by unfold Hid; rw [HIs.out, HVt.out, if_pos (by rw [← hX]; exact x0)]
        clear hb4 hX hZ hV1 x0

        go_wp2_with fail
        go_ret
        have HE := HSz.out HN.out
        refine ⟨_, rfl, ?_, by rw [HE]; omega, HB4.out⟩
        rw [HE]
        exact HO4.out
        
      · have e5 := lst_ne0 (ne0_of x0)
        have HVl : Hid (valueL V.data.toList = some (X.data.toList, Z.data.toList)) := by unfold Hid; rw [HVt.out, if_neg (by rw [← hX]; exact ne0_of x0), hX, hZ]; rfl
        clear hb4 hX hZ hV1 x0 hx0 HVt

        have HP := Lib.hid (show parL T.data.toList = some ((foldS Nm.data.toList, X.data.toList), Z.data.toList) from by rw [HIs.out, HVl.out])
        have HEq : Hid (parsL s.size T.data.toList = (foldS Nm.data.toList, X.data.toList) :: parsL s.size Z.data.toList) := parsL_step HP.out (by rw [len_toList]; omega)
        have hZs : Z.size < T.size := by
          have := parL_len HP.out
          rw [len_toList, len_toList] at this
          exact this
        clear HIs HVl HP
        go_wp2_with fail
        with_reducible refine (HFo1.out _).mono ?_
        rintro e w5 ⟨rfl, hb5⟩
        have HB5 := Lib.hid (HB4.out.trans (hb5.mono HB4.out.size))
        have HO5 := Lib.hid (ownsRow_below HO4.out hb5)
        have hsz5 := HB5.out.size
        have HC5 := Lib.hid (cells_two_new w5 56 (.string ⟨(foldS Nm.data.toList).toArray⟩) (.string X))
        clear hb5
        go_wp2_with (at_builtin; refine wpList_append_own _ rfl _ _ 28 rfl w.heap.size 56 i0 (.agg #[.string ⟨#[]⟩, .string ⟨#[]⟩]) 2 32 Tryz.underlying28 hi hz0 hz1 hz2 rfl (by decide) _ acc.length (prmCells acc) rfl (HO5.out.alloc _) ⟨w5.heap.size, 0, none⟩ 1 1 [.string ⟨(foldS Nm.data.toList).toArray⟩, .string X] rfl rfl HC5.out (by simp [Value.oneCell']) (by unfold maxLen; omega) (by omega) (by simp; omega) ?_; intro v6 w6 hown6 hgrow6 _)
        have HB6 := Lib.hid ((HB5.out.alloc HB5.out.size (.cells #[.string ⟨(foldS Nm.data.toList).toArray⟩, .string X] 56)).grown hgrow6 (by simp; omega) (fun q hq => (HO5.out.lt q hq).1))
        have HO6 := Lib.hid hown6
        clear hgrow6 hown6
        go_roundg (Z.size + 1)
        case measure => omega
        case rel =>
          refine ⟨Z, acc ++ [(foldS Nm.data.toList, X.data.toList)], rfl, rfl, by simp; omega, own_cast2 HO6.out (by simp) (by rw [prmCells_app, prmCells_one]), HB6.out, ?_⟩
          unfold Hid
          rw [HS.out, HEq.out, List.append_assoc]
          rfl
        
end Go.Proofs.YtcnihodikpcfkaaGreatDoor
