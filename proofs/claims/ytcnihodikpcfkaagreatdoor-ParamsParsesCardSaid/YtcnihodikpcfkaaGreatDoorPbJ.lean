/- Contracts of the document's layer 7: Parse. -/
import Derived.Test.YtcnihodikpcfkaaGreatDoorPbI
namespace Go.Proofs.YtcnihodikpcfkaaGreatDoor
open Go Go.RowKit

theorem prmAt_ownedP {w : World} {base : Nat} {v : Value} {ps : List Prm} (h : w.ownsRow base 56 2 v ps.length (prmCells ps)) : prmAt w v ps := by
  rcases h.2 with ⟨rfl, h0⟩ | ⟨g, cap, cur, rfl, hbg, hh, hc, hm, hs, ht⟩
  · obtain rfl : ps = [] := List.eq_nil_of_length_eq_zero h0
    exact ⟨none, 0, rfl, Nat.le_refl _, Nat.zero_le _, .inl rfl⟩
  · refine ⟨_, cap, rfl, hc, hm, .inr ⟨g, rfl, (Array.getElem?_eq_some_iff.1 hh).1, fun i hi => ?_⟩⟩
    obtain ⟨c0, c1⟩ := prmCells_at ps i hi
    rw [← ht] at c0 c1
    rw [List.getElem?_take, if_pos (by omega)] at c0 c1
    simp only [World.cell?, hh]
    exact ⟨by simpa using c0, by simpa using c1⟩
theorem prmAt.nam {W : World} {ao : Option Addr} {n cap : Nat} {ps : List Prm} (h : prmAt W (.slice ao n cap) ps) {i : Nat} (hi : i < ps.length) :
    ∃ g, ao = some ⟨g, 0, none⟩ ∧ W.cell? ⟨g, i * 2, none⟩ = some (.string ⟨(ps[i]).1.toArray⟩) := by
  obtain ⟨ao', cap', e, _, _, hc⟩ := h
  cases e
  rcases hc with h0 | ⟨g, e, _, hcc⟩
  · rw [h0] at hi
    simp at hi
  · exact ⟨g, e, (hcc i hi).1⟩
def vBox (A S : List UInt8) (u : Value) : Obj := .cells #[.string ⟨A.toArray⟩, .string ⟨S.toArray⟩, u] 30 (0, 0)
theorem vBox_c2 {W : World} {B : Nat} {A S : List UInt8} {u : Value} (h : W.heap[B]? = some (vBox A S u)) : W.cell? ⟨B, 2, none⟩ = some u ∧ W.frozen? ⟨B, 2, none⟩ = false := by
  unfold vBox at h
  simp [World.cell?, World.frozen?, h]
theorem vBox_c1 {W : World} {B : Nat} {A S : List UInt8} {u : Value} (h : W.heap[B]? = some (vBox A S u)) : W.cell? ⟨B, 1, none⟩ = some (.string ⟨S.toArray⟩) ∧ W.frozen? ⟨B, 1, none⟩ = false := by
  unfold vBox at h
  simp [World.cell?, World.frozen?, h]
theorem vBox_set2 {W : World} {B : Nat} {A S : List UInt8} {u : Value} (h : W.heap[B]? = some (vBox A S u)) (v : Value) : (W.setCell ⟨B, 2, none⟩ v).heap[B]? = some (vBox A S v) := by
  unfold vBox at h ⊢
  simp [World.setCell, Array.getElem?_modify, h]
theorem vBox_set1 {W : World} {B : Nat} {A S : List UInt8} {u : Value} (h : W.heap[B]? = some (vBox A S u)) (T : List UInt8) : (W.setCell ⟨B, 1, none⟩ (.string ⟨T.toArray⟩)).heap[B]? = some (vBox A T u) := by
  unfold vBox at h ⊢
  simp [World.setCell, Array.getElem?_modify, h]
def preB (ps : List Prm) (i : Nat) : List (List UInt8) := ((ps.take i).map (fun p => baseL p.1)).reverse
theorem preB_succ (ps : List Prm) (i : Nat) (h : i < ps.length) : preB ps (i + 1) = baseL (ps[i]).1 :: preB ps i := by
  unfold preB
  rw [List.take_succ_eq_append_getElem h, List.map_append, List.reverse_append]
  rfl
theorem joinA_past {qs : List Prm} {ps : List Prm} {i : Nat} (h : i < ps.length) (hs : baseL (ps[i]).1 = [] ∨ baseL (ps[i]).1 ∈ preB ps i) : joinA qs (preB ps i) (ps.drop i) = joinA qs (preB ps (i + 1)) (ps.drop (i + 1)) := by
  rw [preB_succ ps i h, List.drop_eq_getElem_cons h]
  show (if _ then _ else _) = _
  rw [if_pos hs]
theorem joinA_nothing {qs : List Prm} {ps : List Prm} {i : Nat} (h : i < ps.length) (hs : toldL qs (baseL (ps[i]).1) = none) : joinA qs (preB ps i) (ps.drop i) = joinA qs (preB ps (i + 1)) (ps.drop (i + 1)) := by
  rw [preB_succ ps i h, List.drop_eq_getElem_cons h]
  show (if _ then _ else match toldL qs (baseL (ps[i]).1) with | some v => _ | none => _) = _
  rw [hs]
  exact ite_self _
theorem joinA_value {qs : List Prm} {ps : List Prm} {i : Nat} {v : List UInt8} (h : i < ps.length) (h1 : ¬ baseL (ps[i]).1 = []) (h2 : ¬ baseL (ps[i]).1 ∈ preB ps i) (hs : toldL qs (baseL (ps[i]).1) = some v) :
    joinA qs (preB ps i) (ps.drop i) = (baseL (ps[i]).1, v) :: joinA qs (preB ps (i + 1)) (ps.drop (i + 1)) := by
  rw [preB_succ ps i h, List.drop_eq_getElem_cons h]
  show (if _ then _ else match toldL qs (baseL (ps[i]).1) with | some v => _ | none => _) = _
  rw [if_neg (fun e => e.elim h1 h2), hs]
theorem preB_mem {ps : List Prm} {i : Nat} {b : List UInt8} : b ∈ preB ps i ↔ b ∈ (ps.take i).map (fun p => baseL p.1) := by unfold preB; rw [List.mem_reverse]

def refParsePost (o : Option Val) (w : World) (e : Ending) (w' : World) : Prop := ∃ t sb u ps b, e = .returned (.tuple #[.agg #[.string ⟨t.toArray⟩, .string ⟨sb.toArray⟩, u], .bool b]) ∧
  w'.ownsRow w.heap.size 56 2 u ps.length (prmCells ps) ∧ Below w.heap.size w w' ∧ valC o b t sb ps

set_option maxRecDepth 100000 in
set_option maxHeartbeats 16000000 in
theorem refParse_false (s : ByteArray) (w : World) (hl : s.size ≤ 100000) :
    Calls Tryz.prog 9 #[.string s, .bool false] w (refParsePost (parseL s.data.toList false) w) := by
  obtain ⟨i0, hi0, hz⟩ := Option.map_eq_some_iff.1 Tryz.infoP
  simp only [Prod.mk.injEq] at hz
  obtain ⟨hz0, hz1, hz2⟩ := hz
  have HSk := Lib.hid (fun T W h => refSkip_any T W h)
  have HTk := Lib.hid (fun T W h => refTok_any T W h)
  have HFo := Lib.hid (fun T W h => refFold_any T W h)
  obtain ⟨W0, hW0⟩ : ∃ W0, W0 = w.alloc (.cells #[.string ⟨#[]⟩, .string ⟨#[]⟩, .slice none 0 0] 30) := ⟨_, rfl⟩
  have HB0 : Hid (Below w.heap.size w W0) := by rw [hW0]; exact (Below.refl _ _).alloc (Nat.le_refl _) _
  have HRow0 : Hid (W0.heap[w.heap.size]? = some (.cells #[.string ⟨#[]⟩, .string ⟨#[]⟩, .slice none 0 0] 30 (0, 0))) := by
    unfold Hid
    rw [hW0]
    exact heap_alloc_new _ _
  have hR0 : w.heap.size < W0.heap.size := (Array.getElem?_eq_some_iff.1 HRow0.out).1
  have HW0 : Hid (W0 = _) := hW0
  clear hW0
  go_enter Tryz.func9, Tryz.ntmps9
  go_wp2_with fail
  rw [← HW0.out]
  with_reducible refine (HSk.out s W0 (by omega)).mono ?_
  rintro e w1 ⟨T1, rfl, hT1, hT1s, rfl⟩
  go_wp2_with fail
  with_reducible refine (HTk.out T1 _ (by omega)).mono ?_
  rintro e w1 ⟨T, R, rfl, hT, hR, hb1⟩
  rw [hT1] at hT hR
  have HT : Hid (T.data.toList = (tokenL s.data.toList).1) := hT
  have HR : Hid (R.data.toList = (tokenL s.data.toList).2) := hR
  have hRs : R.size ≤ s.size := by
    have h1 := tokenL_len s.data.toList
    rw [← HR.out, len_toList, len_toList] at h1
    exact h1
  have hTs : T.size ≤ s.size := by
    have h1 := tokenL_small s.data.toList
    rw [← HT.out, len_toList, len_toList] at h1
    exact h1
  have HB1 := Lib.hid (HB0.out.trans (hb1.mono HB0.out.size))
  have HRow1 := Lib.hid ((hb1.block w.heap.size hR0).trans HRow0.out)
  have hR1 : w.heap.size < w1.heap.size := (Array.getElem?_eq_some_iff.1 HRow1.out).1
  have HFo1 := Lib.hid (fun W => HFo.out T W (by omega))
  clear hb1 hT hR hT1 HRow0 HB0
  go_wp2_with fail
  with_reducible refine (HFo1.out _).mono ?_
  rintro e w2 ⟨rfl, hb2⟩
  have HB2 := Lib.hid (HB1.out.trans (hb2.mono HB1.out.size))
  have HRow2 := Lib.hid ((hb2.block w.heap.size hR1).trans HRow1.out)
  have hR2 : w.heap.size < w2.heap.size := (Array.getElem?_eq_some_iff.1 HRow2.out).1
  clear hb2
  obtain ⟨w3, hw3⟩ : ∃ w3, w3 = w2.alloc (.cells #[.string ⟨(foldS T.data.toList).toArray⟩, .string ⟨#[]⟩, .slice none 0 0] 30) := ⟨_, rfl⟩
  have HW3 : Hid (w2.alloc (.cells #[.string ⟨(foldS T.data.toList).toArray⟩, .string ⟨#[]⟩, .slice none 0 0] 30) = w3) := hw3.symm
  have HB3 : Hid (Below w.heap.size w w3) := by rw [hw3]; exact HB2.out.alloc HB2.out.size _
  have HRow3 : Hid (w3.heap[w.heap.size]? = some (.cells #[.string ⟨#[]⟩, .string ⟨#[]⟩, .slice none 0 0] 30 (0, 0))) := by unfold Hid; rw [hw3, Below.heap_alloc _ _ _ hR2]; exact HRow2.out
  obtain ⟨B7, hB7⟩ : ∃ B7, B7 = w2.heap.size := ⟨_, rfl⟩
  have HV3 : Hid (w3.heap[B7]? = some (vBox (foldS T.data.toList) [] (.slice none 0 0))) := by unfold Hid; rw [hw3, hB7]; exact heap_alloc_new _ _
  have HB7 : Hid (w2.heap.size = B7) := hB7.symm
  have hB7w : w.heap.size < B7 := by omega
  clear hw3 hB7
  rcases front T with t0 | ⟨t0, ht0⟩
  · have e1 := lst_eq0 t0
    have HN : Hid (parseL s.data.toList false = none) := by
      unfold Hid parseL
      rw [if_pos (by rw [← HT.out]; exact t0)]
    clear t0
    have HRowA : Hid ((w2.alloc (.cells #[.string ⟨(foldS T.data.toList).toArray⟩, .string ⟨#[]⟩, .slice none 0 0] 30)).heap[w.heap.size]? = some (.cells #[.string ⟨#[]⟩, .string ⟨#[]⟩, .slice none 0 0] 30 (0, 0))) := by unfold Hid; rw [HW3.out]; exact HRow3.out
    have HBA : Hid (Below w.heap.size w (w2.alloc (.cells #[.string ⟨(foldS T.data.toList).toArray⟩, .string ⟨#[]⟩, .slice none 0 0] 30))) := by unfold Hid; rw [HW3.out]; exact HB3.out
    go_wp2_with (refine wpList_store_row' rfl 30 (.tmp 4) (.tmp 28) rfl w.heap.size #[.string ⟨#[]⟩, .string ⟨#[]⟩, .slice none 0 0] rfl rfl 30 _ HRowA.out (by kernel_rfl) rfl (by kernel_rfl) ?_; intro WE hWE)
    (try simp only [Exit.inBlock, Exit.then])
    have hrow := setRow_heap _ w.heap.size _ #[.string ⟨#[]⟩, .string ⟨#[]⟩, .slice none 0 0] _ _ HRowA.out
    rw [← hWE.out] at hrow
    refine bodyPost_ret (results_row_tmp (P := Tryz.prog) Tryz.results9 _ _ w.heap.size 30 _ (0, 0) _ rfl hrow Tryz.underlying30 rfl rfl) rfl ?_
    refine ⟨[], [], .slice none 0 0, [], false, rfl, World.ownsRow_nil _ _ _ _, by rw [hWE.out]; exact below_setRow HBA.out (Nat.le_refl _) _, ?_⟩
    rw [HN.out]
    exact ⟨rfl, rfl, rfl, rfl⟩

  have e1 := lst_ne0 (ne0_of t0)
  have HTne : Hid (¬ (tokenL s.data.toList).1 = []) := by unfold Hid; rw [← HT.out]; exact ne0_of t0
  clear t0 ht0 HFo1
  have HY : Hid (parseL s.data.toList false = some ⟨foldS T.data.toList, [], joinL (parsL R.data.toList.length R.data.toList)⟩) := by
    unfold Hid parseL
    rw [if_neg HTne.out, HT.out, HR.out]
    rfl
  go_wp2_with fail
  rw [HW3.out, HB7.out]

  have hwaB : B7 < w3.heap.size := (Array.getElem?_eq_some_iff.1 HV3.out).1
  have hwaR : w.heap.size < w3.heap.size := by omega
  have HPs := Lib.hid (refPairs_any R w3 (by omega))
  go_wp2_with fail
  with_reducible refine HPs.out.mono ?_
  rintro e w4 ⟨v, rfl, hown4, hpl4, hb4⟩
  obtain ⟨PS, hPS⟩ : ∃ PS, PS = parsL R.size R.data.toList := ⟨_, rfl⟩
  have hsm : smallP PS := fun p hp => by
    rw [hPS] at hp
    have := parsL_small _ _ p hp
    rw [len_toList] at this
    omega
  have HPS := Lib.hid hPS
  rw [← hPS] at hown4 hpl4
  have HOP := Lib.hid hown4
  have HR4 := Lib.hid ((hb4.block w.heap.size hwaR).trans HRow3.out)
  have HV4 := Lib.hid ((hb4.block B7 hwaB).trans HV3.out)
  have HB4 := Lib.hid (HB3.out.trans (hb4.mono HB3.out.size))
  have hsz4 := hb4.size
  obtain ⟨ao, cap, rfl, hcl, hcm, _⟩ := prmAt_ownedP hown4
  unfold maxLen at hcm
  obtain ⟨n, hn⟩ : ∃ n, n = PS.length := ⟨_, rfl⟩
  have HN := Lib.hid hn
  rw [← hn] at hcl hpl4
  have HOP' : Hid (w4.ownsRow w3.heap.size 56 2 (.slice ao n cap) PS.length (prmCells PS)) := by unfold Hid; rw [hn]; exact HOP.out
  rw [← hn]
  have HBs := Lib.hid (fun T W h => refBase_any T W h)
  have HTd := Lib.hid (fun T W h hb => refTold_any (.slice ao n cap) PS T W h hsm (by omega) hb)
  have HSmN : Hid (∀ p ∈ PS, p.1.length ≤ 1000000) := fun p hp => (hsm p hp).1
  clear hb4 hPS hown4 HOP hn hsm HPs
  go_wp2_with fail
  go_loopg [11] n (fun g v11 wr => ∃ (i : Nat) (out : List Prm) (u : Value), g = n - i ∧ i ≤ n ∧ v11 = .int .i64 (i : Int) ∧ out.length ≤ i ∧ Hid (wr.heap[B7]? = some (vBox (foldS T.data.toList) (([] : List UInt8)) u)) ∧ Hid (wr.ownsRow w4.heap.size 56 2 u out.length (prmCells out)) ∧ Hid (Gr B7 w4 wr) ∧
    Hid (joinL PS = out ++ joinA PS (preB PS i) (PS.drop i)))
  case atStart => exact ⟨0, [], .slice none 0 0, by omega, by omega, rfl, by simp, HV4.out, World.ownsRow_nil _ _ _ _, Gr.refl _ _, rfl⟩
  case round =>
    obtain ⟨i, out, u, rfl, hi, rfl, hol, HVr, HOr, HG, HS⟩ := hrel
    have hszr := HG.out.size
    have HPr : Hid (prmAt wr (.slice ao n cap) PS) := prmAt_ownedP (by have := ownsRow_gr HOP'.out HG.out hwaB; exact this)
    by_cases hlt : i < n
    · have hltP : i < PS.length := by rw [← HN.out]; exact hlt
      have hini : (i : Int) < (n : Int) := by omega
      obtain ⟨g, rfl, d⟩ := prmAt.nam HPr.out hltP
      obtain ⟨nm, hnm⟩ : ∃ nm, nm = (PS[i]).1 := ⟨_, rfl⟩
      have hns : nm.length ≤ 1000000 := by rw [hnm]; exact HSmN.out _ (List.getElem_mem hltP)
      rw [← hnm] at d
      have HNm := Lib.hid hnm
      have HLP := Lib.hid hltP
      clear hnm
      go_wp2_with fail
      with_reducible refine (HBs.out ⟨nm.toArray⟩ _ (by rw [toArr_size]; omega)).mono ?_
      rintro e w5 ⟨Bs, rfl, hBs, rfl⟩
      have HBl : Hid (Bs.data.toList = baseL nm) := hBs
      have hBss : Bs.size ≤ 1000000 := by
        have e := congrArg List.length hBs
        rw [len_toList] at e
        have h2 := (List.takeWhile_sublist (fun c : UInt8 => c != 42) (l := nm)).length_le
        have e' : Bs.size = (nm.takeWhile (fun c : UInt8 => c != 42)).length := e
        omega
      clear hBs d
      go_wp2_with fail
      go_loopg [13, 14] i (fun g2 v13 v14 wx => ∃ (k : Nat) (b : Bool), g2 = i - k ∧ k ≤ i ∧ v14 = .int .i64 (k : Int) ∧ v13 = .bool b ∧ Hid (b = true ↔ ¬ baseL nm ∈ (PS.take k).map (fun p => baseL p.1)) ∧ wr = wx)
      case atStart => exact ⟨0, true, by omega, by omega, rfl, rfl, by unfold Hid; simp, rfl⟩
      case round =>
        obtain ⟨k, b, rfl, hk, rfl, rfl, HF, rfl⟩ := hrel
        by_cases hki : k < i
        · have hkP : k < PS.length := by rw [← HN.out]; omega
          have hkn : (k : Int) < (n : Int) := by omega
          have HT : Hid (PS.take (k + 1) = PS.take k ++ [PS[k]]) := List.take_succ_eq_append_getElem hkP
          cases b with
          | false =>
            go_wp2_with fail
            go_roundg (i - (k + 1))
            case measure => omega
            case rel =>
              refine ⟨k + 1, false, rfl, by omega, by go_num, rfl, ?_, rfl⟩
              unfold Hid
              rw [HT.out, List.map_append, List.mem_append]
              constructor
              · intro e
                cases e
              · intro hm
                have : baseL nm ∈ (PS.take k).map (fun p => baseL p.1) := Classical.byContradiction fun h => absurd (HF.out.2 h) (by decide)
                exact absurd (.inl this) hm
          | true =>
            obtain ⟨g', e', d2⟩ := prmAt.nam HPr.out hkP
            cases e'
            obtain ⟨nk, hnk⟩ : ∃ nk, nk = (PS[k]).1 := ⟨_, rfl⟩
            have hnks : nk.length ≤ 1000000 := by rw [hnk]; exact HSmN.out _ (List.getElem_mem hkP)
            rw [← hnk] at d2
            have HNk : Hid ((PS[k]).1 = nk) := hnk.symm
            clear hnk
            go_wp2_with fail
            with_reducible refine (HBs.out ⟨nk.toArray⟩ _ (by rw [toArr_size]; omega)).mono ?_
            rintro e w6 ⟨Ks, rfl, hKs, rfl⟩
            have HKl : Hid (Ks.data.toList = baseL nk) := hKs
            clear hKs
            by_cases he : Ks.data.toList = Bs.data.toList
            · have q1 : (Ks.toList == Bs.toList) = true := str_eq he
              have q2 : (Ks.toList != Bs.toList) = false := by show (!(Ks.toList == Bs.toList)) = false; rw [q1]; rfl
              have HE := Lib.hid he
              clear he
              go_wp2_with fail
              go_roundg (i - (k + 1))
              case measure => omega
              case rel =>
                refine ⟨k + 1, false, rfl, by omega, by go_num, rfl, ?_, rfl⟩
                unfold Hid
                rw [HT.out, ← HBl.out, ← HE.out, HKl.out, List.map_append, List.map_cons, HNk.out]
                simp
            · have q1 : (Ks.toList == Bs.toList) = false := str_ne he
              have q2 : (Ks.toList != Bs.toList) = true := by show (!(Ks.toList == Bs.toList)) = true; rw [q1]; rfl
              have HE := Lib.hid he
              clear he
              go_wp2_with fail
              go_roundg (i - (k + 1))
              case measure => omega
              case rel =>
                refine ⟨k + 1, true, rfl, by omega, by go_num, rfl, ?_, rfl⟩
                have h := HF.out
                unfold Hid
                rw [HT.out, List.map_append, List.map_cons, HNk.out, List.mem_append]
                refine ⟨fun _ hm => ?_, fun _ => rfl⟩
                rcases hm with hm | hm
                · exact h.1 (by first | rfl | trivial) hm
                · have : baseL nm = baseL nk := by simpa using hm
                  exact HE.out (by rw [HKl.out, HBl.out, this])
        · obtain rfl : k = i := by omega
          have HLi := HLP.out
          rcases front Bs with b0 | ⟨b0, hb0⟩
          · have e1 := lst_eq0 b0
            have HJ : Hid (joinA PS (preB PS k) (PS.drop k) = joinA PS (preB PS (k + 1)) (PS.drop (k + 1))) := joinA_past HLi (.inl (by rw [← HNm.out, ← HBl.out]; exact b0))
            clear b0
            go_wp2_with fail
            go_roundg (n - (k + 1))
            case measure => omega
            case rel => exact ⟨k + 1, out, u, rfl, by omega, by go_num, by omega, HVr.out, HOr.out, HG.out, by unfold Hid; rw [HS.out, HJ.out]⟩
          · have e1 := lst_ne0 (ne0_of b0)
            have HBn : Hid (¬ baseL (PS[k]).1 = []) := by unfold Hid; rw [← HNm.out, ← HBl.out]; exact ne0_of b0
            clear b0 hb0
            cases b with
            | false =>
              have HJ : Hid (joinA PS (preB PS k) (PS.drop k) = joinA PS (preB PS (k + 1)) (PS.drop (k + 1))) := joinA_past HLi (.inr (by
                rw [← HNm.out, preB_mem]
                exact Classical.byContradiction fun h => absurd (HF.out.2 h) (by decide)))
              go_wp2_with fail
              go_roundg (n - (k + 1))
              case measure => omega
              case rel => exact ⟨k + 1, out, u, rfl, by omega, by go_num, by omega, HVr.out, HOr.out, HG.out, by unfold Hid; rw [HS.out, HJ.out]⟩
            | true =>
              have HBm : Hid (¬ baseL (PS[k]).1 ∈ preB PS k) := by unfold Hid; rw [← HNm.out, preB_mem]; exact HF.out.1 rfl
              have HTd1 := Lib.hid (HTd.out Bs wr HPr.out hBss)
              rw [HBl.out, HNm.out] at HTd1
              cases ht : toldL PS (baseL (PS[k]).1) with
              | none =>
                rw [ht] at HTd1
                have HJ := Lib.hid (joinA_nothing HLi ht)
                clear ht
                unfold getOV at HTd1
                go_wp2_with fail
                with_reducible refine HTd1.out.mono ?_
                rintro e w6 ⟨rfl, hb6⟩
                have HG6 := Lib.hid (HG.out.below hb6)
                have HV6 := Lib.hid ((hb6.block B7 (by omega)).trans HVr.out)
                have HO6 := Lib.hid (ownsRow_below HOr.out hb6)
                clear hb6
                go_wp2_with fail
                go_roundg (n - (k + 1))
                case measure => omega
                case rel => exact ⟨k + 1, out, u, rfl, by omega, by go_num, by omega, HV6.out, HO6.out, HG6.out, by unfold Hid; rw [HS.out, HJ.out]⟩
              | some x =>
                rw [ht] at HTd1
                have HJ := Lib.hid (joinA_value HLi HBn.out HBm.out ht)
                clear ht
                unfold getOV at HTd1
                go_wp2_with fail
                with_reducible refine HTd1.out.mono ?_
                rintro e w6 ⟨rfl, hb6⟩
                have hsz6 := hb6.size
                have HG6 := Lib.hid (HG.out.below hb6)
                have HV6 := Lib.hid ((hb6.block B7 (by omega)).trans HVr.out)
                have HO6 := Lib.hid (ownsRow_below HOr.out hb6)
                clear hb6
                obtain ⟨c2, f2⟩ := vBox_c2 HV6.out
                have HC6 := Lib.hid (cells_two_new w6 56 (.string Bs) (.string ⟨x.toArray⟩))
                have hB6 : B7 < w6.heap.size := by omega
                have HAl : Hid (Below w6.heap.size w6 (w6.alloc (.cells #[.string Bs, .string ⟨x.toArray⟩] 56))) := (Below.refl _ _).alloc (Nat.le_refl _) _
                have HX : Hid (∀ w7, (w6.alloc (.cells #[.string Bs, .string ⟨x.toArray⟩] 56)).grownBy w7 u.ownBlock → w7.heap[B7]? = some (vBox (foldS T.data.toList) (([] : List UInt8)) u)) := fun w7 hg =>
                  (hg.block B7 (Nat.lt_of_lt_of_le hB6 HAl.out.size) (fun e => by have := (HO6.out.lt B7 e.symm).1; omega)).trans ((HAl.out.block B7 hB6).trans HV6.out)
                go_wp2_with (at_builtin; refine wpList_append_own _ rfl _ _ 28 rfl w4.heap.size 56 i0 (.agg #[.string ⟨#[]⟩, .string ⟨#[]⟩]) 2 32 Tryz.underlying28 hi0 hz0 hz1 hz2 rfl (by decide) _ out.length (prmCells out) rfl (HO6.out.alloc _) ⟨w6.heap.size, 0, none⟩ 1 1 [.string Bs, .string ⟨x.toArray⟩] rfl rfl HC6.out (by simp [Value.oneCell']) (by unfold maxLen; omega) (by omega) (by simp; omega) ?_; intro v7 w7 hown7 hgrow7 _; obtain ⟨g7, cap7, rfl, _, _, _, _⟩ := ownsRow_slice hown7 (by omega); have hv7 := HX.out w7 hgrow7; obtain ⟨c7, f7⟩ := vBox_c2 hv7)
                have HV8 := Lib.hid (vBox_set2 hv7 (.slice (some ⟨g7, 0, none⟩) (out.length + 1) cap7))
                have HG7 := Lib.hid (Gr.own (HG6.out.below HAl.out) hgrow7 (fun q hq => (HO6.out.lt q hq).1))
                have HG8 := Lib.hid (HG7.out.set 2 (.slice (some ⟨g7, 0, none⟩) (out.length + 1) cap7))
                have HO8 : Hid ((w7.setCell ⟨B7, 2, none⟩ (.slice (some ⟨g7, 0, none⟩) (out.length + 1) cap7)).ownsRow w4.heap.size 56 2 (.slice (some ⟨g7, 0, none⟩) (out.length + 1) cap7) (out.length + 1) (prmCells out ++ [.string Bs, .string ⟨x.toArray⟩])) := hown7.kept (row := some B7) (grownBy_setCell _ _ _) (by
                  cases hv : (Value.slice (some ⟨g7, 0, none⟩) (out.length + 1) cap7).ownBlock with
                  | none => exact .inl rfl
                  | some q => exact .inr (fun e => by have := (hown7.lt q hv).1; have e := Option.some.inj e; omega))
                clear hown7 hgrow7 hv7 c2 f2
                go_wp2_with fail
                go_roundg (n - (k + 1))
                case measure => omega
                case rel =>
                  refine ⟨k + 1, out ++ [(baseL (PS[k]).1, x)], _, rfl, by omega, by go_num, by simp; omega, HV8.out, own_cast2 HO8.out (by simp) ?_, HG8.out, by unfold Hid; rw [HS.out, HJ.out, List.append_assoc]; rfl⟩
                  rw [prmCells_app, prmCells_one, ← HNm.out, ← HBl.out]
    · obtain rfl : i = n := by omega
      have HRr : Hid (wr.heap[w.heap.size]? = some _) := HG.out.row (g := w.heap.size) (by omega) HR4.out
      have hvr := HVr.out
      unfold vBox at hvr
      obtain ⟨uo, un, uc, rfl⟩ : ∃ a n c, u = .slice a n c := by
        rcases HOr.out.2 with ⟨h, _⟩ | ⟨g, cp, cur, h, _⟩
        · exact ⟨_, _, _, h⟩
        · exact ⟨_, _, _, h⟩
      have HEnd : Hid (joinL PS = out) := by unfold Hid; rw [HS.out, List.drop_eq_nil_of_le (by rw [HN.out]; exact Nat.le_refl _)]; exact List.append_nil _
      go_wp2_with (first | (refine wpList_load_row rfl 30 (.tmp 7) rfl B7 rfl 30 _ (0, 0) _ hvr Tryz.underlying30 rfl rfl ?_) | (refine wpList_store_row' rfl 30 (.tmp 4) (.tmp 105) rfl w.heap.size #[.string ⟨(foldS T.data.toList).toArray⟩, .string ⟨(([] : List UInt8)).toArray⟩, .slice uo un uc] rfl rfl 30 _ HRr.out (by kernel_rfl) rfl (by kernel_rfl) ?_; intro WE hWE))
      (try simp only [Exit.inBlock, Exit.then])
      have hrow := setRow_heap _ w.heap.size _ #[.string ⟨(foldS T.data.toList).toArray⟩, .string ⟨(([] : List UInt8)).toArray⟩, .slice uo un uc] _ _ HRr.out
      rw [← hWE.out] at hrow
      refine bodyPost_ret (results_row_tmp (P := Tryz.prog) Tryz.results9 _ _ w.heap.size 30 _ (0, 0) _ rfl hrow Tryz.underlying30 rfl rfl) rfl ?_
      have hgs := HG.out.size
      refine ⟨foldS T.data.toList, ([] : List UInt8), .slice uo un uc, out, true, rfl, ?_, ?_, ?_⟩
      · rw [hWE.out]
        have h1 : (wr.setRow w.heap.size #[.string ⟨(foldS T.data.toList).toArray⟩, .string ⟨(([] : List UInt8)).toArray⟩, .slice uo un uc]).ownsRow w4.heap.size 56 2 (.slice uo un uc) _ _ :=
          HOr.out.kept (row := some w.heap.size) ⟨rfl, rfl, rfl, by rw [size_setRow]; exact Nat.le_refl _, fun k _ hk => setRow_other _ _ k _ (fun e => hk (by rw [e]))⟩ (by
            cases hv : (Value.slice uo un uc).ownBlock with
            | none => exact .inl rfl
            | some q =>
              refine .inr (fun e => ?_)
              have h2 := (HOr.out.lt q hv).1
              have h3 := Option.some.inj e
              omega)
        exact own_base2 h1 HB4.out.size
      · rw [hWE.out]
        exact below_setRow (Below.grown HB4.out HG.out HB4.out.size (by intro k hk; cases hk; omega)) (Nat.le_refl _) _
      · rw [HY.out]
        refine ⟨rfl, rfl, rfl, ?_⟩
        show out = joinL (parsL _ _)
        rw [← HEnd.out, HPS.out, len_toList]

set_option maxRecDepth 100000 in
set_option maxHeartbeats 16000000 in
theorem refParse_true (s : ByteArray) (w : World) (hl : s.size ≤ 100000) :
    Calls Tryz.prog 9 #[.string s, .bool true] w (refParsePost (parseL s.data.toList true) w) := by
  obtain ⟨i0, hi0, hz⟩ := Option.map_eq_some_iff.1 Tryz.infoP
  simp only [Prod.mk.injEq] at hz
  obtain ⟨hz0, hz1, hz2⟩ := hz
  have HSk := Lib.hid (fun T W h => refSkip_any T W h)
  have HTk := Lib.hid (fun T W h => refTok_any T W h)
  have HFo := Lib.hid (fun T W h => refFold_any T W h)
  obtain ⟨W0, hW0⟩ : ∃ W0, W0 = w.alloc (.cells #[.string ⟨#[]⟩, .string ⟨#[]⟩, .slice none 0 0] 30) := ⟨_, rfl⟩
  have HB0 : Hid (Below w.heap.size w W0) := by rw [hW0]; exact (Below.refl _ _).alloc (Nat.le_refl _) _
  have HRow0 : Hid (W0.heap[w.heap.size]? = some (.cells #[.string ⟨#[]⟩, .string ⟨#[]⟩, .slice none 0 0] 30 (0, 0))) := by
    unfold Hid
    rw [hW0]
    exact heap_alloc_new _ _
  have hR0 : w.heap.size < W0.heap.size := (Array.getElem?_eq_some_iff.1 HRow0.out).1
  have HW0 : Hid (W0 = _) := hW0
  clear hW0
  go_enter Tryz.func9, Tryz.ntmps9
  go_wp2_with fail
  rw [← HW0.out]
  with_reducible refine (HSk.out s W0 (by omega)).mono ?_
  rintro e w1 ⟨T1, rfl, hT1, hT1s, rfl⟩
  go_wp2_with fail
  with_reducible refine (HTk.out T1 _ (by omega)).mono ?_
  rintro e w1 ⟨T, R, rfl, hT, hR, hb1⟩
  rw [hT1] at hT hR
  have HT : Hid (T.data.toList = (tokenL s.data.toList).1) := hT
  have HR : Hid (R.data.toList = (tokenL s.data.toList).2) := hR
  have hRs : R.size ≤ s.size := by
    have h1 := tokenL_len s.data.toList
    rw [← HR.out, len_toList, len_toList] at h1
    exact h1
  have hTs : T.size ≤ s.size := by
    have h1 := tokenL_small s.data.toList
    rw [← HT.out, len_toList, len_toList] at h1
    exact h1
  have HB1 := Lib.hid (HB0.out.trans (hb1.mono HB0.out.size))
  have HRow1 := Lib.hid ((hb1.block w.heap.size hR0).trans HRow0.out)
  have hR1 : w.heap.size < w1.heap.size := (Array.getElem?_eq_some_iff.1 HRow1.out).1
  have HFo1 := Lib.hid (fun W => HFo.out T W (by omega))
  clear hb1 hT hR hT1 HRow0 HB0
  go_wp2_with fail
  with_reducible refine (HFo1.out _).mono ?_
  rintro e w2 ⟨rfl, hb2⟩
  have HB2 := Lib.hid (HB1.out.trans (hb2.mono HB1.out.size))
  have HRow2 := Lib.hid ((hb2.block w.heap.size hR1).trans HRow1.out)
  have hR2 : w.heap.size < w2.heap.size := (Array.getElem?_eq_some_iff.1 HRow2.out).1
  clear hb2
  obtain ⟨w3, hw3⟩ : ∃ w3, w3 = w2.alloc (.cells #[.string ⟨(foldS T.data.toList).toArray⟩, .string ⟨#[]⟩, .slice none 0 0] 30) := ⟨_, rfl⟩
  have HW3 : Hid (w2.alloc (.cells #[.string ⟨(foldS T.data.toList).toArray⟩, .string ⟨#[]⟩, .slice none 0 0] 30) = w3) := hw3.symm
  have HB3 : Hid (Below w.heap.size w w3) := by rw [hw3]; exact HB2.out.alloc HB2.out.size _
  have HRow3 : Hid (w3.heap[w.heap.size]? = some (.cells #[.string ⟨#[]⟩, .string ⟨#[]⟩, .slice none 0 0] 30 (0, 0))) := by unfold Hid; rw [hw3, Below.heap_alloc _ _ _ hR2]; exact HRow2.out
  obtain ⟨B7, hB7⟩ : ∃ B7, B7 = w2.heap.size := ⟨_, rfl⟩
  have HV3 : Hid (w3.heap[B7]? = some (vBox (foldS T.data.toList) [] (.slice none 0 0))) := by unfold Hid; rw [hw3, hB7]; exact heap_alloc_new _ _
  have HB7 : Hid (w2.heap.size = B7) := hB7.symm
  have hB7w : w.heap.size < B7 := by omega
  clear hw3 hB7
  rcases front T with t0 | ⟨t0, ht0⟩
  · have e1 := lst_eq0 t0
    have HN : Hid (parseL s.data.toList true = none) := by
      unfold Hid parseL
      rw [if_pos (by rw [← HT.out]; exact t0)]
    clear t0
    have HRowA : Hid ((w2.alloc (.cells #[.string ⟨(foldS T.data.toList).toArray⟩, .string ⟨#[]⟩, .slice none 0 0] 30)).heap[w.heap.size]? = some (.cells #[.string ⟨#[]⟩, .string ⟨#[]⟩, .slice none 0 0] 30 (0, 0))) := by unfold Hid; rw [HW3.out]; exact HRow3.out
    have HBA : Hid (Below w.heap.size w (w2.alloc (.cells #[.string ⟨(foldS T.data.toList).toArray⟩, .string ⟨#[]⟩, .slice none 0 0] 30))) := by unfold Hid; rw [HW3.out]; exact HB3.out
    go_wp2_with (refine wpList_store_row' rfl 30 (.tmp 4) (.tmp 28) rfl w.heap.size #[.string ⟨#[]⟩, .string ⟨#[]⟩, .slice none 0 0] rfl rfl 30 _ HRowA.out (by kernel_rfl) rfl (by kernel_rfl) ?_; intro WE hWE)
    (try simp only [Exit.inBlock, Exit.then])
    have hrow := setRow_heap _ w.heap.size _ #[.string ⟨#[]⟩, .string ⟨#[]⟩, .slice none 0 0] _ _ HRowA.out
    rw [← hWE.out] at hrow
    refine bodyPost_ret (results_row_tmp (P := Tryz.prog) Tryz.results9 _ _ w.heap.size 30 _ (0, 0) _ rfl hrow Tryz.underlying30 rfl rfl) rfl ?_
    refine ⟨[], [], .slice none 0 0, [], false, rfl, World.ownsRow_nil _ _ _ _, by rw [hWE.out]; exact below_setRow HBA.out (Nat.le_refl _) _, ?_⟩
    rw [HN.out]
    exact ⟨rfl, rfl, rfl, rfl⟩

  have e1 := lst_ne0 (ne0_of t0)
  have HTne : Hid (¬ (tokenL s.data.toList).1 = []) := by unfold Hid; rw [← HT.out]; exact ne0_of t0
  clear t0 ht0 HFo1
  have HY0 : Hid (parseL s.data.toList true = match subL R.data.toList with | none => none | some (u, r) => some ⟨foldS T.data.toList, u, joinL (parsL r.length r)⟩) := by
    unfold Hid parseL
    rw [if_neg HTne.out, HT.out, HR.out]
    rfl
  go_wp2_with fail
  rw [HW3.out, HB7.out]
  with_reducible refine (HSk.out R _ (by omega)).mono ?_
  rintro e w4 ⟨R1, rfl, hR1, hR1s, rfl⟩
  rcases front R1 with r0 | ⟨r0, r0'⟩
  · have e2 := lst_eq0 r0
    have HN : Hid (parseL s.data.toList true = none) := by unfold Hid; rw [HY0.out]; unfold subL; rw [takeL_no0 (by rw [← hR1]; exact r0)]
    clear r0 hR1
    go_wp2_with (refine wpList_store_row' rfl 30 (.tmp 4) (.tmp 39) rfl w.heap.size #[.string ⟨#[]⟩, .string ⟨#[]⟩, .slice none 0 0] rfl rfl 30 _ HRow3.out (by kernel_rfl) rfl (by kernel_rfl) ?_; intro WE hWE)
    (try simp only [Exit.inBlock, Exit.then])
    have hrow := setRow_heap _ w.heap.size _ #[.string ⟨#[]⟩, .string ⟨#[]⟩, .slice none 0 0] _ _ HRow3.out
    rw [← hWE.out] at hrow
    refine bodyPost_ret (results_row_tmp (P := Tryz.prog) Tryz.results9 _ _ w.heap.size 30 _ (0, 0) _ rfl hrow Tryz.underlying30 rfl rfl) rfl ?_
    refine ⟨[], [], .slice none 0 0, [], false, rfl, World.ownsRow_nil _ _ _ _, by rw [hWE.out]; exact below_setRow HB3.out (Nat.le_refl _) _, ?_⟩
    rw [HN.out]
    exact ⟨rfl, rfl, rfl, rfl⟩

  have e2 := lst_ne0 (ne0_of r0)
  obtain ⟨d, hd⟩ : ∃ d, d = R1[0] := ⟨_, rfl⟩
  rw [← hd] at r0'
  have hd' := hd.symm
  have hdt := d.toNat_lt
  by_cases h47 : d = 47
  case neg =>
    have b2 : ((d.toNat : Int) != 47) = true := bne_yes fun e => h47 (toNat_eq (by show d.toNat = 47; omega))
    have HN : Hid (parseL s.data.toList true = none) := by unfold Hid; rw [HY0.out]; unfold subL; rw [takeL_no1 (by rw [← hR1]; exact r0') h47]
    clear r0' hR1 hd h47
    go_wp2_with (refine wpList_store_row' rfl 30 (.tmp 4) (.tmp 39) rfl w.heap.size #[.string ⟨#[]⟩, .string ⟨#[]⟩, .slice none 0 0] rfl rfl 30 _ HRow3.out (by kernel_rfl) rfl (by kernel_rfl) ?_; intro WE hWE)
    (try simp only [Exit.inBlock, Exit.then])
    have hrow := setRow_heap _ w.heap.size _ #[.string ⟨#[]⟩, .string ⟨#[]⟩, .slice none 0 0] _ _ HRow3.out
    rw [← hWE.out] at hrow
    refine bodyPost_ret (results_row_tmp (P := Tryz.prog) Tryz.results9 _ _ w.heap.size 30 _ (0, 0) _ rfl hrow Tryz.underlying30 rfl rfl) rfl ?_
    refine ⟨[], [], .slice none 0 0, [], false, rfl, World.ownsRow_nil _ _ _ _, by rw [hWE.out]; exact below_setRow HB3.out (Nat.le_refl _) _, ?_⟩
    rw [HN.out]
    exact ⟨rfl, rfl, rfl, rfl⟩

  subst h47
  have b2 : (((47 : UInt8).toNat : Int) != 47) = false := by decide
  obtain ⟨V, hV⟩ : ∃ V, V = R1.extract 1 R1.size := ⟨_, rfl⟩
  have HV : Hid (R1.extract 1 R1.size = V) := hV.symm
  have hVs : V.size + 1 = R1.size := by rw [hV, extract_size' R1 _ _ (Nat.le_refl _)]; omega
  rw [← hV] at r0'
  have HT47 : Hid (takeL 47 R.data.toList = some V.data.toList) := takeL_yes (by rw [← hR1]; exact r0')
  clear r0' hR1 hd hV
  go_wp2_with fail
  rw [HV.out]
  with_reducible refine (HSk.out V _ (by omega)).mono ?_
  rintro e w4 ⟨V1, rfl, hV1, hV1s, rfl⟩
  go_wp2_with fail
  with_reducible refine (HTk.out V1 _ (by omega)).mono ?_
  rintro e wb ⟨U, R2, rfl, hU, hR2', hbb⟩
  rw [hV1] at hU hR2'
  have HU : Hid (U.data.toList = (tokenL V.data.toList).1) := hU
  have HR2 : Hid (R2.data.toList = (tokenL V.data.toList).2) := hR2'
  have hR2s : R2.size ≤ s.size := by
    have h1 := tokenL_len V.data.toList
    rw [← HR2.out, len_toList, len_toList] at h1
    omega
  have hUs : U.size ≤ s.size := by
    have h1 := tokenL_small V.data.toList
    rw [← HU.out, len_toList, len_toList] at h1
    omega
  have hB73 : B7 < w3.heap.size := (Array.getElem?_eq_some_iff.1 HV3.out).1
  have HBb := Lib.hid (HB3.out.trans (hbb.mono HB3.out.size))
  have HRowb := Lib.hid ((hbb.block w.heap.size (by omega)).trans HRow3.out)
  have HVb := Lib.hid ((hbb.block B7 hB73).trans HV3.out)
  clear hbb hU hR2' hV1
  rcases front U with u0 | ⟨u0, hu0⟩
  · have e3 := lst_eq0 u0
    have HN : Hid (parseL s.data.toList true = none) := by unfold Hid; rw [HY0.out]; unfold subL; rw [HT47.out]; simp only; rw [if_pos (by rw [← HU.out]; exact u0)]
    clear u0
    go_wp2_with (refine wpList_store_row' rfl 30 (.tmp 4) (.tmp 49) rfl w.heap.size #[.string ⟨#[]⟩, .string ⟨#[]⟩, .slice none 0 0] rfl rfl 30 _ HRowb.out (by kernel_rfl) rfl (by kernel_rfl) ?_; intro WE hWE)
    (try simp only [Exit.inBlock, Exit.then])
    have hrow := setRow_heap _ w.heap.size _ #[.string ⟨#[]⟩, .string ⟨#[]⟩, .slice none 0 0] _ _ HRowb.out
    rw [← hWE.out] at hrow
    refine bodyPost_ret (results_row_tmp (P := Tryz.prog) Tryz.results9 _ _ w.heap.size 30 _ (0, 0) _ rfl hrow Tryz.underlying30 rfl rfl) rfl ?_
    refine ⟨[], [], .slice none 0 0, [], false, rfl, World.ownsRow_nil _ _ _ _, by rw [hWE.out]; exact below_setRow HBb.out (Nat.le_refl _) _, ?_⟩
    rw [HN.out]
    exact ⟨rfl, rfl, rfl, rfl⟩

  have e3 := lst_ne0 (ne0_of u0)
  have HY : Hid (parseL s.data.toList true = some ⟨foldS T.data.toList, foldS U.data.toList, joinL (parsL R2.data.toList.length R2.data.toList)⟩) := by
    unfold Hid
    rw [HY0.out]
    unfold subL
    rw [HT47.out]
    simp only
    rw [if_neg (by rw [← HU.out]; exact ne0_of u0), HU.out, HR2.out]
  have hBb : B7 < wb.heap.size := (Array.getElem?_eq_some_iff.1 HVb.out).1
  have HFo2 := Lib.hid (fun W => HFo.out U W (by omega))
  clear u0 hu0
  go_wp2_with fail
  with_reducible refine (HFo2.out _).mono ?_
  rintro e wc ⟨rfl, hbc⟩
  have HBc := Lib.hid (HBb.out.trans (hbc.mono HBb.out.size))
  have HRowc := Lib.hid ((hbc.block w.heap.size (by omega)).trans HRowb.out)
  have HVc := Lib.hid ((hbc.block B7 hBb).trans HVb.out)
  obtain ⟨cc1, cf1⟩ := vBox_c1 HVc.out
  have HVd := Lib.hid (vBox_set1 HVc.out (foldS U.data.toList))
  have HBd := Lib.hid (HBc.out.setCell (p := ⟨B7, 1, none⟩) (by show w.heap.size ≤ B7; omega) (.string ⟨(foldS U.data.toList).toArray⟩))
  have HRowd : Hid ((wc.setCell ⟨B7, 1, none⟩ (.string ⟨(foldS U.data.toList).toArray⟩)).heap[w.heap.size]? = some (.cells #[.string ⟨#[]⟩, .string ⟨#[]⟩, .slice none 0 0] 30 (0, 0))) := (Below.heap_setCell _ _ _ _ (by show w.heap.size ≠ B7; omega)).trans HRowc.out
  clear hbc HFo2
  go_wp2_with fail
  generalize wc.setCell ⟨B7, 1, none⟩ (.string ⟨(foldS U.data.toList).toArray⟩) = wd at HVd HBd HRowd ⊢

  have hwaB : B7 < wd.heap.size := (Array.getElem?_eq_some_iff.1 HVd.out).1
  have hwaR : w.heap.size < wd.heap.size := by omega
  have HPs := Lib.hid (refPairs_any R2 wd (by omega))
  with_reducible refine HPs.out.mono ?_
  rintro e w4 ⟨v, rfl, hown4, hpl4, hb4⟩
  obtain ⟨PS, hPS⟩ : ∃ PS, PS = parsL R2.size R2.data.toList := ⟨_, rfl⟩
  have hsm : smallP PS := fun p hp => by
    rw [hPS] at hp
    have := parsL_small _ _ p hp
    rw [len_toList] at this
    omega
  have HPS := Lib.hid hPS
  rw [← hPS] at hown4 hpl4
  have HOP := Lib.hid hown4
  have HR4 := Lib.hid ((hb4.block w.heap.size hwaR).trans HRowd.out)
  have HV4 := Lib.hid ((hb4.block B7 hwaB).trans HVd.out)
  have HB4 := Lib.hid (HBd.out.trans (hb4.mono HBd.out.size))
  have hsz4 := hb4.size
  obtain ⟨ao, cap, rfl, hcl, hcm, _⟩ := prmAt_ownedP hown4
  unfold maxLen at hcm
  obtain ⟨n, hn⟩ : ∃ n, n = PS.length := ⟨_, rfl⟩
  have HN := Lib.hid hn
  rw [← hn] at hcl hpl4
  have HOP' : Hid (w4.ownsRow wd.heap.size 56 2 (.slice ao n cap) PS.length (prmCells PS)) := by unfold Hid; rw [hn]; exact HOP.out
  rw [← hn]
  have HBs := Lib.hid (fun T W h => refBase_any T W h)
  have HTd := Lib.hid (fun T W h hb => refTold_any (.slice ao n cap) PS T W h hsm (by omega) hb)
  have HSmN : Hid (∀ p ∈ PS, p.1.length ≤ 1000000) := fun p hp => (hsm p hp).1
  clear hb4 hPS hown4 HOP hn hsm HPs
  go_wp2_with fail
  go_loopg [11] n (fun g v11 wr => ∃ (i : Nat) (out : List Prm) (u : Value), g = n - i ∧ i ≤ n ∧ v11 = .int .i64 (i : Int) ∧ out.length ≤ i ∧ Hid (wr.heap[B7]? = some (vBox (foldS T.data.toList) (foldS U.data.toList) u)) ∧ Hid (wr.ownsRow w4.heap.size 56 2 u out.length (prmCells out)) ∧ Hid (Gr B7 w4 wr) ∧
    Hid (joinL PS = out ++ joinA PS (preB PS i) (PS.drop i)))
  case atStart => exact ⟨0, [], .slice none 0 0, by omega, by omega, rfl, by simp, HV4.out, World.ownsRow_nil _ _ _ _, Gr.refl _ _, rfl⟩
  case round =>
    obtain ⟨i, out, u, rfl, hi, rfl, hol, HVr, HOr, HG, HS⟩ := hrel
    have hszr := HG.out.size
    have HPr : Hid (prmAt wr (.slice ao n cap) PS) := prmAt_ownedP (by have := ownsRow_gr HOP'.out HG.out hwaB; exact this)
    by_cases hlt : i < n
    · have hltP : i < PS.length := by rw [← HN.out]; exact hlt
      have hini : (i : Int) < (n : Int) := by omega
      obtain ⟨g, rfl, d⟩ := prmAt.nam HPr.out hltP
      obtain ⟨nm, hnm⟩ : ∃ nm, nm = (PS[i]).1 := ⟨_, rfl⟩
      have hns : nm.length ≤ 1000000 := by rw [hnm]; exact HSmN.out _ (List.getElem_mem hltP)
      rw [← hnm] at d
      have HNm := Lib.hid hnm
      have HLP := Lib.hid hltP
      clear hnm
      go_wp2_with fail
      with_reducible refine (HBs.out ⟨nm.toArray⟩ _ (by rw [toArr_size]; omega)).mono ?_
      rintro e w5 ⟨Bs, rfl, hBs, rfl⟩
      have HBl : Hid (Bs.data.toList = baseL nm) := hBs
      have hBss : Bs.size ≤ 1000000 := by
        have e := congrArg List.length hBs
        rw [len_toList] at e
        have h2 := (List.takeWhile_sublist (fun c : UInt8 => c != 42) (l := nm)).length_le
        have e' : Bs.size = (nm.takeWhile (fun c : UInt8 => c != 42)).length := e
        omega
      clear hBs d
      go_wp2_with fail
      go_loopg [13, 14] i (fun g2 v13 v14 wx => ∃ (k : Nat) (b : Bool), g2 = i - k ∧ k ≤ i ∧ v14 = .int .i64 (k : Int) ∧ v13 = .bool b ∧ Hid (b = true ↔ ¬ baseL nm ∈ (PS.take k).map (fun p => baseL p.1)) ∧ wr = wx)
      case atStart => exact ⟨0, true, by omega, by omega, rfl, rfl, by unfold Hid; simp, rfl⟩
      case round =>
        obtain ⟨k, b, rfl, hk, rfl, rfl, HF, rfl⟩ := hrel
        by_cases hki : k < i
        · have hkP : k < PS.length := by rw [← HN.out]; omega
          have hkn : (k : Int) < (n : Int) := by omega
          have HT : Hid (PS.take (k + 1) = PS.take k ++ [PS[k]]) := List.take_succ_eq_append_getElem hkP
          cases b with
          | false =>
            go_wp2_with fail
            go_roundg (i - (k + 1))
            case measure => omega
            case rel =>
              refine ⟨k + 1, false, rfl, by omega, by go_num, rfl, ?_, rfl⟩
              unfold Hid
              rw [HT.out, List.map_append, List.mem_append]
              constructor
              · intro e
                cases e
              · intro hm
                have : baseL nm ∈ (PS.take k).map (fun p => baseL p.1) := Classical.byContradiction fun h => absurd (HF.out.2 h) (by decide)
                exact absurd (.inl this) hm
          | true =>
            obtain ⟨g', e', d2⟩ := prmAt.nam HPr.out hkP
            cases e'
            obtain ⟨nk, hnk⟩ : ∃ nk, nk = (PS[k]).1 := ⟨_, rfl⟩
            have hnks : nk.length ≤ 1000000 := by rw [hnk]; exact HSmN.out _ (List.getElem_mem hkP)
            rw [← hnk] at d2
            have HNk : Hid ((PS[k]).1 = nk) := hnk.symm
            clear hnk
            go_wp2_with fail
            with_reducible refine (HBs.out ⟨nk.toArray⟩ _ (by rw [toArr_size]; omega)).mono ?_
            rintro e w6 ⟨Ks, rfl, hKs, rfl⟩
            have HKl : Hid (Ks.data.toList = baseL nk) := hKs
            clear hKs
            by_cases he : Ks.data.toList = Bs.data.toList
            · have q1 : (Ks.toList == Bs.toList) = true := str_eq he
              have q2 : (Ks.toList != Bs.toList) = false := by show (!(Ks.toList == Bs.toList)) = false; rw [q1]; rfl
              have HE := Lib.hid he
              clear he
              go_wp2_with fail
              go_roundg (i - (k + 1))
              case measure => omega
              case rel =>
                refine ⟨k + 1, false, rfl, by omega, by go_num, rfl, ?_, rfl⟩
                unfold Hid
                rw [HT.out, ← HBl.out, ← HE.out, HKl.out, List.map_append, List.map_cons, HNk.out]
                simp
            · have q1 : (Ks.toList == Bs.toList) = false := str_ne he
              have q2 : (Ks.toList != Bs.toList) = true := by show (!(Ks.toList == Bs.toList)) = true; rw [q1]; rfl
              have HE := Lib.hid he
              clear he
              go_wp2_with fail
              go_roundg (i - (k + 1))
              case measure => omega
              case rel =>
                refine ⟨k + 1, true, rfl, by omega, by go_num, rfl, ?_, rfl⟩
                have h := HF.out
                unfold Hid
                rw [HT.out, List.map_append, List.map_cons, HNk.out, List.mem_append]
                refine ⟨fun _ hm => ?_, fun _ => rfl⟩
                rcases hm with hm | hm
                · exact h.1 (by first | rfl | trivial) hm
                · have : baseL nm = baseL nk := by simpa using hm
                  exact HE.out (by rw [HKl.out, HBl.out, this])
        · obtain rfl : k = i := by omega
          have HLi := HLP.out
          rcases front Bs with b0 | ⟨b0, hb0⟩
          · have e1 := lst_eq0 b0
            have HJ : Hid (joinA PS (preB PS k) (PS.drop k) = joinA PS (preB PS (k + 1)) (PS.drop (k + 1))) := joinA_past HLi (.inl (by rw [← HNm.out, ← HBl.out]; exact b0))
            clear b0
            go_wp2_with fail
            go_roundg (n - (k + 1))
            case measure => omega
            case rel => exact ⟨k + 1, out, u, rfl, by omega, by go_num, by omega, HVr.out, HOr.out, HG.out, by unfold Hid; rw [HS.out, HJ.out]⟩
          · have e1 := lst_ne0 (ne0_of b0)
            have HBn : Hid (¬ baseL (PS[k]).1 = []) := by unfold Hid; rw [← HNm.out, ← HBl.out]; exact ne0_of b0
            clear b0 hb0
            cases b with
            | false =>
              have HJ : Hid (joinA PS (preB PS k) (PS.drop k) = joinA PS (preB PS (k + 1)) (PS.drop (k + 1))) := joinA_past HLi (.inr (by
                rw [← HNm.out, preB_mem]
                exact Classical.byContradiction fun h => absurd (HF.out.2 h) (by decide)))
              go_wp2_with fail
              go_roundg (n - (k + 1))
              case measure => omega
              case rel => exact ⟨k + 1, out, u, rfl, by omega, by go_num, by omega, HVr.out, HOr.out, HG.out, by unfold Hid; rw [HS.out, HJ.out]⟩
            | true =>
              have HBm : Hid (¬ baseL (PS[k]).1 ∈ preB PS k) := by unfold Hid; rw [← HNm.out, preB_mem]; exact HF.out.1 rfl
              have HTd1 := Lib.hid (HTd.out Bs wr HPr.out hBss)
              rw [HBl.out, HNm.out] at HTd1
              cases ht : toldL PS (baseL (PS[k]).1) with
              | none =>
                rw [ht] at HTd1
                have HJ := Lib.hid (joinA_nothing HLi ht)
                clear ht
                unfold getOV at HTd1
                go_wp2_with fail
                with_reducible refine HTd1.out.mono ?_
                rintro e w6 ⟨rfl, hb6⟩
                have HG6 := Lib.hid (HG.out.below hb6)
                have HV6 := Lib.hid ((hb6.block B7 (by omega)).trans HVr.out)
                have HO6 := Lib.hid (ownsRow_below HOr.out hb6)
                clear hb6
                go_wp2_with fail
                go_roundg (n - (k + 1))
                case measure => omega
                case rel => exact ⟨k + 1, out, u, rfl, by omega, by go_num, by omega, HV6.out, HO6.out, HG6.out, by unfold Hid; rw [HS.out, HJ.out]⟩
              | some x =>
                rw [ht] at HTd1
                have HJ := Lib.hid (joinA_value HLi HBn.out HBm.out ht)
                clear ht
                unfold getOV at HTd1
                go_wp2_with fail
                with_reducible refine HTd1.out.mono ?_
                rintro e w6 ⟨rfl, hb6⟩
                have hsz6 := hb6.size
                have HG6 := Lib.hid (HG.out.below hb6)
                have HV6 := Lib.hid ((hb6.block B7 (by omega)).trans HVr.out)
                have HO6 := Lib.hid (ownsRow_below HOr.out hb6)
                clear hb6
                obtain ⟨c2, f2⟩ := vBox_c2 HV6.out
                have HC6 := Lib.hid (cells_two_new w6 56 (.string Bs) (.string ⟨x.toArray⟩))
                have hB6 : B7 < w6.heap.size := by omega
                have HAl : Hid (Below w6.heap.size w6 (w6.alloc (.cells #[.string Bs, .string ⟨x.toArray⟩] 56))) := (Below.refl _ _).alloc (Nat.le_refl _) _
                have HX : Hid (∀ w7, (w6.alloc (.cells #[.string Bs, .string ⟨x.toArray⟩] 56)).grownBy w7 u.ownBlock → w7.heap[B7]? = some (vBox (foldS T.data.toList) (foldS U.data.toList) u)) := fun w7 hg =>
                  (hg.block B7 (Nat.lt_of_lt_of_le hB6 HAl.out.size) (fun e => by have := (HO6.out.lt B7 e.symm).1; omega)).trans ((HAl.out.block B7 hB6).trans HV6.out)
                go_wp2_with (at_builtin; refine wpList_append_own _ rfl _ _ 28 rfl w4.heap.size 56 i0 (.agg #[.string ⟨#[]⟩, .string ⟨#[]⟩]) 2 32 Tryz.underlying28 hi0 hz0 hz1 hz2 rfl (by decide) _ out.length (prmCells out) rfl (HO6.out.alloc _) ⟨w6.heap.size, 0, none⟩ 1 1 [.string Bs, .string ⟨x.toArray⟩] rfl rfl HC6.out (by simp [Value.oneCell']) (by unfold maxLen; omega) (by omega) (by simp; omega) ?_; intro v7 w7 hown7 hgrow7 _; obtain ⟨g7, cap7, rfl, _, _, _, _⟩ := ownsRow_slice hown7 (by omega); have hv7 := HX.out w7 hgrow7; obtain ⟨c7, f7⟩ := vBox_c2 hv7)
                have HV8 := Lib.hid (vBox_set2 hv7 (.slice (some ⟨g7, 0, none⟩) (out.length + 1) cap7))
                have HG7 := Lib.hid (Gr.own (HG6.out.below HAl.out) hgrow7 (fun q hq => (HO6.out.lt q hq).1))
                have HG8 := Lib.hid (HG7.out.set 2 (.slice (some ⟨g7, 0, none⟩) (out.length + 1) cap7))
                have HO8 : Hid ((w7.setCell ⟨B7, 2, none⟩ (.slice (some ⟨g7, 0, none⟩) (out.length + 1) cap7)).ownsRow w4.heap.size 56 2 (.slice (some ⟨g7, 0, none⟩) (out.length + 1) cap7) (out.length + 1) (prmCells out ++ [.string Bs, .string ⟨x.toArray⟩])) := hown7.kept (row := some B7) (grownBy_setCell _ _ _) (by
                  cases hv : (Value.slice (some ⟨g7, 0, none⟩) (out.length + 1) cap7).ownBlock with
                  | none => exact .inl rfl
                  | some q => exact .inr (fun e => by have := (hown7.lt q hv).1; have e := Option.some.inj e; omega))
                clear hown7 hgrow7 hv7 c2 f2
                go_wp2_with fail
                go_roundg (n - (k + 1))
                case measure => omega
                case rel =>
                  refine ⟨k + 1, out ++ [(baseL (PS[k]).1, x)], _, rfl, by omega, by go_num, by simp; omega, HV8.out, own_cast2 HO8.out (by simp) ?_, HG8.out, by unfold Hid; rw [HS.out, HJ.out, List.append_assoc]; rfl⟩
                  rw [prmCells_app, prmCells_one, ← HNm.out, ← HBl.out]
    · obtain rfl : i = n := by omega
      have HRr : Hid (wr.heap[w.heap.size]? = some _) := HG.out.row (g := w.heap.size) (by omega) HR4.out
      have hvr := HVr.out
      unfold vBox at hvr
      obtain ⟨uo, un, uc, rfl⟩ : ∃ a n c, u = .slice a n c := by
        rcases HOr.out.2 with ⟨h, _⟩ | ⟨g, cp, cur, h, _⟩
        · exact ⟨_, _, _, h⟩
        · exact ⟨_, _, _, h⟩
      have HEnd : Hid (joinL PS = out) := by unfold Hid; rw [HS.out, List.drop_eq_nil_of_le (by rw [HN.out]; exact Nat.le_refl _)]; exact List.append_nil _
      go_wp2_with (first | (refine wpList_load_row rfl 30 (.tmp 7) rfl B7 rfl 30 _ (0, 0) _ hvr Tryz.underlying30 rfl rfl ?_) | (refine wpList_store_row' rfl 30 (.tmp 4) (.tmp 105) rfl w.heap.size #[.string ⟨(foldS T.data.toList).toArray⟩, .string ⟨(foldS U.data.toList).toArray⟩, .slice uo un uc] rfl rfl 30 _ HRr.out (by kernel_rfl) rfl (by kernel_rfl) ?_; intro WE hWE))
      (try simp only [Exit.inBlock, Exit.then])
      have hrow := setRow_heap _ w.heap.size _ #[.string ⟨(foldS T.data.toList).toArray⟩, .string ⟨(foldS U.data.toList).toArray⟩, .slice uo un uc] _ _ HRr.out
      rw [← hWE.out] at hrow
      refine bodyPost_ret (results_row_tmp (P := Tryz.prog) Tryz.results9 _ _ w.heap.size 30 _ (0, 0) _ rfl hrow Tryz.underlying30 rfl rfl) rfl ?_
      have hgs := HG.out.size
      refine ⟨foldS T.data.toList, foldS U.data.toList, .slice uo un uc, out, true, rfl, ?_, ?_, ?_⟩
      · rw [hWE.out]
        have h1 : (wr.setRow w.heap.size #[.string ⟨(foldS T.data.toList).toArray⟩, .string ⟨(foldS U.data.toList).toArray⟩, .slice uo un uc]).ownsRow w4.heap.size 56 2 (.slice uo un uc) _ _ :=
          HOr.out.kept (row := some w.heap.size) ⟨rfl, rfl, rfl, by rw [size_setRow]; exact Nat.le_refl _, fun k _ hk => setRow_other _ _ k _ (fun e => hk (by rw [e]))⟩ (by
            cases hv : (Value.slice uo un uc).ownBlock with
            | none => exact .inl rfl
            | some q =>
              refine .inr (fun e => ?_)
              have h2 := (HOr.out.lt q hv).1
              have h3 := Option.some.inj e
              omega)
        exact own_base2 h1 HB4.out.size
      · rw [hWE.out]
        exact below_setRow (Below.grown HB4.out HG.out HB4.out.size (by intro k hk; cases hk; omega)) (Nat.le_refl _) _
      · rw [HY.out]
        refine ⟨rfl, rfl, rfl, ?_⟩
        show out = joinL (parsL _ _)
        rw [← HEnd.out, HPS.out, len_toList]
end Go.Proofs.YtcnihodikpcfkaaGreatDoor
