/- The document's names, walked. -/
import Derived.Test.YthcleaflhljdlaaGreatDoorSfF
namespace Go.Proofs.YthcleaflhljdlaaGreatDoor
open Go Go.RowKit

theorem strV_of (N : ByteArray) : strV N.data.toList = .string N := by
  unfold strV
  exact congrArg Value.string (bytes_eq (by simp))
theorem head34 {s : ByteArray} (h : 0 < s.size) : (s.data.toList.head? = some 34) ↔ s[0] = 34 := by
  rw [cons_of s h]
  simp
theorem nameR_qno {l r : List UInt8} (hT : l = 34 :: r) (h : unqL false [] r = none) : nameR l = none := by
  rw [hT, nameR_q, h]
theorem nameR_qyes {l r a r' : List UInt8} (hT : l = 34 :: r) (h : unqL false [] r = some (a, r')) : nameR l = if quoteL a ++ r' = l then some (a, r') else none := by
  rw [hT, nameR_q, h]
theorem quoted_is (A : ByteArray) (W : World) (h : A.size ≤ 1000000) : Calls Tryz.prog 37 #[.string A] W fun e w' => e = .returned (.string ⟨(quoteL A.data.toList).toArray⟩) ∧ Below W.heap.size W w' :=
  (refQuotedT_any A W (by omega)).mono fun e w' ⟨T, he, hT, hw⟩ => ⟨by rw [he]; exact ret_str (bytes_eq (by rw [hT])), by rw [← hw]; exact Below.refl _ _⟩
theorem take_drop_eq {l a : List UInt8} {i : Nat} (h : a ++ l.drop i = l) : a = l.take i := by
  have h2 : a ++ l.drop i = l.take i ++ l.drop i := by rw [h, List.take_append_drop]
  exact List.append_cancel_right h2
theorem nameR_un {l : List UInt8} (h : l.head? ≠ some 34) : nameR l = if l.takeWhile (· != 32) ≠ [] ∧ (l.takeWhile (· != 32)).all atomB = true then some (l.takeWhile (· != 32), l.dropWhile (· != 32)) else none := by
  cases l with
  | nil => rfl
  | cons x r => exact nameR_a (fun e => h (by rw [e]; rfl))
theorem until32 {s : ByteArray} {i : Nat} (h : ∀ c ∈ s.data.toList.take i, (c != 32) = true) (hs : s.size ≤ i ∨ ∃ h : i < s.size, s[i] = 32) : s.data.toList.takeWhile (· != 32) = s.data.toList.take i ∧ s.data.toList.dropWhile (· != 32) = s.data.toList.drop i := by
  have hh := takeWhile_stop (· != 32) (s.data.toList.take i) (s.data.toList.drop i) (List.all_eq_true.2 h) (by
    intro x hx
    rcases hs with h | ⟨h, e⟩
    · rw [List.drop_eq_nil_of_le (by rw [len_toList]; exact h)] at hx
      cases hx
    · rw [drop_cons s i h, e] at hx
      cases hx
      rfl)
  rw [List.take_append_drop] at hh
  exact hh
set_option maxRecDepth 100000 in
set_option maxHeartbeats 16000000 in
theorem refNames_any (s : ByteArray) (w : World) (hl : s.size ≤ 1000000) :
    Calls Tryz.prog 21 #[.string s] w (NmsRs w (nmsR (s.size + 1) s.data.toList [])) := by
  obtain ⟨i0, hi, hz⟩ := Option.map_eq_some_iff.1 Tryz.infoStr
  simp only [Prod.mk.injEq] at hz
  obtain ⟨hz0, hz1, hz2⟩ := hz
  obtain ⟨O, hO⟩ : ∃ O, O = nmsR (s.size + 1) s.data.toList [] := ⟨_, rfl⟩
  rw [← hO]
  have HOe := Lib.hid hO.symm
  have HQu := Lib.hid (fun (A : ByteArray) W (h : A.size ≤ 1000000) => refQuotedT_any A W (by omega))
  have HNm := Lib.hid (fun (A : ByteArray) W (h : A.size ≤ 1000000) => refName_sec A W (by omega))
  clear hO
  go_enter Tryz.func21, Tryz.ntmps21
  go_wp2_with fail
  go_loopg [0, 4] s.size (fun q sv ov wr => ∃ (T : ByteArray) (acc : List (List UInt8)) (ao : Option Addr) (c : Nat), sv = .string T ∧ ov = .slice ao acc.length c ∧ q = T.size ∧ acc.length + T.size ≤ s.size ∧ Hid (wr.ownsRow w.heap.size 9 1 (.slice ao acc.length c) acc.length (acc.map strV)) ∧ Hid (Below w.heap.size w wr) ∧ Hid (∃ n, T.size < n ∧ nmsR n T.data.toList acc = O))
  case atStart => exact ⟨s, [], none, 0, rfl, rfl, rfl, by simp, ⟨rfl, .inl ⟨rfl, rfl⟩⟩, Below.refl _ _, ⟨_, Nat.lt_succ_self _, HOe.out⟩⟩
  case round =>
    obtain ⟨T, acc, ao, cp, rfl, rfl, rfl, hal, HO, HB, HS⟩ := hrel
    obtain ⟨n, hn, hask⟩ := HS.out
    obtain ⟨n, rfl⟩ : ∃ m, n = m + 1 := ⟨n - 1, by omega⟩
    have HN := Lib.hid hn
    have HA := Lib.hid hask
    clear hn hask HS
    have HBad : Hid (nameR T.data.toList = none → O = none) := fun h => by rw [← HA.out, nmsR_no h]
    go_upto_region 4 with fail
    go_cut [13] (fun v13 wx => v13 = .bool (decide (T.data.toList.head? = some 34)) ∧ wr = wx)
    case first =>
      by_cases h0 : T.size = 0
      · have e0 : T.toList.isEmpty = true := by rw [List.isEmpty_iff]; exact (toList_nil_iff T).2 h0
        have HE : Hid (decide (T.data.toList.head? = some 34) = false) := by
          have : T.data.toList = [] := List.eq_nil_of_length_eq_zero (by rw [len_toList]; exact h0)
          unfold Hid
          rw [this]
          rfl
        go_wp2_with fail
        go_meet
        exact ⟨by rw [HE.out], rfl⟩
      · have h0p : 0 < T.size := by omega
        have e0 : T.toList.isEmpty = false := by rw [List.isEmpty_eq_false_iff]; exact fun h => h0 ((toList_nil_iff T).1 h)
        by_cases hq : T[0] = 34
        · have b34 : ((T[0].toNat : Int) == 34) = true := beq_yes (by rw [hq]; rfl)
          have HE : Hid (decide (T.data.toList.head? = some 34) = true) := decide_eq_true ((head34 h0p).2 hq)
          clear hq
          go_wp2_with fail
          go_meet
          exact ⟨by rw [HE.out], rfl⟩
        · have b34 : ((T[0].toNat : Int) == 34) = false := beq_no (fun e => hq (toNat_eq (by have : (34 : UInt8).toNat = 34 := rfl; omega)))
          have HE : Hid (decide (T.data.toList.head? = some 34) = false) := decide_eq_false (fun h => hq ((head34 h0p).1 h))
          clear hq
          go_wp2_with fail
          go_meet
          exact ⟨by rw [HE.out], rfl⟩
    case rest =>
      obtain ⟨rfl, rfl⟩ := hcut
      go_upto_if 13 with fail
      go_cut [5, 6] (fun v5 v6 wx => ∃ (i : Nat) (N : ByteArray), v5 = .int .i64 (i : Int) ∧ v6 = .string N ∧ i ≤ T.size ∧ N.size ≤ T.size ∧ Hid (nameR T.data.toList = some (N.data.toList, T.data.toList.drop i)) ∧ Hid (wx.ownsRow w.heap.size 9 1 (.slice ao acc.length cp) acc.length (acc.map strV)) ∧ Hid (Below w.heap.size w wx))
      case first =>
        by_cases hq : T.data.toList.head? = some 34
        · have h0p : 0 < T.size := by
            rw [← len_toList]
            cases h : T.data.toList with
            | nil => rw [h] at hq; cases hq
            | cons a l => simp
          have hT : T.data.toList = 34 :: T.data.toList.drop 1 := by
            have := cons_of T h0p
            rw [(head34 h0p).1 hq] at this
            exact this
          have HT := Lib.hid hT
          have HQ1 : Hid (decide (T.data.toList.head? = some 34) = true) := decide_eq_true hq
          obtain ⟨U, hU⟩ : ∃ U, U = unqL false [] (T.data.toList.drop 1) := ⟨_, rfl⟩
          have HU := Lib.hid hU.symm
          have HNo : Hid (U = none → nameR T.data.toList = none) := fun h => nameR_qno hT (by rw [← hU, h])
          have HYes : Hid (∀ a r', U = some (a, r') → nameR T.data.toList = if quoteL a ++ r' = T.data.toList then some (a, r') else none) := fun a r' h => nameR_qyes hT (by rw [← hU, h])
          clear hU
          rw [HQ1.out]
          clear hT hq HQ1
          go_wp2_with fail
          go_loopg [5, 6] T.size (fun q iv nv wx => ∃ (i : Nat) (N : ByteArray), iv = .int .i64 (i : Int) ∧ nv = .string N ∧ q = T.size + 1 - i ∧ N.size ≤ i ∧ i ≤ T.size + 1 ∧ Hid ((i ≤ T.size ∧ unqL false N.data.toList (T.data.toList.drop i) = U) ∨ (i = T.size + 1 ∧ U = none)) ∧ wr = wx)
          case atStart => exact ⟨1, ⟨#[]⟩, rfl, rfl, by omega, by decide, by omega, .inl ⟨by omega, HU.out⟩, rfl⟩
          case round =>
            obtain ⟨i, N, rfl, rfl, rfl, hNi, hiT, HR, rfl⟩ := hrel
            by_cases hlt : i < T.size
            · have hin : (i : Int) < (T.size : Int) := by omega
              have hdr := drop_cons T i hlt
              have HRl : Hid (unqL false N.data.toList (T.data.toList.drop i) = U) := by
                rcases HR.out with h | h
                · exact h.2
                · omega
              by_cases h34 : T[i] = 34
              · have b34 : ((T[i].toNat : Int) != 34) = false := bne_no (by rw [h34]; rfl)
                have HUs : Hid (U = some (N.data.toList, T.data.toList.drop (i + 1))) := by
                  unfold Hid
                  rw [← HRl.out, hdr, h34, unqL_stop]
                have HNe := Lib.hid (HYes.out _ _ HUs.out)
                obtain ⟨Q, hQ⟩ : ∃ Q : ByteArray, Q = ⟨(quoteL N.data.toList).toArray⟩ := ⟨_, rfl⟩
                have HQc : Hid (∀ z : BW wr, _) := fun z => quoted_is N z.v (by omega)
                rw [← hQ] at HQc
                have hQl : Q.data.toList = quoteL N.data.toList := by rw [hQ]
                have hi1 : (i : Int) + 1 ≤ (T.size : Int) := by omega
                have hng : ¬ (T.size : Int) < (i : Int) + 1 := by omega
                have dng : decide ((T.size : Int) < (i : Int) + 1) = false := decide_eq_false hng
                have hex : (T.extract 0 (i + 1)).data.toList = T.data.toList.take (i + 1) := by rw [extract_toList, List.drop_zero, Nat.sub_zero]
                by_cases hqe : quoteL N.data.toList = T.data.toList.take (i + 1)
                · have bQ : (Q.toList == (T.extract 0 (i + 1)).toList) = true := by
                    rw [ByteArray.toList_eq, ByteArray.toList_eq, hQl, hex, hqe]
                    simp
                  have bQ2 : (Q.toList != (T.extract 0 (i + 1)).toList) = false := by
                    rw [ByteArray.toList_eq, ByteArray.toList_eq, hQl, hex, hqe]
                    simp
                  have HNy : Hid (nameR T.data.toList = some (N.data.toList, T.data.toList.drop (i + 1))) := by
                    unfold Hid
                    rw [HNe.out, if_pos]
                    rw [hqe, List.take_append_drop]
                  clear hQ hQl hex hqe h34 hdr HR HRl HUs HNe
                  go_wp2_with fail
                  refine wp_region_below (by kernel_rfl) (by kernel_rfl) ?_
                  repeat (go_big_quiet_step (first | (go_at_call 37; with_reducible exact BW.calls (HQc.out _))))
                  refine wpQuiet_nil ?_
                  rintro W2 ⟨⟨_, hb2⟩, rfl⟩
                  have HB2 := Lib.hid (HB.out.trans (hb2.mono HB.out.size))
                  have HO2 := Lib.hid (ownsRow_below HO.out hb2)
                  clear hb2
                  go_wp2_with fail
                  go_meet
                  exact ⟨i + 1, N, by go_num, rfl, by omega, by omega, HNy.out, HO2.out, HB2.out⟩
                · have bQ : (Q.toList == (T.extract 0 (i + 1)).toList) = false := by
                    rw [beq_eq_false_iff_ne, ByteArray.toList_eq, ByteArray.toList_eq, hQl, hex]
                    exact hqe
                  have bQ2 : (Q.toList != (T.extract 0 (i + 1)).toList) = true := by
                    rw [bne_iff_ne, ByteArray.toList_eq, ByteArray.toList_eq, hQl, hex]
                    exact hqe
                  have HE : Hid (O = none) := by
                    apply HBad.out
                    rw [HNe.out, if_neg]
                    intro e
                    exact hqe (take_drop_eq e)
                  clear hQ hQl hex hqe h34 hdr HR HRl HUs HNe
                  go_wp2_with fail
                  refine wp_region_below (by kernel_rfl) (by kernel_rfl) ?_
                  repeat (go_big_quiet_step (first | (go_at_call 37; with_reducible exact BW.calls (HQc.out _))))
                  refine wpQuiet_nil ?_
                  rintro W2 ⟨⟨_, hb2⟩, rfl⟩
                  have HB2 := Lib.hid (HB.out.trans (hb2.mono HB.out.size))
                  clear hb2
                  go_wp2_with fail
                  go_ret2
                  rw [HE.out]
                  exact ⟨rfl, HB2.out⟩
              · have b34 : ((T[i].toNat : Int) != 34) = true := bne_yes (fun e => h34 (toNat_eq (by have : (34 : UInt8).toNat = 34 := rfl; omega)))
                by_cases h92 : T[i] = 92
                · have b92 : ((T[i].toNat : Int) == 92) = true := beq_yes (by rw [h92]; rfl)
                  by_cases hlt2 : i + 1 < T.size
                  · have hdr2 := drop_cons T (i + 1) hlt2
                    have hin2 : (i : Int) + 1 < (T.size : Int) := by omega
                    have hin3 : (i : Int) + 1 + 1 ≤ (T.size : Int) := by omega
                    have HS : Hid (unqL false (N ++ T.extract (i + 1) (i + 1 + 1)).data.toList (T.data.toList.drop (i + 1 + 1)) = U) := by
                      unfold Hid
                      rw [← HRl.out, hdr, hdr2, h92, unqL_stroke, cat_toList, extract_toList, hdr2]
                      simp
                    clear h34 h92 hdr hdr2 HR HRl
                    go_wp2_with fail
                    go_roundg (T.size + 1 - (i + 1 + 1))
                    case measure => omega
                    case rel => exact ⟨i + 1 + 1, _, by go_num, rfl, rfl, by rw [ByteArray.size_append, extract_len]; omega, by omega, .inl ⟨by omega, HS.out⟩, rfl⟩
                  · have hin2 : ¬ (i : Int) + 1 < (T.size : Int) := by omega
                    have HU0 : Hid (U = none) := by
                      unfold Hid
                      rw [← HRl.out, hdr, h92, List.drop_eq_nil_of_le (by rw [len_toList]; omega), unqL_stroke_end]
                    clear h34 h92 hdr HR HRl
                    go_wp2_with fail
                    go_roundg (T.size + 1 - (i + 1 + 1))
                    case measure => omega
                    case rel => exact ⟨i + 1 + 1, _, by go_num, rfl, rfl, by omega, by omega, .inr ⟨by omega, HU0.out⟩, rfl⟩
                · have b92 : ((T[i].toNat : Int) == 92) = false := beq_no (fun e => h92 (toNat_eq (by have : (92 : UInt8).toNat = 92 := rfl; omega)))
                  have hin3 : (i : Int) + 1 ≤ (T.size : Int) := by omega
                  have HS : Hid (unqL false (N ++ T.extract i (i + 1)).data.toList (T.data.toList.drop (i + 1)) = U) := by
                    unfold Hid
                    rw [← HRl.out, hdr, unqL_plain _ _ _ h34 h92, cat_toList, extract_toList, hdr]
                    simp
                  clear h34 h92 hdr HR HRl
                  go_wp2_with fail
                  go_roundg (T.size + 1 - (i + 1))
                  case measure => omega
                  case rel => exact ⟨i + 1, _, by go_num, rfl, rfl, by rw [ByteArray.size_append, extract_len]; omega, by omega, .inl ⟨by omega, HS.out⟩, rfl⟩
            · have hin : ¬ (i : Int) < (T.size : Int) := by omega
              have hgt : (T.size : Int) < (i : Int) + 1 := by omega
              have HE : Hid (O = none) := by
                apply HBad.out
                apply HNo.out
                rcases HR.out with h | h
                · rw [← h.2, List.drop_eq_nil_of_le (by rw [len_toList]; omega), unqL_end]
                · exact h.2
              clear HR
              go_wp2_with fail
              refine wp_region_below (by kernel_rfl) (by kernel_rfl) ?_
              repeat (go_big_quiet_step (fail))
              refine wpQuiet_nil ?_
              rintro W2 ⟨⟨_, hb2⟩, rfl⟩
              have HB2 := Lib.hid (HB.out.trans (hb2.mono HB.out.size))
              clear hb2
              go_wp2_with fail
              go_ret2
              rw [HE.out]
              exact ⟨rfl, HB2.out⟩
        · have HQ1 : Hid (decide (T.data.toList.head? = some 34) = false) := decide_eq_false hq
          have HNu := Lib.hid (nameR_un hq)
          rw [HQ1.out]
          clear hq HQ1
          go_wp2_with fail
          go_loopg [5] T.size (fun q iv wx => ∃ i : Nat, i ≤ T.size ∧ q = T.size - i ∧ iv = .int .i64 (i : Int) ∧ Hid (∀ c ∈ T.data.toList.take i, (c != 32) = true) ∧ wr = wx)
          case atStart => exact ⟨0, by omega, by omega, rfl, (by unfold Hid; simp), rfl⟩
          case round =>
            obtain ⟨i, hiT, rfl, rfl, HW, rfl⟩ := hrel
            by_cases hgo : ∃ h : i < T.size, T[i] ≠ 32
            · obtain ⟨hlt, hne⟩ := hgo
              have hin : (i : Int) < (T.size : Int) := by omega
              have b32 : ((T[i].toNat : Int) != 32) = true := bne_yes (fun e => hne (toNat_eq (by have : (32 : UInt8).toNat = 32 := rfl; omega)))
              have HW2 : Hid (∀ c ∈ T.data.toList.take (i + 1), (c != 32) = true) := by
                intro c hc
                have e : T.data.toList.take (i + 1) = T.data.toList.take i ++ [T[i]] := by
                  have hl : i < T.data.toList.length := by rw [len_toList]; exact hlt
                  rw [List.take_succ_eq_append_getElem hl]
                  rfl
                rw [e] at hc
                rcases List.mem_append.1 hc with h | h
                · exact HW.out c h
                · rw [List.mem_singleton.1 h]
                  exact bne_iff_ne.2 hne
              clear hne
              go_wp2_with fail
              go_roundg (T.size - (i + 1))
              case measure => omega
              case rel => exact ⟨i + 1, by omega, rfl, by go_num, HW2.out, rfl⟩
            · have hst : T.size ≤ i ∨ ∃ h : i < T.size, T[i] = 32 := by
                by_cases hlt : i < T.size
                · right
                  exact ⟨hlt, Classical.byContradiction (fun e => hgo ⟨hlt, e⟩)⟩
                · left
                  omega
              have hu := until32 HW.out hst
              have HNv : Hid (nameR T.data.toList = if T.data.toList.take i ≠ [] ∧ (T.data.toList.take i).all atomB = true then some (T.data.toList.take i, T.data.toList.drop i) else none) := by
                unfold Hid
                rw [HNu.out, hu.1, hu.2]
              obtain ⟨M, hM⟩ : ∃ M, M = T.extract 0 i := ⟨_, rfl⟩
              have hMl : M.data.toList = T.data.toList.take i := by rw [hM, extract_toList, List.drop_zero, Nat.sub_zero]
              have hMs : M.size ≤ T.size := by rw [hM, extract_len]; omega
              rw [← hMl] at HNv
              have HMe := Lib.hid hM.symm
              have HNM := Lib.hid (HNm.out M wr (by omega))
              have HSame := Lib.hid (nameT_same M.data.toList)
              have hiI : (i : Int) ≤ (T.size : Int) := by omega
              clear hu hM hMl hgo
              have key : ∀ V : ByteArray, V.data.toList = nameT M.data.toList → ((V.toList == M.toList) = true ∧ (V.toList != M.toList) = false ∧ nameR T.data.toList = some (M.data.toList, T.data.toList.drop i)) ∨ ((V.toList == M.toList) = false ∧ (V.toList != M.toList) = true ∧ nameR T.data.toList = none) := by
                intro V hV
                rw [ByteArray.toList_eq, ByteArray.toList_eq, hV]
                by_cases hs : nameT M.data.toList = M.data.toList
                · left
                  refine ⟨by rw [hs]; simp, by rw [hs]; simp, ?_⟩
                  rw [HNv.out, if_pos (HSame.out.1 hs)]
                · right
                  refine ⟨by rw [beq_eq_false_iff_ne]; exact hs, by rw [bne_iff_ne]; exact hs, ?_⟩
                  rw [HNv.out, if_neg (fun h => hs (HSame.out.2 h))]
              have HKey := Lib.hid key
              clear key
              rcases hst with hge | ⟨hlt, h32⟩
              · have hin : ¬ (i : Int) < (T.size : Int) := by omega
                go_wp2_with fail
                rw [HMe.out]
                with_reducible refine HNM.out.mono ?_
                rintro e w5 ⟨V, rfl, hV, rfl⟩
                rcases HKey.out V hV with ⟨b1, b2, h3⟩ | ⟨b1, b2, h3⟩
                · have HNy := Lib.hid h3
                  clear hV h3
                  go_wp2_with fail
                  go_meet
                  exact ⟨i, M, rfl, rfl, hiT, hMs, HNy.out, HO.out, HB.out⟩
                · have HE := Lib.hid (HBad.out h3)
                  clear hV h3
                  go_wp2_with fail
                  go_ret2
                  rw [HE.out]
                  exact ⟨rfl, HB.out⟩
              · have hin : (i : Int) < (T.size : Int) := by omega
                have b32 : ((T[i].toNat : Int) != 32) = false := bne_no (by rw [h32]; rfl)
                clear h32
                go_wp2_with fail
                rw [HMe.out]
                with_reducible refine HNM.out.mono ?_
                rintro e w5 ⟨V, rfl, hV, rfl⟩
                rcases HKey.out V hV with ⟨b1, b2, h3⟩ | ⟨b1, b2, h3⟩
                · have HNy := Lib.hid h3
                  clear hV h3
                  go_wp2_with fail
                  go_meet
                  exact ⟨i, M, rfl, rfl, hiT, hMs, HNy.out, HO.out, HB.out⟩
                · have HE := Lib.hid (HBad.out h3)
                  clear hV h3
                  go_wp2_with fail
                  go_ret2
                  rw [HE.out]
                  exact ⟨rfl, HB.out⟩
      case rest =>
        obtain ⟨i, N, rfl, rfl, hiT, hNs, HNr, HO2, HB2⟩ := hcut
        have HZ2 : Hid (w.heap.size ≤ wc.heap.size) := HB2.out.size
        go_wp2_with (at_builtin; refine wpList_append_own _ rfl _ _ 24 rfl w.heap.size 9 i0 (.string ⟨#[]⟩) 1 16 Tryz.underlying24 hi hz0 hz1 hz2 rfl (by decide) _ _ _ rfl (HO2.out.alloc _) ⟨wc.heap.size, 0, none⟩ 1 1 [.string N] rfl rfl ?c1 ?c2 ?c3 ?c4 ?c5 ?_)
        case c1 => exact cell_one_new wc _ _
        case c2 => intro u hu; simp at hu; subst hu; rfl
        case c3 => unfold maxLen; omega
        case c4 => omega
        case c5 => have := HZ2.out; simp; omega
        intro v' w3 hown hgrow _
        have HO3 : Hid (w3.ownsRow w.heap.size 9 1 v' (acc ++ [N.data.toList]).length ((acc ++ [N.data.toList]).map strV)) := wsCast hown (by simp) (by simp [strV_of])
        have HB3 : Hid (Below w.heap.size w w3) := (HB2.out.alloc (by have := HZ2.out; omega) _).grown hgrow (by have := HZ2.out; simp; omega) (fun q hq => own_ge HO2.out q hq)
        clear hown hgrow
        obtain ⟨ao3, cp3, rfl⟩ := own_slice HO3.out
        have HLe : Hid ((acc ++ [N.data.toList]).length = acc.length + 1) := by unfold Hid; simp
        obtain ⟨ac3, hac3⟩ : ∃ a, a = acc ++ [N.data.toList] := ⟨_, rfl⟩
        have HAc := Lib.hid hac3
        rw [← hac3] at HO3 HLe ⊢
        clear hac3
        by_cases hend : i = T.size
        · have be : ((i : Int) == (T.size : Int)) = true := beq_yes (by omega)
          have HE : Hid (O = some ac3) := by
            unfold Hid
            rw [← HA.out, HAc.out]
            refine nmsR_end ?_
            rw [HNr.out, List.drop_eq_nil_of_le (by rw [len_toList]; omega)]
          clear hend
          go_wp2_with fail
          go_ret2
          rw [HE.out]
          exact ⟨ao3, cp3, rfl, HO3.out, HB3.out⟩
        · have be : ((i : Int) == (T.size : Int)) = false := beq_no (by omega)
          have hlt : i < T.size := by omega
          have hin : (i : Int) < (T.size : Int) := by omega
          have hdr := drop_cons T i hlt
          by_cases h32 : T[i] = 32
          · have b32 : ((T[i].toNat : Int) != 32) = false := bne_no (by rw [h32]; rfl)
            have hin3 : (i : Int) + 1 ≤ (T.size : Int) := by omega
            obtain ⟨B, hB⟩ : ∃ B, B = T.extract (i + 1) T.size := ⟨_, rfl⟩
            have hBl : B.data.toList = T.data.toList.drop (i + 1) := by
              rw [hB, extract_toList, List.take_of_length_le (by rw [List.length_drop, len_toList]; omega)]
            have hBs : B.size = T.size - (i + 1) := by rw [← len_toList, hBl, List.length_drop, len_toList]
            have HS : Hid (nmsR n B.data.toList ac3 = O) := by
              unfold Hid
              rw [← HA.out, HAc.out, hBl]
              refine (nmsR_more ?_).symm
              rw [HNr.out, hdr, h32]
            have HBe := Lib.hid hB.symm
            clear hend h32 hdr hB hBl
            go_wp2_with fail
            rw [HBe.out]
            go_roundg B.size
            case measure => omega
            case rel => exact ⟨B, ac3, ao3, cp3, rfl, rfl, rfl, by rw [HLe.out]; omega, HO3.out, HB3.out, ⟨n, by have := HN.out; omega, HS.out⟩⟩
          · have b32 : ((T[i].toNat : Int) != 32) = true := bne_yes (fun e => h32 (toNat_eq (by have : (32 : UInt8).toNat = 32 := rfl; omega)))
            have HE : Hid (O = none) := by
              unfold Hid
              rw [← HA.out]
              refine nmsR_bad (x := T[i]) (a := N.data.toList) (r := T.data.toList.drop (i + 1)) ?_ h32
              rw [HNr.out, hdr]
            clear hend h32 hdr
            go_wp2_with fail
            go_ret2
            rw [HE.out]
            exact ⟨rfl, HB3.out⟩
end Go.Proofs.YthcleaflhljdlaaGreatDoor
