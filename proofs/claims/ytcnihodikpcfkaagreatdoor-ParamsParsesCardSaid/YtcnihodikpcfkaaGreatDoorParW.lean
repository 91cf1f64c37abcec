/- ParamsOnce. -/
import Derived.Test.YtcnihodikpcfkaaGreatDoorParV
namespace Go.Proofs.YtcnihodikpcfkaaGreatDoor
open Go Go.RowKit

theorem str_ne {a b : ByteArray} (h : ¬ a.data.toList = b.data.toList) : (a.toList == b.toList) = false := by
  rw [ByteArray.toList_eq, ByteArray.toList_eq]
  simpa using h
theorem lst_ne0 {b : ByteArray} (h : ¬ b.data.toList = []) : (b.toList == []) = false := by
  rw [ByteArray.toList_eq]
  simpa using h
theorem fine_byte {c : UInt8} (h : fineB c = true) : ((c.toNat : Int) == 42) = false ∧ (decide ((65 : Int) ≤ (c.toNat : Int)) = false ∨ (decide ((65 : Int) ≤ (c.toNat : Int)) = true ∧ decide ((c.toNat : Int) ≤ 90) = false)) := by
  unfold fineB at h
  simp only [Bool.not_eq_true', Bool.or_eq_false_iff, Bool.and_eq_false_iff, decide_eq_false_iff_not, beq_eq_false_iff_ne] at h
  obtain ⟨h1, h2⟩ := h
  refine ⟨beq_no fun e => h1 (toNat_eq (by show c.toNat = 42; omega)), ?_⟩
  by_cases h65 : 65 ≤ c.toNat
  · exact .inr ⟨decide_eq_true (by omega), decide_eq_false (by omega)⟩
  · exact .inl (decide_eq_false (by omega))

theorem baseL_len (l : List UInt8) : (baseL l).length ≤ l.length := (List.takeWhile_sublist _).length_le
theorem tokenL_rest (l : List UInt8) : (tokenL l).2.length ≤ l.length := by
  show ((sk l).drop _).length ≤ _
  rw [List.length_drop]
  exact Nat.le_trans (Nat.sub_le _ _) (skL_le l false 0)
theorem takeL_rest {c : UInt8} {l r : List UInt8} (h : takeL c l = some r) : r.length ≤ l.length := by
  have hs := skL_le l false 0
  have hs' : (sk l).length ≤ l.length := hs
  unfold takeL at h
  split at h
  · next x r' hx =>
    rw [hx] at hs'
    split at h
    · cases h
      simp at hs'
      omega
    · cases h
  · cases h
theorem joinL_short (n : Nat) (l : List UInt8) : ∀ q ∈ joinL (parsL n l), q.1.length ≤ l.length := by
  intro q hq
  obtain ⟨_, _, p, hp, h3⟩ := (join_names (parsL n l) (parsL n l) []).1 q hq
  rw [h3]
  exact Nat.le_trans (baseL_len _) (parsL_small n l p hp).1
theorem parse_short {l : List UInt8} {two : Bool} {V : Val} (h : parseL l two = some V) : ∀ q ∈ V.params, q.1.length ≤ l.length := by
  have ht := tokenL_rest l
  unfold parseL at h
  split at h
  · cases h
  · cases two with
    | false =>
      simp only [Bool.false_eq_true, if_false] at h
      cases h
      exact fun q hq => Nat.le_trans (joinL_short _ _ q hq) ht
    | true =>
      simp only [if_true] at h
      split at h
      · cases h
      · next u r hs =>
        cases h
        unfold subL at hs
        split at hs
        · cases hs
        · next r0 h0 =>
          split at hs
          · cases hs
          · cases hs
            have h1 := takeL_rest h0
            have h2 := tokenL_rest r0
            exact fun q hq => Nat.le_trans (joinL_short _ _ q hq) (by omega)

set_option maxRecDepth 100000 in
set_option maxHeartbeats 4000000 in
theorem paramsOnce_any (s : ByteArray) (two : Bool) (w : World) (hs : s.size ≤ 9223372036854775807) (he : env w) :
    Calls Tryz.prog 5 #[.string s, .bool two] w fun e w' => e = .returned (.bool true) ∧ Below w.heap.size w w' := by
  have HE := Lib.hid he
  have HAw := Lib.hid (awake_any w he)
  clear he
  go_enter Tryz.func5, Tryz.ntmps5
  go_wp2_with fail
  with_reducible refine HAw.out.mono ?_
  rintro e w1 ⟨rfl, hb1⟩
  have HB1 := Lib.hid hb1
  have HE1 := Lib.hid (HE.out.below hb1)
  clear hb1 HE HAw
  by_cases hl : 400 < s.size
  · go_wp2_with fail
    go_ret
    exact ⟨rfl, HB1.out⟩
  · cases hV : parseL s.data.toList two with
    | none =>
      have HP := Lib.hid (parse_none s two hV w1 (by omega) HE1.out)
      clear hV
      go_wp2_with fail
      with_reducible refine HP.out.mono ?_
      rintro e w2 ⟨a2, n2, c2, rfl, hpr, hb2⟩
      obtain ⟨_, cap, e0, h1, h2, _⟩ := hpr
      cases e0
      have HB2 := Lib.hid (HB1.out.trans (hb2.mono HB1.out.size))
      clear hb2 HB1 HE1 HP
      simp only [List.length_nil]
      go_wp2_with fail
      go_ret
      exact ⟨rfl, (HB2.out.alloc HB2.out.size _)⟩
    | some V =>
      have HO := Lib.hid (parse_once hV)
      have HSh := Lib.hid (parse_short hV)
      have HP := Lib.hid (parse_some s two V hV w1 (by omega) HE1.out)
      clear hV
      go_wp2_with fail
      with_reducible refine HP.out.mono ?_
      rintro e w2 ⟨a2, n2, c2, rfl, hpr, hb2⟩
      have HPr := Lib.hid hpr
      obtain ⟨_, cap, e0, hc1, hc2, hcell⟩ := hpr
      cases e0
      unfold maxLen at hc2
      have HB2 := Lib.hid (HB1.out.trans (hb2.mono HB1.out.size))
      have HC := Lib.hid hcell
      clear hb2 HB1 HE1 HP hcell
      obtain ⟨vt, vs, ps⟩ := V
      obtain ⟨T, hT⟩ : ∃ T : ByteArray, T = ⟨vt.toArray⟩ := ⟨_, rfl⟩
      obtain ⟨U, hU⟩ : ∃ U : ByteArray, U = ⟨vs.toArray⟩ := ⟨_, rfl⟩
      have hT0 : (T.toList == []) = false := lst_ne0 (by rw [hT]; exact HO.out.type)
      have hU0 : (U.toList == []) = !two := by
        have := HO.out.sub
        rw [ByteArray.toList_eq, hU]
        rw [← this]
        cases vs <;> rfl
      have HTU : Hid (T = ⟨vt.toArray⟩ ∧ U = ⟨vs.toArray⟩) := ⟨hT, hU⟩
      rw [← hT, ← hU]
      have hx : ∀ i, (h : i < ps.length) → ∃ g, a2 = some ⟨g, 0, none⟩ ∧ g < w2.heap.size ∧ w2.cell? ⟨g, i * 2, none⟩ = some (.string ⟨(ps[i]).1.toArray⟩) := by
        intro i h
        rcases HC.out with h0 | ⟨g, e, hg, hc⟩
        · change ps = [] at h0
          rw [h0] at h
          simp at h
        · exact ⟨g, e, hg, (hc i h).1⟩
      have HX := Lib.hid hx
      clear hT hU HC hx
      change ps.length ≤ c2 at hc1
      obtain ⟨N, hN⟩ : ∃ N, N = ps.length := ⟨_, rfl⟩
      have e0 : (⟨vt, vs, ps⟩ : Val).params.length = N := hN.symm
      simp only [e0]
      have HN := Lib.hid hN
      rw [← hN] at hc1
      clear hN e0
      go_wp2_with fail
      go_loopg [8] N (fun g v8 wr => ∃ k : Nat, g = N - k ∧ k ≤ N ∧ v8 = .int .i64 (k : Int) ∧ Hid (Below w2.heap.size w2 wr) ∧ w2.heap.size < wr.heap.size ∧ wr.cell? ⟨w2.heap.size, 0, none⟩ = some (.string T) ∧ wr.cell? ⟨w2.heap.size, 1, none⟩ = some (.string U) ∧ wr.cell? ⟨w2.heap.size, 2, none⟩ = some (.slice a2 N c2))
      case atStart =>
        obtain ⟨x0, x1, x2⟩ := box3_cells (t := 25) (Below.refl _ (w2.alloc (.cells #[.string T, .string U, .slice a2 N c2] 25)))
        exact ⟨0, by omega, by omega, rfl, (Below.refl _ _).alloc (Nat.le_refl _) _, by simp, x0, x1, x2⟩
      case round =>
        obtain ⟨k, rfl, hk, rfl, HB, hbk, x0, x1, x2⟩ := hrel
        by_cases hlt : k < N
        · have hlt' : k < ps.length := by rw [← HN.out]; exact hlt
          obtain ⟨g, rfl, hg, d0⟩ := HX.out k hlt'
          replace d0 := (HB.out.cell (p := ⟨g, k * 2, none⟩) hg).trans d0
          obtain ⟨hne, hfi⟩ := HO.out.name ps[k] (List.getElem_mem hlt')
          obtain ⟨S, hS⟩ : ∃ S : ByteArray, S = ⟨(ps[k]).1.toArray⟩ := ⟨_, rfl⟩
          have HS : Hid (S.data.toList = (ps[k]).1) := by unfold Hid; rw [hS]
          rw [← hS] at d0
          have hSs : S.size ≤ 400 := by
            have h1 : (ps[k]).1.length ≤ s.data.toList.length := HSh.out ps[k] (List.getElem_mem hlt')
            rw [← len_toList, HS.out]
            rw [len_toList] at h1
            omega
          rw [← HS.out] at hne hfi
          have q0 := lst_ne0 hne
          have HF : Hid (∀ j, (h : j < S.size) → fineB S[j] = true) := fun j h => List.all_eq_true.1 hfi S[j] (List.mem_of_getElem? (bytes_get S j h))
          clear hne hfi hS
          go_wp2_with fail
          go_loopg [10] S.size (fun q v10 wx => ∃ j : Nat, q = S.size - j ∧ j ≤ S.size ∧ v10 = .int .i64 (j : Int) ∧ wr = wx)
          case atStart => exact ⟨0, by omega, by omega, rfl, rfl⟩
          case round =>
            obtain ⟨j, rfl, hj, rfl, rfl⟩ := hrel
            by_cases hjl : j < S.size
            · obtain ⟨b1, b2⟩ := fine_byte (HF.out j hjl)
              rcases b2 with b2 | ⟨b2, b3⟩
              · go_wp2_with fail
                go_roundg (S.size - (j + 1))
                case measure => omega
                case rel => exact ⟨j + 1, rfl, by omega, by go_num, rfl⟩
              · go_wp2_with fail
                go_roundg (S.size - (j + 1))
                case measure => omega
                case rel => exact ⟨j + 1, rfl, by omega, by go_num, rfl⟩
            · go_wp2_with fail
              go_loopg [11] k (fun q v11 wx => ∃ j : Nat, q = k - j ∧ j ≤ k ∧ v11 = .int .i64 (j : Int) ∧ wr = wx)
              case atStart => exact ⟨0, by omega, by omega, rfl, rfl⟩
              case round =>
                obtain ⟨i, rfl, hi, rfl, rfl⟩ := hrel
                by_cases hik : i < k
                · have hil : i < ps.length := by have := HN.out; omega
                  have hkl : k < ps.length := by have := HN.out; omega
                  obtain ⟨g', e', hg', d1⟩ := HX.out i hil
                  cases e'
                  replace d1 := (HB.out.cell (p := ⟨g, i * 2, none⟩) hg').trans d1
                  obtain ⟨R, hR⟩ : ∃ R : ByteArray, R = ⟨(ps[i]).1.toArray⟩ := ⟨_, rfl⟩
                  have hRS : (R.toList == S.toList) = false := str_ne (by rw [hR, HS.out]; exact List.pairwise_iff_getElem.1 HO.out.once i k hil hkl hik)
                  rw [← hR] at d1
                  clear hR hil hkl
                  go_wp2_with fail
                  go_roundg (k - (i + 1))
                  case measure => omega
                  case rel => exact ⟨i + 1, rfl, by omega, by go_num, rfl⟩
                · go_wp2_with fail
                  go_roundg (N - (k + 1))
                  case measure => omega
                  case rel => exact ⟨k + 1, rfl, by omega, by go_num, HB, hbk, x0, x1, x2⟩
        · cases two with
          | false =>
            go_wp2_with fail
            go_ret
            exact ⟨rfl, HB2.out.trans (HB.out.mono HB2.out.size)⟩
          | true =>
            go_wp2_with fail
            go_ret
            exact ⟨rfl, HB2.out.trans (HB.out.mono HB2.out.size)⟩
end Go.Proofs.YtcnihodikpcfkaaGreatDoor
