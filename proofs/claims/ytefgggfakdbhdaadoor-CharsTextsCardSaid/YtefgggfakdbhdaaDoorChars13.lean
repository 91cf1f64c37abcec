/- The law CharsTexts: contract. -/
import Derived.Test.YtefgggfakdbhdaaDoorChars8
namespace Go.Proofs.YtefgggfakdbhdaaDoor
open Go Go.RowKit

theorem refNumber_same (s : ByteArray) (w : World) (hl : s.size ≤ 9223372036854775807) :
    Calls Tryd.prog 18 #[.string s] w fun e w' => e = .returned (.tuple #[.int .i64 ((numSpec s.data.toList).getD 0 : Nat), .bool (numSpec s.data.toList).isSome]) ∧ w = w' := refNumber_any s w hl
theorem number_same (s : ByteArray) (w : World) (hl : s.size ≤ 9223372036854775807) :
    Calls Tryd.prog 17 #[.string s] w fun e w' => e = .returned (.tuple #[.int .i64 ((numSpec s.data.toList).getD 0 : Nat), .bool (numSpec s.data.toList).isSome]) ∧ Below w.heap.size w w' := number_any s w hl

theorem fold_same (s : ByteArray) (w : World) (hl : s.size ≤ 9223372036854775807) :
    Calls Tryd.prog 21 #[.string s] w fun e w' => e = .returned (.string ⟨(foldS s.data.toList).toArray⟩) ∧ Below w.heap.size w w' := fold_any s w hl

set_option maxRecDepth 100000 in
theorem charsTexts_any (s t : ByteArray) (c : UInt8) (w : World) (hs : s.size ≤ 9223372036854775807) (ht0 : t.size ≤ 9223372036854775807) (ht : tab w) :
    Calls Tryd.prog 4 #[.string s, .string t, .int .u8 (c.toNat : Int)] w fun e w' => e = .returned (.bool true) ∧ Below w.heap.size w w' := by
  have HT := Lib.hid ht; clear ht
  have h3 : (¬ 500 < s.size ∧ ¬ 500 < t.size) ∨ 500 < s.size ∨ (¬ 500 < s.size ∧ 500 < t.size) := by omega
  rcases h3 with ⟨h1, h2⟩ | h1 | ⟨h1, h2⟩
  case inl =>
    have HN1 := Lib.hid (fun w => number_same s w hs)
    have HN2 := Lib.hid (fun w => refNumber_same s w hs)
    generalize (numSpec s.data.toList).getD 0 = N at HN1 HN2
    generalize (numSpec s.data.toList).isSome = is at HN1 HN2
    have hp2 : (splitS c s.data.toList).length ≤ s.size + 1 := by have := (splitAux_length c s.data.toList []).2; rw [len_toList] at this; exact this
    have hp1 : 1 ≤ (splitS c s.data.toList).length := (splitAux_length c _ _).1
    have HS := Lib.hid (fun w => split_any s c w (by omega))
    have HS2 := Lib.hid (fun w => refSplit_any s c w (by omega))
    generalize splitS c s.data.toList = ps at hp1 hp2 HS HS2
    have HF1 := Lib.hid (fun w => fold_any s w hs)
    have HF2 := Lib.hid (fun w => refFold_any s w (by omega))
    have HF3 := Lib.hid (fun w => refFold_any t w (by omega))
    have HSA := Lib.hid (fun w => same_any s t w hs)
    have HTR := Lib.hid (fun w => trim_any s w hs)
    have HTR2 := Lib.hid (fun w => refTrim_any s w hs)
    go_enter Tryd.func4, Tryd.ntmps4
    go_wp2_with fail
    refine (awake_any _ HT.out).mono ?_
    rintro e w1 ⟨rfl, hb1⟩
    have HB1 := Lib.hid hb1; clear hb1
    go_wp2_with fail
    refine (HN1.out _).mono ?_
    rintro e w2 ⟨rfl, hb2⟩
    have HB2 := Lib.hid (HB1.out.trans (hb2.mono HB1.out.size)); clear hb2 HB1
    go_wp2_with fail
    refine (HN2.out _).mono ?_
    rintro e w2' ⟨rfl, rfl⟩
    go_wp2_with fail
    refine (HS.out _).mono ?_
    rintro e w3 ⟨v, rfl, hown, hb3⟩
    obtain ⟨g, cap, rfl, hcap, hcm, hg1, hg2⟩ := ownsRow_slice hown hp1
    have HO := Lib.hid hown; clear hown
    have HB3 := Lib.hid (HB2.out.trans (hb3.mono HB2.out.size)); clear hb3 HB2
    go_wp2_with fail
    refine (HS2.out _).mono ?_
    rintro e w4 ⟨v2, rfl, hown2, hb4⟩
    obtain ⟨g2, cap2, rfl, hcap2, hcm2, hg12, hg22⟩ := ownsRow_slice hown2 hp1
    have HO2 := Lib.hid hown2; clear hown2
    have HO1 := Lib.hid (ownsRow_below HO.out hb4); clear HO
    have HB4 := Lib.hid (HB3.out.trans (hb4.mono HB3.out.size)); clear hb4 HB3
    go_wp2_with fail
    clear hg1 hg2 hg12 hg22
    go_loopg [14] ps.length (fun gk i wr => ∃ k : Nat, k ≤ ps.length ∧ gk = ps.length - k ∧ i = .int .i64 k ∧ Hid (∃ n, wr = w4.drewN n))
    case atStart => exact ⟨0, by omega, rfl, rfl, 0, rfl⟩
    case round =>
      obtain ⟨k, hk, rfl, rfl, HW⟩ := hrel
      by_cases hlt : k < ps.length
      · obtain ⟨Q, hQ⟩ : ∃ Q : ByteArray, Q = ⟨ps[k].toArray⟩ := ⟨_, rfl⟩
        have hc1 : wr.cell? ⟨g, k, none⟩ = some (.string Q) := by
          obtain ⟨n, rfl⟩ := HW.out
          rw [World.cell?_drewN, HO1.out.cellAt k (by omega), hQ]
          simp [hlt, strV]
        have hc2 : wr.cell? ⟨g2, k, none⟩ = some (.string Q) := by
          obtain ⟨n, rfl⟩ := HW.out
          rw [World.cell?_drewN, HO2.out.cellAt k (by omega), hQ]
          simp [hlt, strV]
        clear hQ
        go_wp2_with fail
        go_quiet (fail)
        go_wp2_with fail
        go_roundg (ps.length - (k + 1))
        case measure => omega
        case rel =>
          refine ⟨k + 1, by omega, rfl, by go_num, ?_⟩
          obtain ⟨n, rfl⟩ := HW.out
          exact ⟨n + nq, World.drewN_drewN _ _ _⟩
      · have HBr : Hid (Below w.heap.size w wr) := by
          obtain ⟨n, rfl⟩ := HW.out
          exact below_drewN HB4.out n
        clear HW HO1 HO2 HB4
        generalize foldS s.data.toList = A at HF1 HF2 HSA
        generalize foldS t.data.toList = B at HF3 HSA
        generalize trimS s.data.toList = C at HTR HTR2
        obtain ⟨q, hq⟩ : ∃ q, q = decide (A = B) := ⟨_, rfl⟩
        rw [← hq] at HSA
        have hq2 : (A == B) = q := by rw [hq, Bool.eq_iff_iff]; simp
        clear hq
        go_wp2_with fail
        refine (HF1.out _).mono ?_
        rintro e w5 ⟨rfl, hb5⟩
        have HB5 := Lib.hid (HBr.out.trans (hb5.mono HBr.out.size)); clear hb5 HBr
        go_wp2_with fail
        refine (HF2.out _).mono ?_
        rintro e w6 ⟨rfl, hb6⟩
        have HB6 := Lib.hid (HB5.out.trans (hb6.mono HB5.out.size)); clear hb6 HB5
        go_wp2_with fail
        refine (HSA.out _).mono ?_
        rintro e w7 ⟨rfl, n7, rfl⟩
        go_wp2_with fail
        refine (HF2.out _).mono ?_
        rintro e w8 ⟨rfl, hb8⟩
        have HB8 := Lib.hid ((below_drewN HB6.out n7).trans (hb8.mono HB6.out.size)); clear hb8 HB6
        go_wp2_with fail
        refine (HF3.out _).mono ?_
        rintro e w9 ⟨rfl, hb9⟩
        have HB9 := Lib.hid (HB8.out.trans (hb9.mono HB8.out.size)); clear hb9 HB8
        go_wp2_with fail
        refine (HTR.out _).mono ?_
        rintro e w10 ⟨rfl, rfl⟩
        go_wp2_with fail
        refine (HTR2.out _).mono ?_
        rintro e w10 ⟨rfl, rfl⟩
        go_wp2_with fail
        go_ret
        exact ⟨ret_bool (by simp), HB9.out⟩
  all_goals
    go_enter Tryd.func4, Tryd.ntmps4
    go_wp2_with fail
    refine (awake_any _ HT.out).mono ?_
    rintro e w1 ⟨rfl, hb1⟩
    have HB1 := Lib.hid hb1; clear hb1
    go_wp2
    go_ret
    exact ⟨rfl, HB1.out⟩
end Go.Proofs.YtefgggfakdbhdaaDoor
