/- The document's functions of layer 11: month. -/
import Derived.Test.YtpmjlhpbknppiaaDoorDrC
namespace Go.Proofs.YtpmjlhpbknppiaaDoor
open Go Go.RowKit

def monR (l : List UInt8) : Nat := (((List.range 12).find? (fun i => decide (foldS (monN i).data.toList = foldS l))).map (· + 1)).getD 0
theorem monR_hit {l : List UInt8} {i : Nat} (h : i < 12) (he : foldS (monN i).data.toList = foldS l) (hn : ∀ j, j < i → ¬ foldS (monN j).data.toList = foldS l) : monR l = i + 1 := by
  unfold monR
  rw [List.find?_range_eq_some.2 ⟨decide_eq_true he, List.mem_range.2 h, fun j hj => by rw [decide_eq_false (hn j hj)]; rfl⟩]
  rfl
theorem monR_none {l : List UInt8} (hn : ∀ j, j < 12 → ¬ foldS (monN j).data.toList = foldS l) : monR l = 0 := by
  unfold monR
  rw [List.find?_eq_none.2 fun j hj => by rw [decide_eq_false (hn j (List.mem_range.1 hj))]; decide]
  rfl
theorem monR_le (l : List UInt8) : monR l ≤ 12 := by
  unfold monR
  cases h : (List.range 12).find? (fun i => decide (foldS (monN i).data.toList = foldS l)) with
  | none => exact Nat.zero_le _
  | some i =>
    have := List.mem_range.1 (List.mem_of_find?_eq_some h)
    show i + 1 ≤ 12
    omega
set_option maxRecDepth 100000 in
theorem refMonth_any (s : ByteArray) (hs : s.size ≤ 1000000000) (w : World) :
    Calls Tryd.prog 32 #[.string s] w fun e w' => e = .returned (.int .i64 (monR s.data.toList : Int)) ∧ Below w.heap.size w w' := by
  have HF := Lib.hid (fun w => refFold_any s w (by omega))
  obtain ⟨F, hF⟩ : ∃ F : ByteArray, F = ⟨(foldS s.data.toList).toArray⟩ := ⟨_, rfl⟩
  have HFl : Hid (F.data.toList = foldS s.data.toList) := by unfold Hid; rw [hF]
  rw [← hF] at HF
  clear hF
  go_enter Tryd.func32, Tryd.ntmps32
  go_wp2_with fail
  go_loopg [3] 12 (fun q xi wr => ∃ i : Nat, i ≤ 12 ∧ q = 12 - i ∧ xi = .int .i64 ((i + 1 : Nat) : Int) ∧ Hid (∀ j, j < i → ¬ foldS (monN j).data.toList = foldS s.data.toList) ∧ Hid (Below w.heap.size w wr))
  case atStart => exact ⟨0, by omega, by omega, by go_num, fun j hj => absurd hj (Nat.not_lt_zero _), Below.refl _ _⟩
  case round =>
    obtain ⟨i, hi, rfl, rfl, HN, HB⟩ := hrel
    obtain ⟨I, hI⟩ : ∃ I, I = i + 1 := ⟨_, rfl⟩
    rw [← hI]
    by_cases hlt : i < 12
    · have j1 : decide ((I : Int) < 13) = true := decide_eq_true (by omega)
      have HNm := Lib.hid (fun w => refName_any i I hlt hI w)
      have hml := monN_size i hlt
      have HG := Lib.hid (fun w => refFold_any (monN i) w (by omega))
      obtain ⟨G, hG⟩ : ∃ G : ByteArray, G = ⟨(foldS (monN i).data.toList).toArray⟩ := ⟨_, rfl⟩
      have HGl : Hid (G.data.toList = foldS (monN i).data.toList) := by unfold Hid; rw [hG]
      rw [← hG] at HG
      obtain ⟨M, hM⟩ : ∃ M, M = monN i := ⟨_, rfl⟩
      rw [← hM] at HNm HG
      have hI12 : I ≤ 12 := by omega
      have HIi := Lib.hid hI
      have HM := Lib.hid hM
      clear hG hM hI hml
      by_cases he : G.toList = F.toList
      · have hb : (G.toList == F.toList) = true := by rw [he]; exact beq_self_eq_true _
        have HR : Hid ((monR s.data.toList : Int) = (I : Int)) := by
          unfold Hid
          rw [ByteArray.toList_eq, ByteArray.toList_eq] at he
          rw [monR_hit hlt (by rw [← HGl.out, he, HFl.out]) HN.out, HIi.out]
        go_wp2_with fail
        with_reducible refine (HNm.out _).mono ?_
        rintro e w1 ⟨rfl, rfl⟩
        go_wp2_with fail
        with_reducible refine (HG.out _).mono ?_
        rintro e w2 ⟨rfl, hb2⟩
        replace HB := Lib.hid (HB.out.trans (hb2.mono HB.out.size))
        clear hb2
        go_wp2_with fail
        with_reducible refine (HF.out _).mono ?_
        rintro e w3 ⟨rfl, hb2⟩
        replace HB := Lib.hid (HB.out.trans (hb2.mono HB.out.size))
        clear hb2
        go_wp2_with fail
        go_ret
        exact ⟨ret_int HR.out.symm, HB.out⟩
      · have hb : (G.toList == F.toList) = false := by rw [beq_eq_false_iff_ne]; exact he
        have HNn : Hid (∀ j, j < i + 1 → ¬ foldS (monN j).data.toList = foldS s.data.toList) := fun j hj => by
          rcases Nat.lt_or_ge j i with g | g
          · exact HN.out j g
          · obtain rfl : j = i := by omega
            rw [ByteArray.toList_eq, ByteArray.toList_eq, HGl.out, HFl.out] at he
            exact he
        go_wp2_with fail
        with_reducible refine (HNm.out _).mono ?_
        rintro e w1 ⟨rfl, rfl⟩
        go_wp2_with fail
        with_reducible refine (HG.out _).mono ?_
        rintro e w2 ⟨rfl, hb2⟩
        replace HB := Lib.hid (HB.out.trans (hb2.mono HB.out.size))
        clear hb2
        go_wp2_with fail
        with_reducible refine (HF.out _).mono ?_
        rintro e w3 ⟨rfl, hb2⟩
        replace HB := Lib.hid (HB.out.trans (hb2.mono HB.out.size))
        clear hb2
        go_wp2_with fail
        go_roundg (12 - (i + 1))
        case measure => omega
        case rel =>
          refine ⟨i + 1, by omega, rfl, ?_, HNn, HB⟩
          have := HIi.out
          go_num
    · have j1 : decide ((I : Int) < 13) = false := decide_eq_false (by omega)
      have HR : Hid ((monR s.data.toList : Int) = 0) := by
        unfold Hid
        obtain rfl : i = 12 := by omega
        rw [monR_none HN.out]
        rfl
      clear hI
      go_wp2_with fail
      go_ret
      exact ⟨ret_int HR.out.symm, HB.out⟩
end Go.Proofs.YtpmjlhpbknppiaaDoor
