/- Contracts of package date: months' names. -/
import Derived.Test.YtpmjlhpbknppiaaDoorDtC
import Derived.Test.YtpmjlhpbknppiaaDoorDtM
import Derived.Laws.Tables
namespace Go.Proofs.YtpmjlhpbknppiaaDoor
open Go Go.RowKit

def monA : Array Value := (monthsL.flatMap fun m => [.string ⟨m.1.toArray⟩, .int .i64 (m.2 : Int)]).toArray
def monN (i : Nat) : ByteArray := ⟨((monthsL.getD i ([], 0)).1).toArray⟩
def monD (i : Nat) : Nat := (monthsL.getD i ([], 0)).2
/-- The months' variable. -/
def mons (w : World) : Prop := ∃ t fr, w.heap[0]? = some (.cells monA t fr)
theorem mons.lt {w : World} (h : mons w) : 0 < w.heap.size := by
  obtain ⟨t, fr, h⟩ := h
  exact (Array.getElem?_eq_some_iff.1 h).1
theorem mons.lat {τ : Tg} {w w' : World} (h : mons w) (hl : Lt τ w w') (ho : Off τ 0) : mons w' := by
  have hlt := h.lt
  obtain ⟨t, fr, h⟩ := h
  exact ⟨t, fr, (hl.kept _ hlt ho).trans h⟩
theorem mons.below {w w' : World} (h : mons w) (hb : Below w.heap.size w w') : mons w' := by
  have hlt := h.lt
  obtain ⟨t, fr, h⟩ := h
  exact ⟨t, fr, (hb.block _ hlt).trans h⟩
theorem monSize : (Array.size monA) = 24 := by decide
set_option maxRecDepth 100000 in
theorem index_months (i : Nat) (h : i < 12) (W : World) : (Instr.index 64 (.agg monA) (.int .i64 (i : Int))).run Tryd.prog W = .ok (.agg #[.string (monN i), .int .i64 (monD i : Int)]) W := by
  rcases (by omega : i = 0 ∨ i = 1 ∨ i = 2 ∨ i = 3 ∨ i = 4 ∨ i = 5 ∨ i = 6 ∨ i = 7 ∨ i = 8 ∨ i = 9 ∨ i = 10 ∨ i = 11) with rfl | rfl | rfl | rfl | rfl | rfl | rfl | rfl | rfl | rfl | rfl | rfl <;> clear h <;> kernel_rfl
theorem monN_size (i : Nat) (h : i < 12) : (monN i).size = 3 := by
  match i, h with
  | 0, _ => rfl
  | 1, _ => rfl
  | 2, _ => rfl
  | 3, _ => rfl
  | 4, _ => rfl
  | 5, _ => rfl
  | 6, _ => rfl
  | 7, _ => rfl
  | 8, _ => rfl
  | 9, _ => rfl
  | 10, _ => rfl
  | 11, _ => rfl
theorem monN_at (i : Nat) (h : i < monthsL.length) : (monN i).data.toList = monthsL[i].1 := by
  unfold monN
  rw [List.getD_eq_getElem?_getD, List.getElem?_eq_getElem h]
  rfl
def monF (a : Nat × Nat) : Pf := fun σ l => if monI l < 12 then (some (l.drop 3), upd σ a (monI l : Int)) else (none, σ)

set_option maxRecDepth 100000 in
set_option maxHeartbeats 2000000 in
theorem monthName1_any (τ : Tg) (a : Nat × Nat) (ha : a ∈ τ) (B : Nat) (w : World) (h1 : w.cell? ⟨B, 0, none⟩ = some (.pointer (some ⟨a.1, a.2, none⟩))) (hm : mons w) (σ : Sg) (s : ByteArray) (hh : Holds τ w σ) (hs : s.size ≤ 9223372036854775807) :
    Calls Tryd.prog 45 #[.string s, .pointer (some ⟨B, 0, none⟩)] w fun e w' => Told (monF a σ s.data.toList).1 s.size e ∧ Lt τ w w' ∧ Holds τ w' (monF a σ s.data.toList).2 := by
  have hB : B < w.heap.size := World.block_lt_of_cell? _ _ h1
  have hal := hh.lt ha
  have HH := Lib.hid hh
  have HA := Lib.hid ha
  have HP := Lib.hid h1
  have Hlen := Lib.hid (len_toList s)
  have HI := Lib.hid index_months
  have hgl := hm.lt
  obtain ⟨t, fr, hg⟩ := hm
  have HG := Lib.hid hg
  obtain ⟨ab, ao⟩ := a
  simp only at hal
  clear hh ha h1 hg
  go_enter Tryd.func45, Tryd.ntmps45
  go_wp2_with (refine wpList_load_row rfl 64 (.global 0) rfl 0 rfl t monA fr (.array 12 63) HG.out Tryd.underlying64 rfl (by kernel_rfl) ?_)
  go_loopg [9] 12 (fun q xi wr => ∃ i : Nat, i ≤ 12 ∧ q = 12 - i ∧ xi = .int .i64 (i : Int) ∧ Hid (i ≤ monI s.data.toList) ∧ Hid (Below w.heap.size w wr))
  case atStart => exact ⟨0, by omega, by omega, rfl, Nat.zero_le _, Below.refl _ _⟩
  case round =>
    obtain ⟨i, hi, rfl, rfl, HE, HB⟩ := hrel
    by_cases hlt : i < 12
    · have hix := HI.out i hlt
      have hsz := monN_size i hlt
      have hat := monN_at i hlt
      obtain ⟨nm, hnm⟩ : ∃ nm, nm = monN i := ⟨_, rfl⟩
      obtain ⟨d, hd⟩ : ∃ d : Int, d = (monD i : Int) := ⟨_, rfl⟩
      rw [← hnm] at hix hsz hat
      rw [← hd] at hix
      have hszI : (nm.size : Int) = 3 := by omega
      have HT := Lib.hid hat
      clear hnm hd hat
      obtain ⟨W2, hW2⟩ : ∃ W2, W2 = wr.alloc (.cells #[.string nm, .int .i64 d] 63) := ⟨_, rfl⟩
      have HB2 : Hid (Below w.heap.size w W2) := by rw [hW2]; exact HB.out.alloc HB.out.size _
      have hcn : ∀ n, (W2.drewN n).cell? ⟨wr.heap.size, 0, none⟩ = some (.string nm) := fun n => by rw [hW2]; exact (cells_two_new wr 63 (.string nm) (.int .i64 d) 0 _ rfl)
      have hcn0 : W2.cell? ⟨wr.heap.size, 0, none⟩ = some (.string nm) := hcn 0
      have hwl : wr.heap.size < W2.heap.size := by rw [hW2]; simp
      by_cases h3 : 3 ≤ s.size
      · have h3i : decide ((3 : Int) ≤ (s.size : Int)) = true := decide_eq_true (by omega)
        have h3n : ¬ ((s.size : Int) < 3) := by omega
        have HS := Lib.hid (fun W => same_any (s.extract 0 3) nm W (by rw [extract_len]; omega))
        have hx3 : (s.extract 0 3).data.toList = s.data.toList.take 3 := by rw [extract_toList]; rfl
        rw [hx3, HT.out] at HS
        by_cases he : foldS (s.data.toList.take 3) = foldS (monthsL[i]'hlt).1
        · have HHit := Lib.hid (monI_hit HE.out hlt (by rw [Hlen.out]; exact h3) he)
          rw [decide_eq_true he] at HS
          clear he hx3
          go_wp2_with fail
          rw [← hW2]
          clear hW2
          go_quiet ((go_at_call 46; exact Calls.quiet_of (HS.out _)))
          obtain ⟨W3, hW3⟩ : ∃ W3, W3 = W2.drewN nq := ⟨_, rfl⟩
          have HB3 : Hid (Below w.heap.size w W3) := by rw [hW3]; exact HB2.out.trans ((below_drewN' nq).mono HB2.out.size)
          rw [← hW3]
          clear hcn hcn0 hW3
          have HH3 := Lib.hid (HH.out.below HB3.out)
          have ha3 := (HH3.out (ab, ao) HA.out).1
          have hf3 := (HH3.out (ab, ao) HA.out).2
          simp only at ha3 hf3
          have hp3 : W3.cell? ⟨B, 0, none⟩ = some (.pointer (some ⟨ab, ao, none⟩)) := (HB3.out.cell (p := ⟨B, 0, none⟩) hB).trans HP.out
          go_wp2_with fail
          go_ret2
          have HR : monF (ab, ao) σ s.data.toList = (some (s.data.toList.drop 3), upd σ (ab, ao) (i : Int)) := by
            unfold monF
            rw [HHit.out, if_pos hlt]
          rw [HR]
          refine ⟨⟨s.extract 3 s.size, rfl, ?_, ?_⟩, (Lt.of_below HB3.out).trans (Lt.set (a := (ab, ao)) HA.out _), HH3.out.set HA.out _⟩
          · intro l hl
            cases hl
            rw [extract_toList, List.take_of_length_le (by rw [List.length_drop, Hlen.out]; omega)]
          · rw [extract_len]
            omega
        · have HStep := Lib.hid (monI_step HE.out hlt (fun h => he h.2))
          rw [decide_eq_false he] at HS
          clear he hx3
          go_wp2_with fail
          rw [← hW2]
          clear hW2
          go_quiet ((go_at_call 46; exact Calls.quiet_of (HS.out _)))
          obtain ⟨W3, hW3⟩ : ∃ W3, W3 = W2.drewN nq := ⟨_, rfl⟩
          have HB3 : Hid (Below w.heap.size w W3) := by rw [hW3]; exact HB2.out.trans ((below_drewN' nq).mono HB2.out.size)
          rw [← hW3]
          clear hcn hcn0 hW3
          go_wp2_with fail
          go_roundg (12 - (i + 1))
          case measure => omega
          case rel => exact ⟨i + 1, by omega, rfl, by first | rfl | (congr 1), HStep.out, HB3.out⟩
      · have h3i : decide ((3 : Int) ≤ (s.size : Int)) = false := decide_eq_false (by omega)
        have h3n : (s.size : Int) < 3 := by omega
        have HStep := Lib.hid (monI_step HE.out hlt (fun h => by rw [Hlen.out] at h; exact h3 h.1))
        go_wp2_with fail
        rw [← hW2]
        clear hW2
        go_quiet (fail)
        obtain ⟨W3, hW3⟩ : ∃ W3, W3 = W2.drewN nq := ⟨_, rfl⟩
        have HB3 : Hid (Below w.heap.size w W3) := by rw [hW3]; exact HB2.out.trans ((below_drewN' nq).mono HB2.out.size)
        rw [← hW3]
        clear hcn hcn0 hW3
        go_wp2_with fail
        go_roundg (12 - (i + 1))
        case measure => omega
        case rel => exact ⟨i + 1, by omega, rfl, by first | rfl | (congr 1), HStep.out, HB3.out⟩
    · obtain rfl : i = 12 := by omega
      go_wp2_with fail
      go_ret2
      have HR : monF (ab, ao) σ s.data.toList = (none, σ) := by
        unfold monF
        rw [if_neg (by have := HE.out; omega)]
      rw [HR]
      exact ⟨⟨s, rfl, (fun l h => by cases h), Nat.le_refl _⟩, Lt.of_below HB.out, HH.out.below HB.out⟩
set_option maxRecDepth 100000 in
theorem monthName_mk (τ : Tg) (b i : Nat) (ha : (b, i) ∈ τ) (w : World) (hl : Low τ w.heap.size) (hg : Off τ 0) (hm : mons w) :
    Calls Tryd.prog 17 #[.pointer (some ⟨b, i, none⟩)] w (MakesP τ w (monF (b, i))) := by
  unfold MakesP
  have HM := Lib.hid hm
  clear hm
  go_enter Tryd.func17, Tryd.ntmps17
  go_wp2
  go_ret
  refine ⟨_, _, rfl, ⟨45, #[.pointer (some ⟨w.heap.size, 0, none⟩)], rfl, enters_of Tryd.func45 (by kernel_rfl) rfl, ?_⟩, (Below.refl _ _).alloc (Nat.le_refl _) _⟩
  intro W σ s hL hH hs
  have ho : Off τ w.heap.size := hl.off (Nat.le_refl _)
  exact monthName1_any τ (b, i) ha _ W ((hL.cell (by simp) ho).trans (cell_new1 w _ _)) (HM.out.lat ((Lt.alloc w _).trans hL) hg) σ s hH hs
end Go.Proofs.YtpmjlhpbknppiaaDoor
