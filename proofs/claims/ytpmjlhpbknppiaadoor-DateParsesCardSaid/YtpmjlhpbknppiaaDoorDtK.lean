/- Contracts of package date: moments of parts. -/
import Derived.Test.YtpmjlhpbknppiaaDoorDtJ
import Derived.Laws.Rows
import Derived.Laws.Tables
namespace Go.Proofs.YtpmjlhpbknppiaaDoor
open Go Go.RowKit

theorem results_cell_tmp {P : Program} {fn : Func} {p q : Tmp} {ty : TypeId} (h : fn.results = #[.cell p ty, .tmp q]) (tmps : Array Value) (w : World) (g : Nat) (t : TypeId) (cs : Array Value) (fr : Nat × Nat) (d : TypeDesc)
    (hp : tmps.getD p undef = .pointer (some ⟨g, 0, none⟩)) (hg : w.heap[g]? = some (.cells cs t fr))
    (hu : P.underlying ty = some d) (hd : (match d with | .struct _ | .array _ _ => true | _ => false) = true) (hi : (P.info? ty).map (·.size) = some cs.size) :
    (results fn tmps).run P w = .ok (.tuple #[.agg cs, tmps.getD q undef]) w := by
  have hp' : tmps[p]?.getD undef = .pointer (some ⟨g, 0, none⟩) := by simpa using hp
  simp [results, h, hp', asAddr, run_loadVar_row w g t ty cs fr d hg hu hd hi]

theorem two_set {w : World} {B : Nat} {a b : Value} {t : TypeId} (h : w.heap[B]? = some (.cells #[a, b] t (0, 0))) (x y : Value) : ((w.setCell ⟨B, 0, none⟩ x).setCell ⟨B, 1, none⟩ y).heap[B]? = some (.cells #[x, y] t (0, 0)) := by
  simp [World.setCell, Array.getElem?_modify, h]
def momV : Option (Int × Int) → Value
  | none => .tuple #[.agg #[.int .i64 0, .int .i64 0], .bool false]
  | some (a, z) => .tuple #[.agg #[.int .i64 a, .int .i64 z], .bool true]
/-- The moment of parts. -/
def momK (r : Option Int) (h mi s : Nat) (z : Int) : Option (Int × Int) := match r with
  | none => none
  | some n => if 23 < h ∨ 59 < mi ∨ 60 < s then none else some (n * 86400 + ((h : Int) * 3600 + ((mi : Int) - z) * 60 + (s : Int)), z)
def momentK (y m d h mi s : Nat) (z : Int) : Option (Int × Int) := momK (numberK y m d) h mi s z
def partA (y m d h mi s : Nat) (z : Int) : Array Value := #[.int .i64 (y : Int), .int .i64 (m : Int), .int .i64 (d : Int), .int .i64 (h : Int), .int .i64 (mi : Int), .int .i64 (s : Int), .int .i64 z]
theorem numberK_le {y m d : Nat} {n : Int} (hm : m < 12) (hd : d ≤ 100000) (h : numberK y m d = some n) : -719162 ≤ n ∧ n ≤ 3000000 := by
  unfold numberK at h
  split at h
  · cases h
  · next hc =>
    have h1 : ¬ y < 1 := fun e => hc (.inl e)
    have h2 : ¬ 9999 < y := fun e => hc (.inr (.inl e))
    have h3 : ¬ d < 1 := fun e => hc (.inr (.inr (.inl e)))
    have h4 : ¬ daysM y m < d := fun e => hc (.inr (.inr (.inr e)))
    have h5 := daysM_le y m
    have h6 := monSum_le y m
    have h7 : ahead y ≤ 3652059 := by unfold ahead; omega
    cases h
    omega

set_option maxRecDepth 100000 in
set_option maxHeartbeats 4000000 in
theorem moment_any (y m d h mi s : Nat) (z : Int) (hy : y ≤ 100000) (hm : m < 12) (hd : d ≤ 100000) (hh : h ≤ 100000) (hmi : mi ≤ 100000) (hs : s ≤ 100000) (hz0 : -100000 ≤ z) (hz1 : z ≤ 100000) (w : World) (hM : mons w) :
    Calls Tryd.prog 25 #[.agg (partA y m d h mi s z)] w fun e w' => e = .returned (momV (momentK y m d h mi s z)) ∧ Below w.heap.size w w' := by
  have HN := Lib.hid (fun w h => number_any' y m d hy hm hd w h)
  have HNl := Lib.hid (show ∀ n, numberK y m d = some n → -719162 ≤ n ∧ n ≤ 3000000 from fun n e => numberK_le hm hd e)
  have HM := Lib.hid hM
  obtain ⟨r, hr⟩ : ∃ r, r = numberK y m d := ⟨_, rfl⟩
  rw [← hr] at HN HNl
  have HR : Hid (momentK y m d h mi s z = momK r h mi s z) := by
    unfold Hid momentK
    rw [← hr]
  clear hM hr
  unfold partA
  go_enter Tryd.func25, Tryd.ntmps25
  go_wp2_with fail
  obtain ⟨W1, hW1⟩ : ∃ W1, W1 = w.alloc (.cells #[.int .i64 (y : Int), .int .i64 (m : Int), .int .i64 (d : Int), .int .i64 (h : Int), .int .i64 (mi : Int), .int .i64 (s : Int), .int .i64 z] 40) := ⟨_, rfl⟩
  obtain ⟨W2, hW2⟩ : ∃ W2, W2 = W1.alloc (.cells #[.int .i64 0, .int .i64 0] 24) := ⟨_, rfl⟩
  have hb1 : Below w.heap.size w W1 := by rw [hW1]; exact (Below.refl _ _).alloc (Nat.le_refl _) _
  have hs1 : W1.heap.size = w.heap.size + 1 := by rw [hW1]; simp
  have hb2 : Below W1.heap.size W1 W2 := by rw [hW2]; exact (Below.refl _ _).alloc (Nat.le_refl _) _
  have hs2 : W2.heap.size = w.heap.size + 2 := by rw [hW2]; simp [hs1]
  have hrow : W1.heap[w.heap.size]? = some (.cells #[.int .i64 (y : Int), .int .i64 (m : Int), .int .i64 (d : Int), .int .i64 (h : Int), .int .i64 (mi : Int), .int .i64 (s : Int), .int .i64 z] 40 (0, 0)) := by rw [hW1]; exact heap_alloc_new w _
  have hres : W2.heap[w.heap.size + 1]? = some (.cells #[.int .i64 0, .int .i64 0] 24 (0, 0)) := by rw [hW2, ← hs1]; exact heap_alloc_new W1 _
  rw [← hW1, ← hW2]
  clear hW1 hW2
  with_reducible refine (HN.out W2 (HM.out.below (hb1.trans (hb2.mono hb1.size)))).mono ?_
  rintro e w3 ⟨rfl, hb3⟩
  have hrow3 : w3.heap[w.heap.size]? = some (.cells #[.int .i64 (y : Int), .int .i64 (m : Int), .int .i64 (d : Int), .int .i64 (h : Int), .int .i64 (mi : Int), .int .i64 (s : Int), .int .i64 z] 40 (0, 0)) := (hb3.block _ (by omega)).trans ((hb2.block _ (by omega)).trans hrow)
  have HRes : Hid (w3.heap[w.heap.size + 1]? = some (.cells #[.int .i64 0, .int .i64 0] 24 (0, 0))) := (hb3.block _ (by omega)).trans hres
  have c3 : w3.cell? ⟨w.heap.size, 3, none⟩ = some (.int .i64 (h : Int)) := by simp [World.cell?, hrow3]
  have c4 : w3.cell? ⟨w.heap.size, 4, none⟩ = some (.int .i64 (mi : Int)) := by simp [World.cell?, hrow3]
  have c5 : w3.cell? ⟨w.heap.size, 5, none⟩ = some (.int .i64 (s : Int)) := by simp [World.cell?, hrow3]
  have c6 : w3.cell? ⟨w.heap.size, 6, none⟩ = some (.int .i64 z) := by simp [World.cell?, hrow3]
  have HB3 := Lib.hid ((hb1.trans (hb2.mono hb1.size)).trans (hb3.mono (by omega)))
  have hfz : w3.frozen? ⟨w.heap.size + 1, 0, none⟩ = false := by simp [World.frozen?, HRes.out]
  have hfy : w3.frozen? ⟨w.heap.size + 1, 1, none⟩ = false := by simp [World.frozen?, HRes.out]
  have r0 : w3.cell? ⟨w.heap.size + 1, 0, none⟩ = some (.int .i64 0) := by simp [World.cell?, HRes.out]
  have r1 : w3.cell? ⟨w.heap.size + 1, 1, none⟩ = some (.int .i64 0) := by simp [World.cell?, HRes.out]
  have hsz3 : w.heap.size + 1 < w3.heap.size := by have := hb3.size; omega
  clear hrow3 hb1 hb2 hb3 hrow hres hs1 hs2 hy hd HN HM
  cases r with
  | none =>
    unfold numV'
    go_wp2_with fail
    refine bodyPost_ret (results_cell_tmp (P := Tryd.prog) Tryd.results25 _ _ (w.heap.size + 1) 24 _ (0, 0) _ rfl (two_set HRes.out _ _) Tryd.underlying24 rfl (by kernel_rfl)) rfl ?_
    rw [HR.out]
    exact ⟨rfl, (HB3.out.setCell (by simp) _).setCell (by simp) _⟩
  | some n =>
    obtain ⟨hn0, hn1⟩ := HNl.out n rfl
    have hgo : (h ≤ 23 ∧ mi ≤ 59 ∧ s ≤ 60) ∨ ¬ (h ≤ 23 ∧ mi ≤ 59 ∧ s ≤ 60) := Classical.em _
    unfold numV'
    rcases hgo with ⟨g1, g2, g3⟩ | hbad
    · have i1 : decide ((23 : Int) < (h : Int)) = false := decide_eq_false (by omega)
      have i2 : decide ((59 : Int) < (mi : Int)) = false := decide_eq_false (by omega)
      have i3 : decide ((60 : Int) < (s : Int)) = false := decide_eq_false (by omega)
      have HRR : Hid (momK (some n) h mi s z = some (n * 86400 + ((h : Int) * 3600 + ((mi : Int) - z) * 60 + (s : Int)), z)) := by
        unfold Hid momK
        exact if_neg (by omega)
      go_wp2_with fail
      refine bodyPost_ret (results_cell_tmp (P := Tryd.prog) Tryd.results25 _ _ (w.heap.size + 1) 24 _ (0, 0) _ rfl (two_set HRes.out _ _) Tryd.underlying24 rfl (by kernel_rfl)) rfl ?_
      rw [HR.out, HRR.out]
      exact ⟨rfl, (HB3.out.setCell (by simp) _).setCell (by simp) _⟩
    · have HRR : Hid (momK (some n) h mi s z = none) := by
        unfold Hid momK
        exact if_pos (by omega)
      by_cases g1 : h ≤ 23
      · have i1 : decide ((23 : Int) < (h : Int)) = false := decide_eq_false (by omega)
        by_cases g2 : mi ≤ 59
        · have i2 : decide ((59 : Int) < (mi : Int)) = false := decide_eq_false (by omega)
          have i3 : decide ((60 : Int) < (s : Int)) = true := decide_eq_true (by omega)
          clear hbad
          go_wp2_with fail
          refine bodyPost_ret (results_cell_tmp (P := Tryd.prog) Tryd.results25 _ _ (w.heap.size + 1) 24 _ (0, 0) _ rfl (two_set HRes.out _ _) Tryd.underlying24 rfl (by kernel_rfl)) rfl ?_
          rw [HR.out, HRR.out]
          exact ⟨rfl, (HB3.out.setCell (by simp) _).setCell (by simp) _⟩
        · have i2 : decide ((59 : Int) < (mi : Int)) = true := decide_eq_true (by omega)
          clear hbad
          go_wp2_with fail
          refine bodyPost_ret (results_cell_tmp (P := Tryd.prog) Tryd.results25 _ _ (w.heap.size + 1) 24 _ (0, 0) _ rfl (two_set HRes.out _ _) Tryd.underlying24 rfl (by kernel_rfl)) rfl ?_
          rw [HR.out, HRR.out]
          exact ⟨rfl, (HB3.out.setCell (by simp) _).setCell (by simp) _⟩
      · have i1 : decide ((23 : Int) < (h : Int)) = true := decide_eq_true (by omega)
        clear hbad
        go_wp2_with fail
        refine bodyPost_ret (results_cell_tmp (P := Tryd.prog) Tryd.results25 _ _ (w.heap.size + 1) 24 _ (0, 0) _ rfl (two_set HRes.out _ _) Tryd.underlying24 rfl (by kernel_rfl)) rfl ?_
        rw [HR.out, HRR.out]
        exact ⟨rfl, (HB3.out.setCell (by simp) _).setCell (by simp) _⟩
end Go.Proofs.YtpmjlhpbknppiaaDoor
