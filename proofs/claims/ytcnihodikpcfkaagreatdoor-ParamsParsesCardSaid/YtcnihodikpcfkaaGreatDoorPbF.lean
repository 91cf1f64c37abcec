/- Contracts of the document's layer 7: two values that are the same. -/
import Derived.Test.YtcnihodikpcfkaaGreatDoorPbE
namespace Go.Proofs.YtcnihodikpcfkaaGreatDoor
open Go Go.RowKit

set_option maxRecDepth 100000 in
set_option maxHeartbeats 2000000 in
theorem refSame_any (T S : ByteArray) (u v : Value) (ps : List Prm) (w : World) (hu : prmAt w u ps) (hv : prmAt w v ps) :
    Calls Tryz.prog 12 #[.agg #[.string T, .string S, u], .agg #[.string T, .string S, v]] w fun e w' => e = .returned (.bool true) ∧ Below w.heap.size w w' := by
  obtain ⟨ao, cap, rfl, hcl, hcm, hcell⟩ := hu
  obtain ⟨bo, cap', rfl, hcl', hcm', hcell'⟩ := hv
  unfold maxLen at hcm hcm'
  have HC := Lib.hid hcell
  have HC' := Lib.hid hcell'
  clear hcell hcell'
  obtain ⟨n, hn⟩ : ∃ n, n = ps.length := ⟨_, rfl⟩
  rw [← hn] at hcl hcl' ⊢
  have HN := Lib.hid hn
  clear hn
  have b1 : (T.toList == T.toList) = true := by simp
  have b2 : (S.toList == S.toList) = true := by simp
  have q1 : (T.toList != T.toList) = false := by simp
  have q2 : (S.toList != S.toList) = false := by simp
  have q3 : ((n : Int) != (n : Int)) = false := by simp
  go_enter Tryz.func12, Tryz.ntmps12
  go_wp2_with fail
  go_loopg [5] n (fun g v1 wr => ∃ k : Nat, g = n - k ∧ k ≤ n ∧ v1 = .int .i64 (k : Int) ∧ Hid (Below w.heap.size w wr) ∧ wr.cell? ⟨w.heap.size, 2, none⟩ = some (.slice ao n cap) ∧ wr.cell? ⟨w.heap.size + 1, 2, none⟩ = some (.slice bo n cap'))
  case atStart =>
    have x := box3_cells (t := 30) (((Below.refl _ (w.alloc (.cells #[.string T, .string S, .slice ao n cap] 30))).alloc (Nat.le_refl _) (.cells #[.string T, .string S, .slice bo n cap'] 30)))
    have y := box3_cells (t := 30) (Below.refl _ ((w.alloc (.cells #[.string T, .string S, .slice ao n cap] 30)).alloc (.cells #[.string T, .string S, .slice bo n cap'] 30)))
    have e : (w.alloc (.cells #[.string T, .string S, .slice ao n cap] 30)).heap.size = w.heap.size + 1 := by simp
    rw [e] at y
    exact ⟨0, by omega, by omega, rfl, ((Below.refl _ _).alloc (Nat.le_refl _) _).alloc (by simp) _, x.2.2, y.2.2⟩
  case round =>
    obtain ⟨k, rfl, hk, rfl, HB, x2, y2⟩ := hrel
    by_cases hlt : k < n
    · have hlt' : k < ps.length := by rw [← HN.out]; exact hlt
      rcases HC.out with h0 | ⟨g, rfl, hg, hcc⟩
      · rw [h0] at hlt'
        simp at hlt'
      rcases HC'.out with h0 | ⟨g', rfl, hg', hcc'⟩
      · rw [h0] at hlt'
        simp at hlt'
      obtain ⟨d0, d1⟩ := hcc k hlt'
      obtain ⟨f0, f1⟩ := hcc' k hlt'
      replace d0 := (HB.out.cell (p := ⟨g, k * 2, none⟩) hg).trans d0
      replace d1 := (HB.out.cell (p := ⟨g, k * 2 + 1, none⟩) hg).trans d1
      replace f0 := (HB.out.cell (p := ⟨g', k * 2, none⟩) hg').trans f0
      replace f1 := (HB.out.cell (p := ⟨g', k * 2 + 1, none⟩) hg').trans f1
      obtain ⟨A, hA⟩ : ∃ A : ByteArray, A = ⟨(ps[k]).1.toArray⟩ := ⟨_, rfl⟩
      obtain ⟨B, hB⟩ : ∃ B : ByteArray, B = ⟨(ps[k]).2.toArray⟩ := ⟨_, rfl⟩
      rw [← hA] at d0 f0
      rw [← hB] at d1 f1
      have c1 : (A.toList == A.toList) = true := by simp
      have c2 : (B.toList == B.toList) = true := by simp
      clear hcc hcc' hA hB hlt'
      go_wp2_with fail
      go_quiet (fail)
      go_wp2_with fail
      go_roundg (n - (k + 1))
      case measure => omega
      case rel => exact ⟨k + 1, rfl, by omega, by go_num, HB.out.trans ((below_drewN' _).mono HB.out.size), x2, y2⟩
    · go_wp2_with fail
      go_ret
      exact ⟨rfl, HB.out⟩
end Go.Proofs.YtcnihodikpcfkaaGreatDoor
