/- Contracts of package tree: kidsOf. -/
import Derived.Test.YtfgppamhbchhcaaGreatDoorGb27
namespace Go.Proofs.YtfgppamhbchhcaaGreatDoor
open Go Go.RowKit

def kidsP (kind : Nat) (bd : Sp) (cuts : List Sp) (e : Sp) : List Sp := if kind = 2 then [bd] else kidsS cuts e
theorem kidsS_last (c : Sp) (e : Sp) : kidsS [c] e = [(c.2, e.1)] := rfl
theorem kidsS_more (c d : Sp) (r : List Sp) (e : Sp) : kidsS (c :: d :: r) e = (c.2, d.1) :: kidsS (d :: r) e := rfl
def spansPost (ss : List Sp) (w : World) (e : Ending) (w' : World) : Prop :=
  ∃ u, e = .returned u ∧ w'.ownsRow w.heap.size 26 2 u ss.length (spCells ss) ∧ Below w.heap.size w w'
theorem cells_two_at (W : World) (t : TypeId) (x y : Value) (K : Nat) (hK : K = W.heap.size) : ∀ j u, [x, y][j]? = some u → (W.alloc (.cells #[x, y] t)).cell? ((⟨K, 0, none⟩ : Addr).add j) = some u := by
  subst hK
  exact cells_two_new W t x y
theorem own_fresh (W : World) (base : Nat) (hb : base ≤ W.heap.size) (s : Sp) : (W.alloc (.cells #[.int .i64 (s.1 : Int), .int .i64 (s.2 : Int)] 26)).ownsRow base 26 2 (.slice (some ⟨W.heap.size, 0, none⟩) 1 1) 1 (spCells [s]) :=
  ⟨rfl, .inr ⟨W.heap.size, 1, _, rfl, hb, heap_alloc_new W _, Nat.le_refl _, by unfold maxLen; omega, rfl, rfl⟩⟩
set_option maxRecDepth 100000 in
set_option maxHeartbeats 2000000 in
theorem kidsOf_any (kind h1 h2 b1 b2 e1 e2 : Nat) (ka : Option Addr) (kn kc : Nat) (vc : Value) (cuts : List Sp) (w : World) (hc : rowSp w vc cuts) (hl : cuts.length ≤ 1000000) :
    Calls Tryz.prog 29 #[.agg #[.int .i64 (kind : Int), .int .i64 (h1 : Int), .int .i64 (h2 : Int), .int .i64 (b1 : Int), .int .i64 (b2 : Int), .slice ka kn kc, vc, .int .i64 (e1 : Int), .int .i64 (e2 : Int)]] w
      (spansPost (kidsP kind (b1, b2) cuts (e1, e2)) w) := by
  obtain ⟨i0, hi0, hz0, hz1, hz2⟩ := info_parts Tryz.infoSp
  have HI0 := Lib.hid hi0
  have HZ0 := Lib.hid hz0
  have HZ1 := Lib.hid hz1
  have HZ2 := Lib.hid hz2
  clear hi0 hz0 hz1 hz2
  obtain ⟨ao, cap, rfl, hcl, hcm, hcell⟩ := hc.at
  have HC := Lib.hid hcell
  have HR := Lib.hid hc
  clear hcell hc
  by_cases hk2 : kind = 2
  · subst hk2
    have HP : Hid (kidsP 2 (b1, b2) cuts (e1, e2) = [(b1, b2)]) := rfl
    rw [HP.out]
    go_enter Tryz.func29, Tryz.ntmps29
    go_wp2_with fail
    go_ret
    refine ⟨_, rfl, ?_, ?_⟩
    · have := own_fresh (w.alloc (.cells #[.int .i64 ((2 : Nat) : Int), .int .i64 (h1 : Int), .int .i64 (h2 : Int), .int .i64 (b1 : Int), .int .i64 (b2 : Int), .slice ka kn kc, .slice ao cuts.length cap, .int .i64 (e1 : Int), .int .i64 (e2 : Int)] 30)) w.heap.size (Nat.le_of_lt (by simp)) (b1, b2)
      simp only [World.size_alloc] at this
      exact this
    · exact ((Below.refl _ _).alloc (Nat.le_refl _) _).alloc (by simp) _
  · have hk2' : ¬ (kind : Int) = 2 := by omega
    have HP : Hid (kidsP kind (b1, b2) cuts (e1, e2) = kidsS cuts (e1, e2)) := if_neg hk2
    rw [HP.out]
    obtain ⟨W1, hW1⟩ : ∃ W1, W1 = w.alloc (.cells #[.int .i64 (kind : Int), .int .i64 (h1 : Int), .int .i64 (h2 : Int), .int .i64 (b1 : Int), .int .i64 (b2 : Int), .slice ka kn kc, .slice ao cuts.length cap, .int .i64 (e1 : Int), .int .i64 (e2 : Int)] 30) := ⟨_, rfl⟩
    have hw1 : W1.heap[w.heap.size]? = some (.cells #[.int .i64 (kind : Int), .int .i64 (h1 : Int), .int .i64 (h2 : Int), .int .i64 (b1 : Int), .int .i64 (b2 : Int), .slice ka kn kc, .slice ao cuts.length cap, .int .i64 (e1 : Int), .int .i64 (e2 : Int)] 30 (0, 0)) := by rw [hW1]; exact heap_alloc_new w _
    have hB1 : Below w.heap.size w W1 := by rw [hW1]; exact (Below.refl _ _).alloc (Nat.le_refl _) _
    have HZs : Hid (W1.heap.size = w.heap.size + 1) := by unfold Hid; rw [hW1]; simp
    have hkb : ((kind : Int) == 2) = false := beq_no hk2'
    have HW1 := Lib.hid hw1
    have HB1 := Lib.hid hB1
    have HR1 := Lib.hid (HR.out.below hB1)
    go_enter Tryz.func29, Tryz.ntmps29
    go_wp2_with fail
    rw [← hW1]
    clear hW1 hw1 hB1
    go_loopg [3, 16] cuts.length (fun g x3 x16 wr => ∃ (k : Nat) (ss : List Sp), k ≤ cuts.length ∧ ss.length = k ∧ g = cuts.length - k ∧ x16 = .int .i64 (k : Int) ∧ Hid (wr.ownsRow W1.heap.size 26 2 x3 ss.length (spCells ss)) ∧ Hid (Below W1.heap.size W1 wr) ∧
      Hid (kidsS cuts (e1, e2) = ss ++ kidsS (cuts.drop k) (e1, e2)))
    case atStart => exact ⟨0, [], Nat.zero_le _, rfl, rfl, rfl, World.ownsRow_nil _ _ _ _, Below.refl _ _, by unfold Hid; rw [List.drop_zero]; rfl⟩
    case round =>
      obtain ⟨k, ss, hk, hsk0, rfl, rfl, HO, HB, HQ⟩ := hrel
      have hsk : ss.length ≤ k := by omega
      have HSk := Lib.hid hsk0
      clear hsk0
      have hW1z : w.heap.size < W1.heap.size := by have := HZs.out; omega
      by_cases hlt : k < cuts.length
      · obtain ⟨g, rfl, hg, x0, x1⟩ := HC.out k hlt
        have hgw : g < w.heap.size := hg
        have HDr : Hid (cuts.drop k = cuts[k] :: cuts.drop (k + 1)) := List.drop_eq_getElem_cons hlt
        obtain ⟨c, hc⟩ : ∃ c, c = cuts[k] := ⟨_, rfl⟩
        rw [← hc] at x0 x1 HDr
        clear hc
        obtain ⟨cf, ct⟩ := c
        simp only at x0 x1
        have HBw : Hid (Below w.heap.size w wr) := HB1.out.trans (HB.out.mono (Nat.le_of_lt hW1z))
        replace x0 := (HBw.out.cell (p := ⟨g, k * 2, none⟩) hg).trans x0
        replace x1 := (HBw.out.cell (p := ⟨g, k * 2 + 1, none⟩) hg).trans x1
        have hB0 := HB.out.size
        have hwr := (HB.out.block _ (by omega)).trans HW1.out
        have p6 : wr.cell? ⟨w.heap.size, 6, none⟩ = some (.slice (some ⟨g, 0, none⟩) cuts.length cap) := by simp [World.cell?, hwr]
        have p7 : wr.cell? ⟨w.heap.size, 7, none⟩ = some (.int .i64 (e1 : Int)) := by simp [World.cell?, hwr]
        have p8 : wr.cell? ⟨w.heap.size, 8, none⟩ = some (.int .i64 (e2 : Int)) := by simp [World.cell?, hwr]
        have hlt0 : w.heap.size < wr.heap.size := by omega
        have hlt1 : g < wr.heap.size := by omega
        clear hwr
        by_cases hlt2 : k + 1 < cuts.length
        · obtain ⟨g', he', _, y0, y1⟩ := HC.out (k + 1) hlt2
          have hgg : g' = g := by injection he' with e1; injection e1 with e2; exact e2.symm
          subst hgg
          replace y0 := (HBw.out.cell (p := ⟨g', (k + 1) * 2, none⟩) hg).trans y0
          replace y1 := (HBw.out.cell (p := ⟨g', (k + 1) * 2 + 1, none⟩) hg).trans y1
          have HDr2 : Hid (cuts.drop (k + 1) = cuts[k + 1] :: cuts.drop (k + 1 + 1)) := List.drop_eq_getElem_cons hlt2
          obtain ⟨d, hd⟩ : ∃ d, d = cuts[k + 1] := ⟨_, rfl⟩
          rw [← hd] at y0 y1 HDr2
          clear hd he'
          have hdd : decide ((k : Int) + 1 < (cuts.length : Int)) = true := decide_eq_true (by omega)
          obtain ⟨df, dt⟩ := d
          simp only at y0 y1
          have HQ' : Hid (kidsS cuts (e1, e2) = (ss ++ [(ct, df)]) ++ kidsS (cuts.drop (k + 1)) (e1, e2)) := by
            unfold Hid
            rw [HQ.out, HDr.out, HDr2.out, kidsS_more, List.append_assoc]
            rfl
          go_wp2_with (at_builtin; refine wpList_append_own _ rfl _ _ 28 rfl W1.heap.size 26 i0 (.agg #[.int .i64 0, .int .i64 0]) 2 16 Tryz.underlying28 HI0.out HZ0.out HZ1.out HZ2.out rfl (by decide) _ _ _ rfl (((HO.out.alloc _).alloc _).alloc _) ⟨wr.heap.size + 1 + 1, 0, none⟩ 1 1 (spC (ct, df)) rfl rfl ?c1 ?c2 ?c3 ?c4 ?c5 ?_)
          case c1 => exact cells_two_at _ _ _ _ _ (by simp only [World.size_alloc])
          case c2 => exact spC_one (ct, df)
          case c3 => unfold maxLen; omega
          case c4 => omega
          case c5 => (try simp); omega
          intro v' w6 hown6 hgrow6 _
          have hA := ((HB.out.alloc hB0 (.cells #[.int .i64 (cf : Int), .int .i64 (ct : Int)] 26)).alloc (by simp; omega) (.cells #[.int .i64 (df : Int), .int .i64 (dt : Int)] 26)).alloc (by simp; omega) (.cells #[.int .i64 (ct : Int), .int .i64 (df : Int)] 26)
          have HB6 : Hid (Below W1.heap.size W1 w6) := hA.grown hgrow6 hA.size (fun q hq => (HO.out.lt q hq).1)
          have HO6 : Hid (w6.ownsRow W1.heap.size 26 2 v' (ss ++ [(ct, df)]).length (spCells (ss ++ [(ct, df)]))) := by
            unfold Hid
            rw [spCells_snoc, List.length_append]
            exact hown6
          clear hA hown6 hgrow6 HO HB x0 x1 p6 p7 p8
          go_wp2_with fail
          go_roundg (cuts.length - (k + 1))
          case measure => omega
          case rel => exact ⟨k + 1, ss ++ [(ct, df)], by omega, by have := HSk.out; simp; omega, rfl, by go_num, HO6.out, HB6.out, HQ'⟩
        · have hlt3 : ¬ (k : Int) + 1 < (cuts.length : Int) := by omega
          have hdd : decide ((k : Int) + 1 < (cuts.length : Int)) = false := decide_eq_false hlt3
          have HDr2 : Hid (cuts.drop (k + 1) = []) := List.drop_eq_nil_of_le (by omega)
          have HQ' : Hid (kidsS cuts (e1, e2) = (ss ++ [(ct, e1)]) ++ kidsS (cuts.drop (k + 1)) (e1, e2)) := by
            unfold Hid
            rw [HQ.out, HDr.out, HDr2.out, kidsS_last, List.append_assoc]
            rfl
          go_wp2_with (at_builtin; refine wpList_append_own _ rfl _ _ 28 rfl W1.heap.size 26 i0 (.agg #[.int .i64 0, .int .i64 0]) 2 16 Tryz.underlying28 HI0.out HZ0.out HZ1.out HZ2.out rfl (by decide) _ _ _ rfl (((HO.out.alloc _).alloc _).alloc _) ⟨wr.heap.size + 1 + 1, 0, none⟩ 1 1 (spC (ct, e1)) rfl rfl ?c1 ?c2 ?c3 ?c4 ?c5 ?_)
          case c1 => exact fun _ _ h => h
          case c2 => exact spC_one (ct, e1)
          case c3 => unfold maxLen; omega
          case c4 => omega
          case c5 => (try simp); omega
          intro v' w6 hown6 hgrow6 _
          have hA := ((HB.out.alloc hB0 (.cells #[.int .i64 (cf : Int), .int .i64 (ct : Int)] 26)).alloc (by simp; omega) (.cells #[.int .i64 (e1 : Int), .int .i64 (e2 : Int)] 26)).alloc (by simp; omega) (.cells #[.int .i64 (ct : Int), .int .i64 (e1 : Int)] 26)
          have HB6 : Hid (Below W1.heap.size W1 w6) := hA.grown hgrow6 hA.size (fun q hq => (HO.out.lt q hq).1)
          have HO6 : Hid (w6.ownsRow W1.heap.size 26 2 v' (ss ++ [(ct, e1)]).length (spCells (ss ++ [(ct, e1)]))) := by
            unfold Hid
            rw [spCells_snoc, List.length_append]
            exact hown6
          clear hA hown6 hgrow6 HO HB x0 x1 p6 p7 p8
          go_wp2_with fail
          go_roundg (cuts.length - (k + 1))
          case measure => omega
          case rel => exact ⟨k + 1, ss ++ [(ct, e1)], by omega, by have := HSk.out; simp; omega, rfl, by go_num, HO6.out, HB6.out, HQ'⟩
      · obtain rfl : k = cuts.length := by omega
        have HE : Hid (kidsS cuts (e1, e2) = ss) := by
          unfold Hid
          rw [HQ.out, List.drop_length]
          exact List.append_nil _
        go_wp2_with fail
        go_ret
        refine ⟨_, rfl, ?_, HB1.out.trans (HB.out.mono (Nat.le_of_lt hW1z))⟩
        rw [HE.out]
        exact own_base2 HO.out (Nat.le_of_lt hW1z)
end Go.Proofs.YtfgppamhbchhcaaGreatDoor
