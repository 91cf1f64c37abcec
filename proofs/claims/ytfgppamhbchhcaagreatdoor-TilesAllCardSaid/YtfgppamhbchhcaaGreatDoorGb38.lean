/- Contracts of package tiles: Check. -/
import Derived.Test.YtfgppamhbchhcaaGreatDoorGb37
import Derived.Lib.SlBytesConst
import Derived.Great.BuildSlice
namespace Go.Proofs.YtfgppamhbchhcaaGreatDoor
open Go Go.RowKit

mutual
theorem tilesT_len : ∀ t : Tr, (tilesT t).length + 1 ≤ 6 * countT t
  | .mk k hd bd ks cs e => by
    have h1 := tilesM_len ks cs
    have h2 := tilesH_len ks
    have e1 : countT (.mk k hd bd ks cs e) = 1 + countK ks := rfl
    simp only [tilesT, List.length_cons]
    by_cases k1 : k = 1
    · rw [if_pos k1]
      simp only [List.length_cons, List.length_append, List.length_nil]
      omega
    · rw [if_neg k1]
      by_cases k2 : k = 2
      · rw [if_pos k2]
        omega
      · rw [if_neg k2]
        simp only [List.length_cons, List.length_nil]
        omega
theorem tilesM_len : ∀ (ks : List Tr) (cs : List Sp), (tilesM ks cs).length ≤ 6 * countK ks
  | [], _ => by rw [tilesM_nil]; exact Nat.zero_le _
  | t :: r, cs => by
    have h1 := tilesT_len t
    have e1 : countK (t :: r) = countT t + countK r := rfl
    cases cs with
    | nil => simp only [tilesM, List.length_nil]; omega
    | cons c cs =>
      have h2 := tilesM_len r cs
      rw [tilesM_cons]
      simp only [List.length_cons, List.length_append]
      omega
theorem tilesH_len : ∀ ks : List Tr, (tilesH ks).length ≤ 6 * countK ks
  | [] => by simp only [tilesH, List.length_nil]; omega
  | t :: r => by
    have h1 := tilesT_len t
    have e1 : countK (t :: r) = countT t + countK r := rfl
    simp only [tilesH]
    omega
end
theorem treeAt_below {S : Nat → Prop} {w w' : World} {t : Tr} {u : Value} (h : treeAt S w t u) (hb : Below w.heap.size w w') : treeAt S w' t u := treeAt.keep (fun q hS hq => ⟨hb.block q hq, hS⟩) _ _ h
theorem tbytesI_any (kd h1 h2 b1 b2 e1 e2 : Int) (ka ca : Option Addr) (kn kc cn cc : Nat) (w : World) :
    Calls Tryz.prog 18 #[.agg #[.int .i64 kd, .int .i64 h1, .int .i64 h2, .int .i64 b1, .int .i64 b2, .slice ka kn kc, .slice ca cn cc, .int .i64 e1, .int .i64 e2]] w
      fun e w' => e = .returned (.agg #[.int .i64 h1, .int .i64 b2]) ∧ Below w.heap.size w w' := by
  go_enter Tryz.func18, Tryz.ntmps18
  go_wp2
  (try simp only [Exit.inBlock, Exit.then])
  refine bodyPost_ret (results_cell_row (P := Tryz.prog) Tryz.results18 _ _ (w.heap.size + 1) 26 _ (0, 0) _ rfl (heap_alloc2_new _ _ _) Tryz.underlying26 rfl (by kernel_rfl)) rfl ?_
  exact ⟨rfl, (below_new _ _).alloc (by simp) _⟩
theorem span_neq (w : World) (a b c d : Int) : (binOp .neq 26 (.agg #[.int .i64 a, .int .i64 b]) (.agg #[.int .i64 c, .int .i64 d])).run Tryz.prog w = .ok (.bool (!(a == c && b == d))) w := by
  have h := span_eql w a b c d
  rw [run_eql_struct] at h
  rw [run_neq_struct]
  cases hr : (Op.equalIn 10000 26 (.agg #[.int .i64 a, .int .i64 b]) (.agg #[.int .i64 c, .int .i64 d])).run Tryz.prog w with
  | ok b' w' =>
    rw [hr] at h
    simp only [Result.andThen] at h ⊢
    cases h
    rfl
  | halt x w' =>
    rw [hr] at h
    simp only [Result.andThen] at h
    cases h
set_option maxRecDepth 100000 in
set_option maxHeartbeats 4000000 in
theorem check_no {S : Nat → Prop} (t : Tr) (L : Nat) (hg : goodT t) (hcb : countT t ≤ 1000) (hd : deepT t ≤ 32) (n : Int) (hn : ¬ n = (L : Int)) (kd h2 b1 e1 e2 : Int) (ka ca : Option Addr) (kn kc cn cc : Nat) (w : World) (hu : treeAt S w t (.agg #[.int .i64 kd, .int .i64 0, .int .i64 h2, .int .i64 b1, .int .i64 (L : Int), .slice ka kn kc, .slice ca cn cc, .int .i64 e1, .int .i64 e2])) :
    Calls Tryz.prog 16 #[.agg #[.int .i64 kd, .int .i64 0, .int .i64 h2, .int .i64 b1, .int .i64 (L : Int), .slice ka kn kc, .slice ca cn cc, .int .i64 e1, .int .i64 e2], .int .i64 n] w fun e w' => e = .returned (.int .i64 11) ∧ Below w.heap.size w w' := by
  have HU := Lib.hid (fun W (hb : Below w.heap.size w W) => isBig_any t hg hcb hd kd 0 h2 b1 (L : Int) e1 e2 ka ca kn kc cn cc W (treeAt_below hu hb))
  have HT := Lib.hid (fun W => tbytesI_any kd 0 h2 b1 (L : Int) e1 e2 ka ca kn kc cn cc W)
  have ks : ∀ W, (binOp .neq 26 (.agg #[.int .i64 0, .int .i64 (L : Int)]) (.agg #[.int .i64 0, .int .i64 n])).run Tryz.prog W = .ok (.bool true) W := fun W => by
    rw [span_neq]
    have : ((L : Int) == n) = false := beq_no fun e => hn e.symm
    rw [this]
    rfl
  have hB := below_new w (.cells #[.int .i64 kd, .int .i64 0, .int .i64 h2, .int .i64 b1, .int .i64 (L : Int), .slice ka kn kc, .slice ca cn cc, .int .i64 e1, .int .i64 e2] 30)
  have hl := heap_alloc_new w (.cells #[.int .i64 kd, .int .i64 0, .int .i64 h2, .int .i64 b1, .int .i64 (L : Int), .slice ka kn kc, .slice ca cn cc, .int .i64 e1, .int .i64 e2] 30)
  obtain ⟨X, hX⟩ : ∃ X, X = w.alloc (.cells #[.int .i64 kd, .int .i64 0, .int .i64 h2, .int .i64 b1, .int .i64 (L : Int), .slice ka kn kc, .slice ca cn cc, .int .i64 e1, .int .i64 e2] 30) := ⟨_, rfl⟩
  rw [← hX] at hB hl
  have HX := Lib.hid hX
  have HB := Lib.hid hB
  have HL := Lib.hid hl
  clear hX hB hl hu hn
  go_enter Tryz.func16, Tryz.ntmps16
  go_wp2_with fail
  rw [← HX.out]
  with_reducible refine (HU.out _ ?h1).mono ?_
  case h1 => exact HB.out
  rintro e w2 ⟨rfl, hb2⟩
  have HB2 := Lib.hid (HB.out.trans (hb2.mono HB.out.size))
  have hl2 : w2.heap[w.heap.size]? = some (.cells #[.int .i64 kd, .int .i64 0, .int .i64 h2, .int .i64 b1, .int .i64 (L : Int), .slice ka kn kc, .slice ca cn cc, .int .i64 e1, .int .i64 e2] 30 (0, 0)) := (hb2.block _ (Array.getElem?_eq_some_iff.1 HL.out).1).trans HL.out
  have c0 : w2.cell? ⟨w.heap.size, 0, none⟩ = some (.int .i64 kd) := by simp [World.cell?, hl2]
  have c1 : w2.cell? ⟨w.heap.size, 1, none⟩ = some (.int .i64 0) := by simp [World.cell?, hl2]
  have c2 : w2.cell? ⟨w.heap.size, 2, none⟩ = some (.int .i64 h2) := by simp [World.cell?, hl2]
  have c3 : w2.cell? ⟨w.heap.size, 3, none⟩ = some (.int .i64 b1) := by simp [World.cell?, hl2]
  have c4 : w2.cell? ⟨w.heap.size, 4, none⟩ = some (.int .i64 (L : Int)) := by simp [World.cell?, hl2]
  have c5 : w2.cell? ⟨w.heap.size, 5, none⟩ = some (.slice ka kn kc) := by simp [World.cell?, hl2]
  have c6 : w2.cell? ⟨w.heap.size, 6, none⟩ = some (.slice ca cn cc) := by simp [World.cell?, hl2]
  have c7 : w2.cell? ⟨w.heap.size, 7, none⟩ = some (.int .i64 e1) := by simp [World.cell?, hl2]
  have c8 : w2.cell? ⟨w.heap.size, 8, none⟩ = some (.int .i64 e2) := by simp [World.cell?, hl2]
  clear hb2 hl2 HU
  go_wp2_with fail
  with_reducible refine (HT.out _).mono ?_
  rintro e w3 ⟨rfl, hb3⟩
  have HB3 := Lib.hid (HB2.out.trans (hb3.mono HB2.out.size))
  clear hb3 c0 c1 c2 c3 c4 c5 c6 c7 c8
  go_wp2_with fail
  go_ret
  exact ⟨rfl, HB3.out⟩
set_option maxRecDepth 100000 in
set_option maxHeartbeats 4000000 in
theorem check_yes {S : Nat → Prop} (t : Tr) (L : Nat) (hg : goodT t) (hcb : countT t ≤ 1000) (hd : deepT t ≤ 32) (hch : chainT 0 L (tilesT t)) (kd h2 b1 e1 e2 : Int) (ka ca : Option Addr) (kn kc cn cc : Nat) (w : World) (hu : treeAt S w t (.agg #[.int .i64 kd, .int .i64 0, .int .i64 h2, .int .i64 b1, .int .i64 (L : Int), .slice ka kn kc, .slice ca cn cc, .int .i64 e1, .int .i64 e2])) :
    Calls Tryz.prog 16 #[.agg #[.int .i64 kd, .int .i64 0, .int .i64 h2, .int .i64 b1, .int .i64 (L : Int), .slice ka kn kc, .slice ca cn cc, .int .i64 e1, .int .i64 e2], .int .i64 (L : Int)] w fun e w' => e = .returned (.int .i64 0) ∧ Below w.heap.size w w' := by
  have HU := Lib.hid (fun W (hb : Below w.heap.size w W) => isBig_any t hg hcb hd kd 0 h2 b1 (L : Int) e1 e2 ka ca kn kc cn cc W (treeAt_below hu hb))
  have HF := Lib.hid (fun W (hb : Below w.heap.size w W) => areFormed_any t hg hcb hd kd 0 h2 b1 (L : Int) e1 e2 ka ca kn kc cn cc W (treeAt_below hu hb))
  have HLd := Lib.hid (fun W (hb : Below w.heap.size w W) => isLaid_any t hg hcb L hch kd 0 h2 b1 (L : Int) e1 e2 ka ca kn kc cn cc W (treeAt_below hu hb))
  have HT := Lib.hid (fun W => tbytesI_any kd 0 h2 b1 (L : Int) e1 e2 ka ca kn kc cn cc W)
  have ks : ∀ W, (binOp .neq 26 (.agg #[.int .i64 0, .int .i64 (L : Int)]) (.agg #[.int .i64 0, .int .i64 (L : Int)])).run Tryz.prog W = .ok (.bool false) W := fun W => by
    rw [span_neq]
    simp
  have hB := below_new w (.cells #[.int .i64 kd, .int .i64 0, .int .i64 h2, .int .i64 b1, .int .i64 (L : Int), .slice ka kn kc, .slice ca cn cc, .int .i64 e1, .int .i64 e2] 30)
  have hl := heap_alloc_new w (.cells #[.int .i64 kd, .int .i64 0, .int .i64 h2, .int .i64 b1, .int .i64 (L : Int), .slice ka kn kc, .slice ca cn cc, .int .i64 e1, .int .i64 e2] 30)
  obtain ⟨X, hX⟩ : ∃ X, X = w.alloc (.cells #[.int .i64 kd, .int .i64 0, .int .i64 h2, .int .i64 b1, .int .i64 (L : Int), .slice ka kn kc, .slice ca cn cc, .int .i64 e1, .int .i64 e2] 30) := ⟨_, rfl⟩
  rw [← hX] at hB hl
  have HX := Lib.hid hX
  have HB := Lib.hid hB
  have HL := Lib.hid hl
  clear hX hB hl hu
  go_enter Tryz.func16, Tryz.ntmps16
  go_wp2_with fail
  rw [← HX.out]
  with_reducible refine (HU.out _ ?h1).mono ?_
  case h1 => exact HB.out
  rintro e w2 ⟨rfl, hb2⟩
  have HB2 := Lib.hid (HB.out.trans (hb2.mono HB.out.size))
  have HL2 : Hid (w2.heap[w.heap.size]? = some (.cells #[.int .i64 kd, .int .i64 0, .int .i64 h2, .int .i64 b1, .int .i64 (L : Int), .slice ka kn kc, .slice ca cn cc, .int .i64 e1, .int .i64 e2] 30 (0, 0))) := (hb2.block _ (Array.getElem?_eq_some_iff.1 HL.out).1).trans HL.out
  have hl := HL2.out
  have c0 : w2.cell? ⟨w.heap.size, 0, none⟩ = some (.int .i64 kd) := by simp [World.cell?, hl]
  have c1 : w2.cell? ⟨w.heap.size, 1, none⟩ = some (.int .i64 0) := by simp [World.cell?, hl]
  have c2 : w2.cell? ⟨w.heap.size, 2, none⟩ = some (.int .i64 h2) := by simp [World.cell?, hl]
  have c3 : w2.cell? ⟨w.heap.size, 3, none⟩ = some (.int .i64 b1) := by simp [World.cell?, hl]
  have c4 : w2.cell? ⟨w.heap.size, 4, none⟩ = some (.int .i64 (L : Int)) := by simp [World.cell?, hl]
  have c5 : w2.cell? ⟨w.heap.size, 5, none⟩ = some (.slice ka kn kc) := by simp [World.cell?, hl]
  have c6 : w2.cell? ⟨w.heap.size, 6, none⟩ = some (.slice ca cn cc) := by simp [World.cell?, hl]
  have c7 : w2.cell? ⟨w.heap.size, 7, none⟩ = some (.int .i64 e1) := by simp [World.cell?, hl]
  have c8 : w2.cell? ⟨w.heap.size, 8, none⟩ = some (.int .i64 e2) := by simp [World.cell?, hl]
  clear hb2 hl
  go_wp2_with fail
  with_reducible refine (HT.out _).mono ?_
  clear c0 c1 c2 c3 c4 c5 c6 c7 c8
  rintro e w3 ⟨rfl, hb3⟩
  have HB3 := Lib.hid (HB2.out.trans (hb3.mono HB2.out.size))
  have HL3 : Hid (w3.heap[w.heap.size]? = some (.cells #[.int .i64 kd, .int .i64 0, .int .i64 h2, .int .i64 b1, .int .i64 (L : Int), .slice ka kn kc, .slice ca cn cc, .int .i64 e1, .int .i64 e2] 30 (0, 0))) := (hb3.block _ (Array.getElem?_eq_some_iff.1 HL2.out).1).trans HL2.out
  have hl := HL3.out
  have c0 : w3.cell? ⟨w.heap.size, 0, none⟩ = some (.int .i64 kd) := by simp [World.cell?, hl]
  have c1 : w3.cell? ⟨w.heap.size, 1, none⟩ = some (.int .i64 0) := by simp [World.cell?, hl]
  have c2 : w3.cell? ⟨w.heap.size, 2, none⟩ = some (.int .i64 h2) := by simp [World.cell?, hl]
  have c3 : w3.cell? ⟨w.heap.size, 3, none⟩ = some (.int .i64 b1) := by simp [World.cell?, hl]
  have c4 : w3.cell? ⟨w.heap.size, 4, none⟩ = some (.int .i64 (L : Int)) := by simp [World.cell?, hl]
  have c5 : w3.cell? ⟨w.heap.size, 5, none⟩ = some (.slice ka kn kc) := by simp [World.cell?, hl]
  have c6 : w3.cell? ⟨w.heap.size, 6, none⟩ = some (.slice ca cn cc) := by simp [World.cell?, hl]
  have c7 : w3.cell? ⟨w.heap.size, 7, none⟩ = some (.int .i64 e1) := by simp [World.cell?, hl]
  have c8 : w3.cell? ⟨w.heap.size, 8, none⟩ = some (.int .i64 e2) := by simp [World.cell?, hl]
  clear hb3 hl
  go_wp2_with fail
  with_reducible refine (HF.out _ HB3.out).mono ?_
  clear c0 c1 c2 c3 c4 c5 c6 c7 c8
  rintro e w4 ⟨rfl, hb4⟩
  have HB4 := Lib.hid (HB3.out.trans (hb4.mono HB3.out.size))
  have HL4 : Hid (w4.heap[w.heap.size]? = some (.cells #[.int .i64 kd, .int .i64 0, .int .i64 h2, .int .i64 b1, .int .i64 (L : Int), .slice ka kn kc, .slice ca cn cc, .int .i64 e1, .int .i64 e2] 30 (0, 0))) := (hb4.block _ (Array.getElem?_eq_some_iff.1 HL3.out).1).trans HL3.out
  have hl := HL4.out
  have c0 : w4.cell? ⟨w.heap.size, 0, none⟩ = some (.int .i64 kd) := by simp [World.cell?, hl]
  have c1 : w4.cell? ⟨w.heap.size, 1, none⟩ = some (.int .i64 0) := by simp [World.cell?, hl]
  have c2 : w4.cell? ⟨w.heap.size, 2, none⟩ = some (.int .i64 h2) := by simp [World.cell?, hl]
  have c3 : w4.cell? ⟨w.heap.size, 3, none⟩ = some (.int .i64 b1) := by simp [World.cell?, hl]
  have c4 : w4.cell? ⟨w.heap.size, 4, none⟩ = some (.int .i64 (L : Int)) := by simp [World.cell?, hl]
  have c5 : w4.cell? ⟨w.heap.size, 5, none⟩ = some (.slice ka kn kc) := by simp [World.cell?, hl]
  have c6 : w4.cell? ⟨w.heap.size, 6, none⟩ = some (.slice ca cn cc) := by simp [World.cell?, hl]
  have c7 : w4.cell? ⟨w.heap.size, 7, none⟩ = some (.int .i64 e1) := by simp [World.cell?, hl]
  have c8 : w4.cell? ⟨w.heap.size, 8, none⟩ = some (.int .i64 e2) := by simp [World.cell?, hl]
  clear hb4 hl
  go_wp2_with fail
  with_reducible refine (HLd.out _ HB4.out).mono ?_
  clear c0 c1 c2 c3 c4 c5 c6 c7 c8
  rintro e w5 ⟨rfl, hb5⟩
  have HB5 := Lib.hid (HB4.out.trans (hb5.mono HB4.out.size))
  clear hb5
  go_wp2_with fail
  go_ret
  exact ⟨rfl, HB5.out⟩
theorem check_any {S : Nat → Prop} (t : Tr) (L : Nat) (hg : goodT t) (hcb : countT t ≤ 1000) (hd : deepT t ≤ 32) (hch : chainT 0 L (tilesT t)) (n : Int) (kd h2 b1 e1 e2 : Int) (ka ca : Option Addr) (kn kc cn cc : Nat) (w : World) (hu : treeAt S w t (.agg #[.int .i64 kd, .int .i64 0, .int .i64 h2, .int .i64 b1, .int .i64 (L : Int), .slice ka kn kc, .slice ca cn cc, .int .i64 e1, .int .i64 e2])) :
    Calls Tryz.prog 16 #[.agg #[.int .i64 kd, .int .i64 0, .int .i64 h2, .int .i64 b1, .int .i64 (L : Int), .slice ka kn kc, .slice ca cn cc, .int .i64 e1, .int .i64 e2], .int .i64 n] w fun e w' => e = .returned (.int .i64 (if n = (L : Int) then 0 else 11)) ∧ Below w.heap.size w w' := by
  by_cases hn : n = (L : Int)
  · rw [if_pos hn]
    subst hn
    exact check_yes t L hg hcb hd hch kd h2 b1 e1 e2 ka ca kn kc cn cc w hu
  · rw [if_neg hn]
    exact check_no t L hg hcb hd n hn kd h2 b1 e1 e2 ka ca kn kc cn cc w hu
theorem parse13_any (v : Value) (l : List UInt8) (w : World) (hv : bytesArg w v l) (hbig : l.length ≤ 100000) (he : env w) :
    Calls Tryz.prog 9 #[v] w fun e w' => ∃ (kd h2 b1 e1 e2 : Int) (ka : Option Addr) (kn kc : Nat) (ca : Option Addr) (cn cc : Nat), e = .returned (.tuple #[.agg #[.int .i64 kd, .int .i64 0, .int .i64 h2, .int .i64 b1, .int .i64 (l.length : Int), .slice ka kn kc, .slice ca cn cc, .int .i64 e1, .int .i64 e2], .int .i64 0]) ∧
      treeAt (fun k => w.heap.size ≤ k) w' (treeS l) (.agg #[.int .i64 kd, .int .i64 0, .int .i64 h2, .int .i64 b1, .int .i64 (l.length : Int), .slice ka kn kc, .slice ca cn cc, .int .i64 e1, .int .i64 e2]) ∧ Below w.heap.size w w' := by
  refine (treeParse_any v l w hv hbig he).mono ?_
  rintro e w' ⟨ka, kn, kc, ca, cn, cc, rfl, ht, hb⟩
  obtain ⟨_, q1, q2, _⟩ := tree_Q l
  rw [q1, q2] at ht ⊢
  exact ⟨_, _, _, _, _, ka, kn, kc, ca, cn, cc, rfl, ht, hb⟩
end Go.Proofs.YtfgppamhbchhcaaGreatDoor

/- The example that every statement of tiles asks first. -/
namespace Go.Proofs.YtfgppamhbchhcaaGreatDoor
open Go Go.RowKit

theorem tlCells_at (ls : List Tl) (i : Nat) (h : i < ls.length) : (tlCells ls)[i * 3]? = some (.int .i64 (ls[i].1 : Int)) ∧ (tlCells ls)[i * 3 + 1]? = some (.int .i64 (ls[i].2.1 : Int)) ∧ (tlCells ls)[i * 3 + 2]? = some (.int .i64 (ls[i].2.2 : Int)) := by
  induction ls generalizing i with
  | nil => simp at h
  | cons x r ih =>
    have e : tlCells (x :: r) = tlC x ++ tlCells r := by simp [tlCells]
    rw [e]
    cases i with
    | zero => simp [tlC]
    | succ i =>
      have := ih i (by simpa using h)
      simp only [List.getElem_cons_succ]
      rw [List.getElem?_append_right (by simp [tlC]; omega), List.getElem?_append_right (by simp [tlC]; omega), List.getElem?_append_right (by simp [tlC]; omega)]
      simp only [tlC, List.length_cons, List.length_nil]
      rw [show (i + 1) * 3 - (0 + 1 + 1 + 1) = i * 3 by omega, show (i + 1) * 3 + 1 - (0 + 1 + 1 + 1) = i * 3 + 1 by omega, show (i + 1) * 3 + 2 - (0 + 1 + 1 + 1) = i * 3 + 2 by omega]
      exact this
/-- A row of tiles, as it is read. -/
theorem tlRow_at {w : World} {base : Nat} {e : TypeId} {v : Value} {ls : List Tl} (h : w.ownsRow base e 3 v ls.length (tlCells ls)) : ∃ ao cap, v = .slice ao ls.length cap ∧ ls.length ≤ cap ∧ cap ≤ maxLen ∧
    ∀ i, (h : i < ls.length) → ∃ g, ao = some ⟨g, 0, none⟩ ∧ g < w.heap.size ∧ w.cell? ⟨g, i * 3, none⟩ = some (.int .i64 (ls[i].1 : Int)) ∧ w.cell? ⟨g, i * 3 + 1, none⟩ = some (.int .i64 (ls[i].2.1 : Int)) ∧ w.cell? ⟨g, i * 3 + 2, none⟩ = some (.int .i64 (ls[i].2.2 : Int)) := by
  rcases h.2 with ⟨rfl, h0⟩ | ⟨g, cap, cur, rfl, _, hh, hc, hm, hs, ht⟩
  · obtain rfl : ls = [] := List.eq_nil_of_length_eq_zero h0
    exact ⟨none, 0, rfl, Nat.le_refl _, Nat.zero_le _, fun i hi => by simp at hi⟩
  · refine ⟨_, cap, rfl, hc, hm, fun i hi => ⟨g, rfl, (Array.getElem?_eq_some_iff.1 hh).1, ?_⟩⟩
    obtain ⟨c0, c1, c2⟩ := tlCells_at ls i hi
    rw [← ht] at c0 c1 c2
    rw [List.getElem?_take, if_pos (by omega)] at c0 c1 c2
    simp only [World.cell?, hh]
    exact ⟨by simpa using c0, by simpa using c1, by simpa using c2⟩
def exQ : List UInt8 := [65, 58, 32, 98, 10, 10, 99]
set_option maxRecDepth 100000 in
theorem exQ_tree : treeS exQ = .mk 0 (0, 6) (6, 7) [] [] (0, 0) := by kernel_rfl
theorem exQ_tiles : tilesT (treeS exQ) = [(0, (0, 6)), (1, (6, 7))] := by
  rw [exQ_tree]
  rfl
theorem exQ_row (w : World) (t : TypeId) (fr : Nat × Nat) : bytesArg (w.alloc (.cells #[.int .u8 65, .int .u8 58, .int .u8 32, .int .u8 98, .int .u8 10, .int .u8 10, .int .u8 99] t fr)) (.slice (some ⟨w.heap.size, 0, none⟩) 7 7) exQ :=
  (sliceAt_new w t fr _ exQ rfl).arg (cap := 7) (by decide) (by unfold maxLen; decide)
set_option maxRecDepth 100000 in
set_option maxHeartbeats 4000000 in
theorem awake13_any (w : World) (he : env w) : Calls Tryz.prog 15 #[] w fun e w' => e = .returned (.bool true) ∧ Below w.heap.size w w' := by
  have HE := Lib.hid he
  have HPa := Lib.hid (fun W v h hE => parse13_any v exQ W h (by decide) hE)
  have hl7 : (exQ.length : Int) = 7 := rfl
  rw [hl7] at HPa
  have HQ := Lib.hid (tree_Q exQ)
  have HCt := Lib.hid (tree_count exQ)
  have HDp := Lib.hid (tree_deep exQ)
  have HTi := Lib.hid exQ_tiles
  obtain ⟨T, hT⟩ : ∃ T, T = treeS exQ := ⟨_, rfl⟩
  rw [← hT] at HPa HQ HCt HDp HTi
  have kc := fun (w : World) (C : Array Value) (n c : Nat) => Lib.run_convert_bytes_const (P := Tryz.prog) w 24 5 C n c Tryz.underlying24 Tryz.underlying5
  clear he hT hl7
  go_enter Tryz.func15, Tryz.ntmps15
  go_wp2_with fail
  with_reducible refine (HPa.out _ _ ?h1 ?h2).mono ?_
  case h1 => exact exQ_row _ _ _
  case h2 => exact HE.out.below (below_new _ _)
  rintro e w5 ⟨kd, h2, b1, e1, e2, ka, kn, kc1, ca, cn, cc, rfl, ht, hb5⟩
  have HB5 : Hid (Below w.heap.size w w5) := (below_new _ _).trans (hb5.mono (by simp))
  have hbX := below_new w5 (.cells #[.int .i64 kd, .int .i64 0, .int .i64 h2, .int .i64 b1, .int .i64 7, .slice ka kn kc1, .slice ca cn cc, .int .i64 e1, .int .i64 e2] 30)
  have HOf := Lib.hid (tOf_any T _ HQ.out.1 (by have := HCt.out; omega) (by rw [HTi.out]; decide) kd 0 h2 b1 7 e1 e2 ka ca kn kc1 cn cc _ (treeAt_below ht hbX))
  have HC7 := Lib.hid (fun W (hb : Below w5.heap.size w5 W) => check_yes T 7 HQ.out.1 HCt.out HDp.out HQ.out.2.2.2 kd h2 b1 e1 e2 ka ca kn kc1 cn cc W (treeAt_below ht hb))
  have HC8 := Lib.hid (fun W (hb : Below w5.heap.size w5 W) => check_no T 7 HQ.out.1 HCt.out HDp.out 8 (by decide) kd h2 b1 e1 e2 ka ca kn kc1 cn cc W (treeAt_below ht hb))
  rw [HTi.out] at HOf
  have h77 : ((7 : Nat) : Int) = 7 := rfl
  rw [h77] at HC7 HC8
  clear h77
  have HBX := Lib.hid hbX
  have HL := Lib.hid (heap_alloc_new w5 (.cells #[.int .i64 kd, .int .i64 0, .int .i64 h2, .int .i64 b1, .int .i64 7, .slice ka kn kc1, .slice ca cn cc, .int .i64 e1, .int .i64 e2] 30))
  clear ht hb5 hbX HPa HQ HCt HDp HTi
  obtain ⟨X, hX⟩ : ∃ X, X = w5.alloc (.cells #[.int .i64 kd, .int .i64 0, .int .i64 h2, .int .i64 b1, .int .i64 7, .slice ka kn kc1, .slice ca cn cc, .int .i64 e1, .int .i64 e2] 30) := ⟨_, rfl⟩
  rw [← hX] at HOf HBX HL
  go_upto_region 3 with fail
  rw [← hX]
  have hl := HL.out
  have c0 : X.cell? ⟨w5.heap.size, 0, none⟩ = some (.int .i64 kd) := by simp [World.cell?, hl]
  have c1 : X.cell? ⟨w5.heap.size, 1, none⟩ = some (.int .i64 0) := by simp [World.cell?, hl]
  have c2 : X.cell? ⟨w5.heap.size, 2, none⟩ = some (.int .i64 h2) := by simp [World.cell?, hl]
  have c3 : X.cell? ⟨w5.heap.size, 3, none⟩ = some (.int .i64 b1) := by simp [World.cell?, hl]
  have c4 : X.cell? ⟨w5.heap.size, 4, none⟩ = some (.int .i64 7) := by simp [World.cell?, hl]
  have c5 : X.cell? ⟨w5.heap.size, 5, none⟩ = some (.slice ka kn kc1) := by simp [World.cell?, hl]
  have c6 : X.cell? ⟨w5.heap.size, 6, none⟩ = some (.slice ca cn cc) := by simp [World.cell?, hl]
  have c7 : X.cell? ⟨w5.heap.size, 7, none⟩ = some (.int .i64 e1) := by simp [World.cell?, hl]
  have c8 : X.cell? ⟨w5.heap.size, 8, none⟩ = some (.int .i64 e2) := by simp [World.cell?, hl]
  clear hX hl
  go_wp2_with fail
  with_reducible refine (HOf.out).mono ?_
  rintro e w6 ⟨u, rfl, hown, hb6⟩
  obtain ⟨ao, cap, rfl, hc1, hc2, hcell⟩ := tlRow_at hown
  obtain ⟨g, rfl, hg, d0, d1, d2⟩ := hcell 0 (by decide)
  obtain ⟨g', hgg, _, d3, d4, d5⟩ := hcell 1 (by decide)
  have hgg' : g' = g := by injection hgg with q1; injection q1 with q2; exact q2.symm
  subst hgg'
  have HB6 := Lib.hid (HBX.out.trans (hb6.mono HBX.out.size))
  have HL6 : Hid (w6.heap[w5.heap.size]? = some (.cells #[.int .i64 kd, .int .i64 0, .int .i64 h2, .int .i64 b1, .int .i64 7, .slice ka kn kc1, .slice ca cn cc, .int .i64 e1, .int .i64 e2] 30 (0, 0))) := (hb6.block _ (Array.getElem?_eq_some_iff.1 HL.out).1).trans HL.out
  have a0 : w6.cell? ⟨g', 0, none⟩ = some (.int .i64 0) := d0
  have a2 : w6.cell? ⟨g', 2, none⟩ = some (.int .i64 6) := d2
  have a3 : w6.cell? ⟨g', 3, none⟩ = some (.int .i64 1) := d3
  have a5 : w6.cell? ⟨g', 5, none⟩ = some (.int .i64 7) := d5
  have hl := HL6.out
  clear hown hb6 hcell d0 d1 d2 d3 d4 d5 c0 c1 c2 c3 c4 c5 c6 c7 c8 hgg
  have c0 : w6.cell? ⟨w5.heap.size, 0, none⟩ = some (.int .i64 kd) := by simp [World.cell?, hl]
  have c1 : w6.cell? ⟨w5.heap.size, 1, none⟩ = some (.int .i64 0) := by simp [World.cell?, hl]
  have c2 : w6.cell? ⟨w5.heap.size, 2, none⟩ = some (.int .i64 h2) := by simp [World.cell?, hl]
  have c3 : w6.cell? ⟨w5.heap.size, 3, none⟩ = some (.int .i64 b1) := by simp [World.cell?, hl]
  have c4 : w6.cell? ⟨w5.heap.size, 4, none⟩ = some (.int .i64 7) := by simp [World.cell?, hl]
  have c5 : w6.cell? ⟨w5.heap.size, 5, none⟩ = some (.slice ka kn kc1) := by simp [World.cell?, hl]
  have c6 : w6.cell? ⟨w5.heap.size, 6, none⟩ = some (.slice ca cn cc) := by simp [World.cell?, hl]
  have c7 : w6.cell? ⟨w5.heap.size, 7, none⟩ = some (.int .i64 e1) := by simp [World.cell?, hl]
  have c8 : w6.cell? ⟨w5.heap.size, 8, none⟩ = some (.int .i64 e2) := by simp [World.cell?, hl]
  clear hl
  go_wp2_with fail
  with_reducible refine (HC7.out _ HB6.out).mono ?_
  rintro e w7 ⟨rfl, hb7⟩
  have HB7 := Lib.hid (HB6.out.trans (hb7.mono HB6.out.size))
  have HL7 : Hid (w7.heap[w5.heap.size]? = some (.cells #[.int .i64 kd, .int .i64 0, .int .i64 h2, .int .i64 b1, .int .i64 7, .slice ka kn kc1, .slice ca cn cc, .int .i64 e1, .int .i64 e2] 30 (0, 0))) := (hb7.block _ (Array.getElem?_eq_some_iff.1 HL6.out).1).trans HL6.out
  have hl := HL7.out
  clear hb7 c0 c1 c2 c3 c4 c5 c6 c7 c8 a0 a2 a3 a5
  have c0 : w7.cell? ⟨w5.heap.size, 0, none⟩ = some (.int .i64 kd) := by simp [World.cell?, hl]
  have c1 : w7.cell? ⟨w5.heap.size, 1, none⟩ = some (.int .i64 0) := by simp [World.cell?, hl]
  have c2 : w7.cell? ⟨w5.heap.size, 2, none⟩ = some (.int .i64 h2) := by simp [World.cell?, hl]
  have c3 : w7.cell? ⟨w5.heap.size, 3, none⟩ = some (.int .i64 b1) := by simp [World.cell?, hl]
  have c4 : w7.cell? ⟨w5.heap.size, 4, none⟩ = some (.int .i64 7) := by simp [World.cell?, hl]
  have c5 : w7.cell? ⟨w5.heap.size, 5, none⟩ = some (.slice ka kn kc1) := by simp [World.cell?, hl]
  have c6 : w7.cell? ⟨w5.heap.size, 6, none⟩ = some (.slice ca cn cc) := by simp [World.cell?, hl]
  have c7 : w7.cell? ⟨w5.heap.size, 7, none⟩ = some (.int .i64 e1) := by simp [World.cell?, hl]
  have c8 : w7.cell? ⟨w5.heap.size, 8, none⟩ = some (.int .i64 e2) := by simp [World.cell?, hl]
  clear hl
  go_wp2_with fail
  with_reducible refine (HC8.out _ HB7.out).mono ?_
  rintro e w8 ⟨rfl, hb8⟩
  have HB8 := Lib.hid (HB7.out.trans (hb8.mono HB7.out.size))
  clear hb8 c0 c1 c2 c3 c4 c5 c6 c7 c8
  go_wp2_with fail
  go_ret
  exact ⟨rfl, HB5.out.trans (HB8.out.mono HB5.out.size)⟩
end Go.Proofs.YtfgppamhbchhcaaGreatDoor
