/- The law TilesKinds. -/
import Derived.Test.YtfgppamhbchhcaaGreatDoorGbTiP
import Derived.Test.YtfgppamhbchhcaaGreatDoorGbTiN
namespace Go.Proofs.YtfgppamhbchhcaaGreatDoor
open Go Go.RowKit

theorem ints6 (W : World) : (Instr.makeSlice 50 (.int .i64 6) (.int .i64 6)).run Tryz.prog W = .ok (.slice (some ⟨W.heap.size, 0, none⟩) 6 6) (W.alloc (.cells #[.int .i64 (0 : Int), .int .i64 (0 : Int), .int .i64 (0 : Int), .int .i64 (0 : Int), .int .i64 (0 : Int), .int .i64 (0 : Int)] 3)) := by kernel_rfl
set_option maxRecDepth 100000 in
set_option maxHeartbeats 8000000 in
theorem tilesKinds_any (v : Value) (l : List UInt8) (w : World) (hv : bytesArg w v l) (he : env w) :
    Calls Tryz.prog 6 #[v] w fun e w' => e = .returned (.bool true) ∧ Below w.heap.size w w' := by
  have HV := Lib.hid hv
  have HE := Lib.hid he
  have HAw := Lib.hid (awake13_any w he)
  obtain ⟨ao, cap, rfl, hc, hm, hs⟩ := hv
  have HS : Hid (sliceAt w ao l) := hs
  unfold maxLen at hm
  clear hs he
  by_cases hl : 2000 < l.length
  · go_enter Tryz.func6, Tryz.ntmps6
    go_wp2_with fail
    with_reducible refine (HAw.out).mono ?_
    rintro e w1 ⟨rfl, hb1⟩
    have HB1 := Lib.hid hb1
    clear hb1
    go_wp2
    go_ret
    exact ⟨rfl, HB1.out⟩
  · have HPa := Lib.hid (fun W h hE => parse13_any (.slice ao l.length cap) l W h (by omega) hE)
    have HQ := Lib.hid (tree_Q l)
    have HCt := Lib.hid (tree_count l)
    obtain ⟨T, hT⟩ : ∃ T, T = treeS l := ⟨_, rfl⟩
    rw [← hT] at HPa HQ HCt
    clear hT
    go_enter Tryz.func6, Tryz.ntmps6
    go_wp2_with fail
    with_reducible refine (HAw.out).mono ?_
    rintro e w1 ⟨rfl, hb1⟩
    have HB1 := Lib.hid hb1
    clear hb1
    go_wp2_with fail
    with_reducible refine (HPa.out _ ?h1 ?h2).mono ?_
    case h1 => exact HV.out.below HB1.out
    case h2 => exact HE.out.below HB1.out
    rintro e w5 ⟨kd, h2, b1, e1, e2, ka, kn, kc1, ca, cn, cc, rfl, ht, hb5⟩
    have HB5 := Lib.hid (HB1.out.trans (hb5.mono HB1.out.size))
    have hbX := below_new w5 (.cells #[.int .i64 kd, .int .i64 0, .int .i64 h2, .int .i64 b1, .int .i64 (l.length : Int), .slice ka kn kc1, .slice ca cn cc, .int .i64 e1, .int .i64 e2] 30)
    have HOf := Lib.hid (tOf_any T _ HQ.out.1 (by have := HCt.out; omega) (by have h1 := HCt.out; have h2 := tilesT_len T; omega) kd 0 h2 b1 (l.length : Int) e1 e2 ka ca kn kc1 cn cc _ (treeAt_below ht hbX))
    have HTy := Lib.hid (fun W (hb : Below w5.heap.size w5 W) => tally_any _ T (Nat.le_refl _) HQ.out.1 (by have := HCt.out; omega) _ W _ (treeAt_below ht hb))
    have HCn := Lib.hid (fun W (hb : Below w5.heap.size w5 W) => count_any _ T (Nat.le_refl _) _ W _ (treeAt_below ht hb) (by have := HCt.out; omega))
    have HB6 := Lib.hid hbX
    have HL := Lib.hid (heap_alloc_new w5 (.cells #[.int .i64 kd, .int .i64 0, .int .i64 h2, .int .i64 b1, .int .i64 (l.length : Int), .slice ka kn kc1, .slice ca cn cc, .int .i64 e1, .int .i64 e2] 30))
    have hlen : (tilesT T).length ≤ 6000 := by have h1 := HCt.out; have h2 := tilesT_len T; omega
    have HKd := Lib.hid (tilesT_kind T)
    have HKk := Lib.hid (kindsT T HQ.out.1)
    unfold talV at HTy
    obtain ⟨ts, hts⟩ : ∃ ts, ts = tilesT T := ⟨_, rfl⟩
    obtain ⟨cT, hcT⟩ : ∃ cT, cT = countT T := ⟨_, rfl⟩
    obtain ⟨lT, hlT⟩ : ∃ lT, lT = leavT T := ⟨_, rfl⟩
    obtain ⟨mT, hmT⟩ : ∃ mT, mT = multT T := ⟨_, rfl⟩
    obtain ⟨uT, huT⟩ : ∃ uT, uT = cutT T := ⟨_, rfl⟩
    rw [← hts] at HOf hlen HKd HKk
    rw [← hcT] at HCn HKk
    rw [← hlT] at HTy HKk
    rw [← hmT] at HTy HKk
    rw [← huT] at HTy HKk
    clear ht hb5 hbX HPa HQ HCt hts hcT hlT hmT huT
    go_wp2_with fail
    with_reducible refine (HOf.out).mono ?_
    rintro e w8 ⟨u, rfl, hown, hb8⟩
    have HB8 := Lib.hid (HB6.out.trans (hb8.mono HB6.out.size))
    have HL8 : Hid (w8.heap[w5.heap.size]? = some (.cells #[.int .i64 kd, .int .i64 0, .int .i64 h2, .int .i64 b1, .int .i64 (l.length : Int), .slice ka kn kc1, .slice ca cn cc, .int .i64 e1, .int .i64 e2] 30 (0, 0))) := (hb8.block _ (Array.getElem?_eq_some_iff.1 HL.out).1).trans HL.out
    obtain ⟨ao', cap', rfl, hc', hm', hcell⟩ := tlRow_at hown
    have HCl := Lib.hid hcell
    unfold maxLen at hm'
    clear hb8 hown hcell HOf
    have HNw := Lib.hid (heap_alloc_new w8 (.cells #[.int .i64 (0 : Int), .int .i64 (0 : Int), .int .i64 (0 : Int), .int .i64 (0 : Int), .int .i64 (0 : Int), .int .i64 (0 : Int)] 3))
    have hb9 := below_new w8 (.cells #[.int .i64 (0 : Int), .int .i64 (0 : Int), .int .i64 (0 : Int), .int .i64 (0 : Int), .int .i64 (0 : Int), .int .i64 (0 : Int)] 3)
    have HLt : Hid (w8.heap.size < (w8.alloc (.cells #[.int .i64 (0 : Int), .int .i64 (0 : Int), .int .i64 (0 : Int), .int .i64 (0 : Int), .int .i64 (0 : Int), .int .i64 (0 : Int)] 3)).heap.size) := by unfold Hid; simp
    have hmk := ints6 w8
    obtain ⟨X, hX⟩ : ∃ X, X = w8.alloc (.cells #[.int .i64 (0 : Int), .int .i64 (0 : Int), .int .i64 (0 : Int), .int .i64 (0 : Int), .int .i64 (0 : Int), .int .i64 (0 : Int)] 3) := ⟨_, rfl⟩
    rw [← hX] at HNw hb9 HLt hmk
    have HB9 := Lib.hid hb9
    clear hX hb9
    go_wp2_with fail
    go_loopg [8] ts.length (fun q x8 wr => ∃ (i n0 n1 n2 n3 n4 n5 : Nat), i ≤ ts.length ∧ q = ts.length - i ∧ x8 = .int .i64 (i : Int) ∧ Hid (wr.heap[w8.heap.size]? = some (.cells #[.int .i64 (n0 : Int), .int .i64 (n1 : Int), .int .i64 (n2 : Int), .int .i64 (n3 : Int), .int .i64 (n4 : Int), .int .i64 (n5 : Int)] 3 (0, 0))) ∧
      Hid (n0 = kN 0 (ts.take i) ∧ n1 = kN 1 (ts.take i) ∧ n2 = kN 2 (ts.take i) ∧ n3 = kN 3 (ts.take i) ∧ n4 = kN 4 (ts.take i) ∧ n5 = kN 5 (ts.take i)) ∧ Hid (Below w8.heap.size w8 wr))
    case atStart => exact ⟨0, 0, 0, 0, 0, 0, 0, Nat.zero_le _, rfl, rfl, HNw.out, ⟨by simp [kN], by simp [kN], by simp [kN], by simp [kN], by simp [kN], by simp [kN]⟩, HB9.out⟩
    case round =>
      obtain ⟨i, n0, n1, n2, n3, n4, n5, hi, rfl, rfl, HR, HN, HB⟩ := hrel
      by_cases hlt : i < ts.length
      · obtain ⟨g, rfl, hg, d0, _, _⟩ := HCl.out i hlt
        have hk5 := HKd.out ts[i] (List.getElem_mem hlt)
        have hT0 := kN_take 0 hlt
        have hT1 := kN_take 1 hlt
        have hT2 := kN_take 2 hlt
        have hT3 := kN_take 3 hlt
        have hT4 := kN_take 4 hlt
        have hT5 := kN_take 5 hlt
        obtain ⟨g0, g1, g2, g3, g4, g5⟩ := HN.out
        rw [← g0] at hT0
        rw [← g1] at hT1
        rw [← g2] at hT2
        rw [← g3] at hT3
        rw [← g4] at hT4
        rw [← g5] at hT5
        have l0 := kN_le 0 (ts.take i)
        have l1 := kN_le 1 (ts.take i)
        have l2 := kN_le 2 (ts.take i)
        have l3 := kN_le 3 (ts.take i)
        have l4 := kN_le 4 (ts.take i)
        have l5 := kN_le 5 (ts.take i)
        rw [← g0, List.length_take] at l0
        rw [← g1, List.length_take] at l1
        rw [← g2, List.length_take] at l2
        rw [← g3, List.length_take] at l3
        rw [← g4, List.length_take] at l4
        rw [← g5, List.length_take] at l5
        have m0 : n0 ≤ 6000 := by omega
        have m1 : n1 ≤ 6000 := by omega
        have m2 : n2 ≤ 6000 := by omega
        have m3 : n3 ≤ 6000 := by omega
        have m4 : n4 ≤ 6000 := by omega
        have m5 : n5 ≤ 6000 := by omega
        obtain ⟨k, hk⟩ : ∃ k, k = ts[i].1 := ⟨_, rfl⟩
        rw [← hk] at d0 hk5 hT0 hT1 hT2 hT3 hT4 hT5
        replace d0 := (HB.out.cell (p := ⟨g, i * 3, none⟩) hg).trans d0
        have hr := HR.out
        have s0 : wr.cell? ⟨w8.heap.size, 0, none⟩ = some (.int .i64 (n0 : Int)) := by simp [World.cell?, hr]
        have s1 : wr.cell? ⟨w8.heap.size, 1, none⟩ = some (.int .i64 (n1 : Int)) := by simp [World.cell?, hr]
        have s2 : wr.cell? ⟨w8.heap.size, 2, none⟩ = some (.int .i64 (n2 : Int)) := by simp [World.cell?, hr]
        have s3 : wr.cell? ⟨w8.heap.size, 3, none⟩ = some (.int .i64 (n3 : Int)) := by simp [World.cell?, hr]
        have s4 : wr.cell? ⟨w8.heap.size, 4, none⟩ = some (.int .i64 (n4 : Int)) := by simp [World.cell?, hr]
        have s5 : wr.cell? ⟨w8.heap.size, 5, none⟩ = some (.int .i64 (n5 : Int)) := by simp [World.cell?, hr]
        have f0 : wr.frozen? ⟨w8.heap.size, 0, none⟩ = false := by simp [World.frozen?, hr]
        have f1 : wr.frozen? ⟨w8.heap.size, 1, none⟩ = false := by simp [World.frozen?, hr]
        have f2 : wr.frozen? ⟨w8.heap.size, 2, none⟩ = false := by simp [World.frozen?, hr]
        have f3 : wr.frozen? ⟨w8.heap.size, 3, none⟩ = false := by simp [World.frozen?, hr]
        have f4 : wr.frozen? ⟨w8.heap.size, 4, none⟩ = false := by simp [World.frozen?, hr]
        have f5 : wr.frozen? ⟨w8.heap.size, 5, none⟩ = false := by simp [World.frozen?, hr]
        have HT := Lib.hid (And.intro hT0 (And.intro hT1 (And.intro hT2 (And.intro hT3 (And.intro hT4 hT5)))))
        have h6 : k = 0 ∨ k = 1 ∨ k = 2 ∨ k = 3 ∨ k = 4 ∨ k = 5 := by omega
        clear hr g0 g1 g2 g3 g4 g5 l0 l1 l2 l3 l4 l5 hT0 hT1 hT2 hT3 hT4 hT5 hk hk5
        rcases h6 with rfl | rfl | rfl | rfl | rfl | rfl
        · go_wp2_with fail
          go_roundg (ts.length - (i + 1))
          case measure => omega
          case rel => exact ⟨i + 1, n0 + 1, n1, n2, n3, n4, n5, by omega, rfl, by go_num, (row_set HR.out).trans (by rfl), ⟨by have h := HT.out.1; simpa using h.symm, by have h := HT.out.2.1; simpa using h.symm, by have h := HT.out.2.2.1; simpa using h.symm, by have h := HT.out.2.2.2.1; simpa using h.symm, by have h := HT.out.2.2.2.2.1; simpa using h.symm, by have h := HT.out.2.2.2.2.2; simpa using h.symm⟩, HB.out.setCell (p := ⟨w8.heap.size, 0, none⟩) (Nat.le_refl _) _⟩
        · go_wp2_with fail
          go_roundg (ts.length - (i + 1))
          case measure => omega
          case rel => exact ⟨i + 1, n0, n1 + 1, n2, n3, n4, n5, by omega, rfl, by go_num, (row_set HR.out).trans (by rfl), ⟨by have h := HT.out.1; simpa using h.symm, by have h := HT.out.2.1; simpa using h.symm, by have h := HT.out.2.2.1; simpa using h.symm, by have h := HT.out.2.2.2.1; simpa using h.symm, by have h := HT.out.2.2.2.2.1; simpa using h.symm, by have h := HT.out.2.2.2.2.2; simpa using h.symm⟩, HB.out.setCell (p := ⟨w8.heap.size, 1, none⟩) (Nat.le_refl _) _⟩
        · go_wp2_with fail
          go_roundg (ts.length - (i + 1))
          case measure => omega
          case rel => exact ⟨i + 1, n0, n1, n2 + 1, n3, n4, n5, by omega, rfl, by go_num, (row_set HR.out).trans (by rfl), ⟨by have h := HT.out.1; simpa using h.symm, by have h := HT.out.2.1; simpa using h.symm, by have h := HT.out.2.2.1; simpa using h.symm, by have h := HT.out.2.2.2.1; simpa using h.symm, by have h := HT.out.2.2.2.2.1; simpa using h.symm, by have h := HT.out.2.2.2.2.2; simpa using h.symm⟩, HB.out.setCell (p := ⟨w8.heap.size, 2, none⟩) (Nat.le_refl _) _⟩
        · go_wp2_with fail
          go_roundg (ts.length - (i + 1))
          case measure => omega
          case rel => exact ⟨i + 1, n0, n1, n2, n3 + 1, n4, n5, by omega, rfl, by go_num, (row_set HR.out).trans (by rfl), ⟨by have h := HT.out.1; simpa using h.symm, by have h := HT.out.2.1; simpa using h.symm, by have h := HT.out.2.2.1; simpa using h.symm, by have h := HT.out.2.2.2.1; simpa using h.symm, by have h := HT.out.2.2.2.2.1; simpa using h.symm, by have h := HT.out.2.2.2.2.2; simpa using h.symm⟩, HB.out.setCell (p := ⟨w8.heap.size, 3, none⟩) (Nat.le_refl _) _⟩
        · go_wp2_with fail
          go_roundg (ts.length - (i + 1))
          case measure => omega
          case rel => exact ⟨i + 1, n0, n1, n2, n3, n4 + 1, n5, by omega, rfl, by go_num, (row_set HR.out).trans (by rfl), ⟨by have h := HT.out.1; simpa using h.symm, by have h := HT.out.2.1; simpa using h.symm, by have h := HT.out.2.2.1; simpa using h.symm, by have h := HT.out.2.2.2.1; simpa using h.symm, by have h := HT.out.2.2.2.2.1; simpa using h.symm, by have h := HT.out.2.2.2.2.2; simpa using h.symm⟩, HB.out.setCell (p := ⟨w8.heap.size, 4, none⟩) (Nat.le_refl _) _⟩
        · go_wp2_with fail
          go_roundg (ts.length - (i + 1))
          case measure => omega
          case rel => exact ⟨i + 1, n0, n1, n2, n3, n4, n5 + 1, by omega, rfl, by go_num, (row_set HR.out).trans (by rfl), ⟨by have h := HT.out.1; simpa using h.symm, by have h := HT.out.2.1; simpa using h.symm, by have h := HT.out.2.2.1; simpa using h.symm, by have h := HT.out.2.2.2.1; simpa using h.symm, by have h := HT.out.2.2.2.2.1; simpa using h.symm, by have h := HT.out.2.2.2.2.2; simpa using h.symm⟩, HB.out.setCell (p := ⟨w8.heap.size, 5, none⟩) (Nat.le_refl _) _⟩
      · obtain rfl : i = ts.length := by omega
        obtain ⟨g0, g1, g2, g3, g4, g5⟩ := HN.out
        obtain ⟨k0, k1, k2, k3, k4, k5⟩ := HKk.out
        rw [List.take_length] at g0 g1 g2 g3 g4 g5
        rw [k0] at g0
        rw [k1] at g1
        rw [k2] at g2
        rw [k3] at g3
        rw [k4] at g4
        rw [k5] at g5
        rw [g0, g1, g2, g3, g4, g5] at HR
        have HB10 := Lib.hid (HB8.out.trans (HB.out.mono HB8.out.size))
        have HL9 : Hid (wr.heap[w5.heap.size]? = some (.cells #[.int .i64 kd, .int .i64 0, .int .i64 h2, .int .i64 b1, .int .i64 (l.length : Int), .slice ka kn kc1, .slice ca cn cc, .int .i64 e1, .int .i64 e2] 30 (0, 0))) := (HB.out.block _ (Array.getElem?_eq_some_iff.1 HL8.out).1).trans HL8.out
        have hl9 := HL9.out
        have c0 : wr.cell? ⟨w5.heap.size, 0, none⟩ = some (.int .i64 kd) := by simp [World.cell?, hl9]
        have c1 : wr.cell? ⟨w5.heap.size, 1, none⟩ = some (.int .i64 0) := by simp [World.cell?, hl9]
        have c2 : wr.cell? ⟨w5.heap.size, 2, none⟩ = some (.int .i64 h2) := by simp [World.cell?, hl9]
        have c3 : wr.cell? ⟨w5.heap.size, 3, none⟩ = some (.int .i64 b1) := by simp [World.cell?, hl9]
        have c4 : wr.cell? ⟨w5.heap.size, 4, none⟩ = some (.int .i64 (l.length : Int)) := by simp [World.cell?, hl9]
        have c5 : wr.cell? ⟨w5.heap.size, 5, none⟩ = some (.slice ka kn kc1) := by simp [World.cell?, hl9]
        have c6 : wr.cell? ⟨w5.heap.size, 6, none⟩ = some (.slice ca cn cc) := by simp [World.cell?, hl9]
        have c7 : wr.cell? ⟨w5.heap.size, 7, none⟩ = some (.int .i64 e1) := by simp [World.cell?, hl9]
        have c8 : wr.cell? ⟨w5.heap.size, 8, none⟩ = some (.int .i64 e2) := by simp [World.cell?, hl9]
        clear k0 k1 k2 k3 k4 k5 hl9 g0 g1 g2 g3 g4 g5
        go_wp2_with fail
        with_reducible refine (HTy.out _ HB10.out).mono ?_
        rintro e w11 ⟨rfl, hb11⟩
        have HB11 := Lib.hid (HB10.out.trans (hb11.mono HB10.out.size))
        have hl11 : w11.heap[w5.heap.size]? = some (.cells #[.int .i64 kd, .int .i64 0, .int .i64 h2, .int .i64 b1, .int .i64 (l.length : Int), .slice ka kn kc1, .slice ca cn cc, .int .i64 e1, .int .i64 e2] 30 (0, 0)) := (hb11.block _ (Array.getElem?_eq_some_iff.1 HL9.out).1).trans HL9.out
        have hr11 : w11.heap[w8.heap.size]? = some (.cells #[.int .i64 (cT : Int), .int .i64 (lT : Int), .int .i64 (mT : Int), .int .i64 (uT : Int), .int .i64 (mT : Int), .int .i64 (mT : Int)] 3 (0, 0)) := (hb11.block _ (Array.getElem?_eq_some_iff.1 HR.out).1).trans HR.out
        clear hb11 c0 c1 c2 c3 c4 c5 c6 c7 c8
        have c0 : ∀ z : BW w11, z.v.cell? ⟨w5.heap.size, 0, none⟩ = some (.int .i64 kd) := BW.cell (by simp [World.cell?, hl11])
        have c1 : ∀ z : BW w11, z.v.cell? ⟨w5.heap.size, 1, none⟩ = some (.int .i64 0) := BW.cell (by simp [World.cell?, hl11])
        have c2 : ∀ z : BW w11, z.v.cell? ⟨w5.heap.size, 2, none⟩ = some (.int .i64 h2) := BW.cell (by simp [World.cell?, hl11])
        have c3 : ∀ z : BW w11, z.v.cell? ⟨w5.heap.size, 3, none⟩ = some (.int .i64 b1) := BW.cell (by simp [World.cell?, hl11])
        have c4 : ∀ z : BW w11, z.v.cell? ⟨w5.heap.size, 4, none⟩ = some (.int .i64 (l.length : Int)) := BW.cell (by simp [World.cell?, hl11])
        have c5 : ∀ z : BW w11, z.v.cell? ⟨w5.heap.size, 5, none⟩ = some (.slice ka kn kc1) := BW.cell (by simp [World.cell?, hl11])
        have c6 : ∀ z : BW w11, z.v.cell? ⟨w5.heap.size, 6, none⟩ = some (.slice ca cn cc) := BW.cell (by simp [World.cell?, hl11])
        have c7 : ∀ z : BW w11, z.v.cell? ⟨w5.heap.size, 7, none⟩ = some (.int .i64 e1) := BW.cell (by simp [World.cell?, hl11])
        have c8 : ∀ z : BW w11, z.v.cell? ⟨w5.heap.size, 8, none⟩ = some (.int .i64 e2) := BW.cell (by simp [World.cell?, hl11])
        have s0 : ∀ z : BW w11, z.v.cell? ⟨w8.heap.size, 0, none⟩ = some (.int .i64 (cT : Int)) := BW.cell (by simp [World.cell?, hr11])
        have s1 : ∀ z : BW w11, z.v.cell? ⟨w8.heap.size, 1, none⟩ = some (.int .i64 (lT : Int)) := BW.cell (by simp [World.cell?, hr11])
        have s2 : ∀ z : BW w11, z.v.cell? ⟨w8.heap.size, 2, none⟩ = some (.int .i64 (mT : Int)) := BW.cell (by simp [World.cell?, hr11])
        have s3 : ∀ z : BW w11, z.v.cell? ⟨w8.heap.size, 3, none⟩ = some (.int .i64 (uT : Int)) := BW.cell (by simp [World.cell?, hr11])
        have s4 : ∀ z : BW w11, z.v.cell? ⟨w8.heap.size, 4, none⟩ = some (.int .i64 (mT : Int)) := BW.cell (by simp [World.cell?, hr11])
        have s5 : ∀ z : BW w11, z.v.cell? ⟨w8.heap.size, 5, none⟩ = some (.int .i64 (mT : Int)) := BW.cell (by simp [World.cell?, hr11])
        have q1 : ((cT : Int) == (cT : Int)) = true := by simp
        have q2 : ((lT : Int) == (lT : Int)) = true := by simp
        have q3 : ((mT : Int) == (mT : Int)) = true := by simp
        have q4 : ((uT : Int) == (uT : Int)) = true := by simp
        clear hl11 hr11 hm hm' hc hc' hlen hl
        go_upto_region 16 with fail
        refine wp_region_below (by kernel_rfl) (by kernel_rfl) ?_
        repeat (go_big_quiet_step ((go_at_call 10; exact BW.calls (HCn.out _ (HB11.out.trans ((BW.h _).mono HB11.out.size))))))
        refine wpQuiet_nil ?_
        rintro _ ⟨z, rfl⟩
        have HZ := Lib.hid (HB11.out.trans (z.h.mono HB11.out.size))
        go_wp2_with fail
        go_ret
        exact ⟨rfl, HB5.out.trans (HZ.out.mono HB5.out.size)⟩
end Go.Proofs.YtfgppamhbchhcaaGreatDoor
