/- The law TilesAll. -/
import Derived.Test.YtfgppamhbchhcaaGreatDoorGb38
namespace Go.Proofs.YtfgppamhbchhcaaGreatDoor
open Go Go.RowKit

mutual
theorem tilesT_kind : ∀ t : Tr, ∀ x ∈ tilesT t, x.1 ≤ 5
  | .mk k hd bd ks cs e, x, hx => by
    simp only [tilesT, List.mem_cons] at hx
    rcases hx with rfl | hx
    · exact Nat.zero_le _
    · by_cases k1 : k = 1
      · rw [if_pos k1] at hx
        simp only [List.mem_cons, List.mem_append, List.not_mem_nil, or_false] at hx
        rcases hx with rfl | hx | rfl | rfl
        · show 2 ≤ 5; decide
        · exact tilesM_kind ks cs x hx
        · show 4 ≤ 5; decide
        · show 5 ≤ 5; decide
      · rw [if_neg k1] at hx
        by_cases k2 : k = 2
        · rw [if_pos k2] at hx
          exact tilesH_kind ks x hx
        · rw [if_neg k2] at hx
          simp only [List.mem_cons, List.not_mem_nil, or_false] at hx
          subst hx
          show 1 ≤ 5
          decide
theorem tilesM_kind : ∀ (ks : List Tr) (cs : List Sp), ∀ x ∈ tilesM ks cs, x.1 ≤ 5
  | [], _, x, hx => by rw [tilesM_nil] at hx; cases hx
  | t :: r, [], x, hx => by simp [tilesM] at hx
  | t :: r, c :: cs, x, hx => by
    rw [tilesM_cons] at hx
    simp only [List.mem_cons, List.mem_append] at hx
    rcases hx with rfl | hx | hx
    · show 3 ≤ 5; decide
    · exact tilesT_kind t x hx
    · exact tilesM_kind r cs x hx
theorem tilesH_kind : ∀ (ks : List Tr), ∀ x ∈ tilesH ks, x.1 ≤ 5
  | [], x, hx => by simp [tilesH] at hx
  | t :: r, x, hx => by
    simp only [tilesH] at hx
    exact tilesT_kind t x hx
end
theorem chainT_drop {ts : List Tl} {a b i : Nat} (h : i < ts.length) (hc : chainT a b (ts.drop i)) : ts[i].2.1 = a ∧ a ≤ ts[i].2.2 ∧ ts[i].2.2 ≤ b ∧ chainT ts[i].2.2 b (ts.drop (i + 1)) := by
  rw [List.drop_eq_getElem_cons h] at hc
  exact ⟨hc.1, hc.2.1, chainT_le hc.2.2, hc.2.2⟩
theorem take_part (l : List UInt8) {a b : Nat} (h : a ≤ b) : l.take a ++ partS l a b = l.take b := by
  unfold partS
  rw [show b = a + (b - a) by omega, List.take_add, show a + (b - a) - a = b - a by omega]
set_option maxRecDepth 100000 in
set_option maxHeartbeats 4000000 in
theorem tilesAll_any (v : Value) (l : List UInt8) (w : World) (hv : bytesArg w v l) (he : env w) :
    Calls Tryz.prog 5 #[v] w fun e w' => e = .returned (.bool true) ∧ Below w.heap.size w w' := by
  have HV := Lib.hid hv
  have HE := Lib.hid he
  have HAw := Lib.hid (awake13_any w he)
  obtain ⟨ao, cap, rfl, hc, hm, hs⟩ := hv
  have HS : Hid (sliceAt w ao l) := hs
  have hmm := hm
  unfold maxLen at hm
  clear hs he
  by_cases hl : 3000 < l.length
  · clear hmm
    go_enter Tryz.func5, Tryz.ntmps5
    go_wp2_with fail
    with_reducible refine (HAw.out).mono ?_
    rintro e w1 ⟨rfl, hb1⟩
    have HB1 := Lib.hid hb1
    clear hb1
    go_wp2
    go_ret
    exact ⟨rfl, HB1.out⟩
  · have HPa := Lib.hid (fun W h hE => parse13_any (.slice ao l.length cap) l W h (by omega) hE)
    have HQ := Lib.hid (tree_Q l)
    have HCt := Lib.hid (tree_count l)
    have HDp := Lib.hid (tree_deep l)
    have HMM := Lib.hid hmm
    obtain ⟨T, hT⟩ : ∃ T, T = treeS l := ⟨_, rfl⟩
    rw [← hT] at HPa HQ HCt HDp
    clear hT hmm
    go_enter Tryz.func5, Tryz.ntmps5
    go_wp2_with fail
    with_reducible refine (HAw.out).mono ?_
    rintro e w1 ⟨rfl, hb1⟩
    have HB1 := Lib.hid hb1
    clear hb1
    go_wp2_with fail
    with_reducible refine (HPa.out _ ?h1 ?h2).mono ?_
    case h1 => exact HV.out.below HB1.out
    case h2 => exact HE.out.below HB1.out
    rintro e w5 ⟨kd, h2, b1, e1, e2, ka, kn, kc1, ca, cn, cc, rfl, ht, hb5⟩
    have HB5 := Lib.hid (HB1.out.trans (hb5.mono HB1.out.size))
    have hbX := below_new w5 (.cells #[.int .i64 kd, .int .i64 0, .int .i64 h2, .int .i64 b1, .int .i64 (l.length : Int), .slice ka kn kc1, .slice ca cn cc, .int .i64 e1, .int .i64 e2] 30)
    have HC := Lib.hid (check_yes T l.length HQ.out.1 HCt.out HDp.out HQ.out.2.2.2 kd h2 b1 e1 e2 ka ca kn kc1 cn cc _ (treeAt_below ht hbX))
    have HOf := Lib.hid (fun W (hb : Below w5.heap.size w5 W) => tOf_any T _ HQ.out.1 (by have := HCt.out; omega) (by have h1 := HCt.out; have h2 := tilesT_len T; omega) kd 0 h2 b1 (l.length : Int) e1 e2 ka ca kn kc1 cn cc W (treeAt_below ht hb))
    have HBy := Lib.hid (fun W => tbytesI_any kd 0 h2 b1 (l.length : Int) e1 e2 ka ca kn kc1 cn cc W)
    have HB6 := Lib.hid hbX
    have HL := Lib.hid (heap_alloc_new w5 (.cells #[.int .i64 kd, .int .i64 0, .int .i64 h2, .int .i64 b1, .int .i64 (l.length : Int), .slice ka kn kc1, .slice ca cn cc, .int .i64 e1, .int .i64 e2] 30))
    have HCh := Lib.hid HQ.out.2.2.2
    have hlen : (tilesT T).length ≤ 6000 := by have h1 := HCt.out; have h2 := tilesT_len T; omega
    have HKd := Lib.hid (tilesT_kind T)
    obtain ⟨ts, hts⟩ : ∃ ts, ts = tilesT T := ⟨_, rfl⟩
    rw [← hts] at HOf HCh hlen HKd
    clear ht hb5 hbX HPa HQ HCt HDp hts
    go_wp2_with fail
    with_reducible refine (HC.out).mono ?_
    rintro e w7 ⟨rfl, hb7⟩
    have HB7 := Lib.hid (HB6.out.trans (hb7.mono HB6.out.size))
    have HL7 : Hid (w7.heap[w5.heap.size]? = some (.cells #[.int .i64 kd, .int .i64 0, .int .i64 h2, .int .i64 b1, .int .i64 (l.length : Int), .slice ka kn kc1, .slice ca cn cc, .int .i64 e1, .int .i64 e2] 30 (0, 0))) := (hb7.block _ (Array.getElem?_eq_some_iff.1 HL.out).1).trans HL.out
    have hl7 := HL7.out
    have c0 : w7.cell? ⟨w5.heap.size, 0, none⟩ = some (.int .i64 kd) := by simp [World.cell?, hl7]
    have c1 : w7.cell? ⟨w5.heap.size, 1, none⟩ = some (.int .i64 0) := by simp [World.cell?, hl7]
    have c2 : w7.cell? ⟨w5.heap.size, 2, none⟩ = some (.int .i64 h2) := by simp [World.cell?, hl7]
    have c3 : w7.cell? ⟨w5.heap.size, 3, none⟩ = some (.int .i64 b1) := by simp [World.cell?, hl7]
    have c4 : w7.cell? ⟨w5.heap.size, 4, none⟩ = some (.int .i64 (l.length : Int)) := by simp [World.cell?, hl7]
    have c5 : w7.cell? ⟨w5.heap.size, 5, none⟩ = some (.slice ka kn kc1) := by simp [World.cell?, hl7]
    have c6 : w7.cell? ⟨w5.heap.size, 6, none⟩ = some (.slice ca cn cc) := by simp [World.cell?, hl7]
    have c7 : w7.cell? ⟨w5.heap.size, 7, none⟩ = some (.int .i64 e1) := by simp [World.cell?, hl7]
    have c8 : w7.cell? ⟨w5.heap.size, 8, none⟩ = some (.int .i64 e2) := by simp [World.cell?, hl7]
    clear hb7 hl7 HC HL
    go_wp2_with fail
    with_reducible refine (HOf.out _ HB7.out).mono ?_
    rintro e w8 ⟨u, rfl, hown, hb8⟩
    have HB8 := Lib.hid (HB7.out.trans (hb8.mono HB7.out.size))
    have HL8 : Hid (w8.heap[w5.heap.size]? = some (.cells #[.int .i64 kd, .int .i64 0, .int .i64 h2, .int .i64 b1, .int .i64 (l.length : Int), .slice ka kn kc1, .slice ca cn cc, .int .i64 e1, .int .i64 e2] 30 (0, 0))) := (hb8.block _ (Array.getElem?_eq_some_iff.1 HL7.out).1).trans HL7.out
    obtain ⟨ao', cap', rfl, hc', hm', hcell⟩ := tlRow_at hown
    have HCl := Lib.hid hcell
    unfold maxLen at hm'
    clear hb8 hown hcell c0 c1 c2 c3 c4 c5 c6 c7 c8 HOf
    go_wp2_with fail
    go_loopg [7, 8] ts.length (fun q x7 x8 wr => ∃ (i : Nat) (T : ByteArray), i ≤ ts.length ∧ q = ts.length - i ∧ x7 = .string T ∧ x8 = .int .i64 (i : Int) ∧ T.size ≤ l.length ∧ Hid (T.data.toList = l.take T.size) ∧ Hid (chainT T.size l.length (ts.drop i)) ∧ Hid (Below w8.heap.size w8 wr))
    case atStart => exact ⟨0, ⟨#[]⟩, Nat.zero_le _, rfl, rfl, rfl, Nat.zero_le _, rfl, HCh.out, Below.refl _ _⟩
    case round =>
      obtain ⟨i, T, hi, rfl, rfl, rfl, hTl, HT, HCi, HB⟩ := hrel
      by_cases hlt : i < ts.length
      · obtain ⟨g, rfl, hg, d0, d1, d2⟩ := HCl.out i hlt
        obtain ⟨q1, q2, q3, q4⟩ := chainT_drop hlt HCi.out
        have hk5 := HKd.out ts[i] (List.getElem_mem hlt)
        rw [q1] at d1
        have HQ4 := Lib.hid q4
        obtain ⟨k, hk⟩ : ∃ k, k = ts[i].1 := ⟨_, rfl⟩
        obtain ⟨tb, htb⟩ : ∃ tb, tb = ts[i].2.2 := ⟨_, rfl⟩
        rw [← hk] at d0 hk5
        rw [← htb] at d2 q2 q3 HQ4
        clear hk htb q1 q4
        have hbx := HB.out.alloc HB.out.size (.cells #[.int .i64 (T.size : Int), .int .i64 (tb : Int)] 26)
        have d0' := (hbx.cell (p := ⟨g, i * 3, none⟩) hg).trans d0
        replace d1 := (HB.out.cell (p := ⟨g, i * 3 + 1, none⟩) hg).trans d1
        replace d2 := (HB.out.cell (p := ⟨g, i * 3 + 2, none⟩) hg).trans d2
        have HBx := Lib.hid hbx
        have hsX : sliceAt (wr.alloc (.cells #[.int .i64 (T.size : Int), .int .i64 (tb : Int)] 26)) ao l := HS.out.below (HB5.out.trans ((HB8.out.trans (hbx.mono HB8.out.size)).mono HB5.out.size))
        have t1 : ((T.size : Int) != (T.size : Int)) = false := bne_no rfl
        have n2 : decide (tb < T.size) = false := decide_eq_false (by omega)
        have n3 : decide (l.length < tb) = false := decide_eq_false (by omega)
        have n5 : decide (5 < k) = false := decide_eq_false (by omega)
        have t2 : decide ((tb : Int) < (T.size : Int)) = false := decide_eq_false (by omega)
        have t3 : decide ((l.length : Int) < (tb : Int)) = false := decide_eq_false (by omega)
        have t4 : decide ((k : Int) < 0) = false := decide_eq_false (by omega)
        have t5 : decide ((5 : Int) < (k : Int)) = false := decide_eq_false (by omega)
        obtain ⟨O, hO⟩ : ∃ O : ByteArray, O = ⟨(partS l T.size tb).toArray⟩ := ⟨_, rfl⟩
        have hOs : (T ++ O).size = tb := by
          rw [ByteArray.size_append, hO]
          show T.size + (partS l T.size tb).toArray.size = tb
          have := partS_len l (a := T.size) q3
          simp only [List.size_toArray]
          omega
        have HOl : Hid ((T ++ O).data.toList = l.take tb) := by
          unfold Hid
          rw [cat_toList, HT.out, hO, ← take_part l q2]
        have HOs := Lib.hid hOs
        have hOle : O.size ≤ 3000 := by rw [ByteArray.size_append] at hOs; omega
        have hTle : T.size ≤ 3000 := by omega
        clear d0 hbx hOs
        by_cases hcF : cap = T.size
        · have hcv := cut_string0 (W := wr.alloc (.cells #[.int .i64 (T.size : Int), .int .i64 (tb : Int)] 26)) (ao := ao) q2 q3 (by omega)
          rw [← hO] at hcv
          subst hcF
          clear hO hsX
          go_wp2_with fail
          go_roundg (ts.length - (i + 1))
          case measure => omega
          case rel => exact ⟨i + 1, T ++ O, by omega, rfl, rfl, by go_num, by rw [HOs.out]; exact q3, by rw [HOs.out]; exact HOl.out, by rw [HOs.out]; exact HQ4.out, HBx.out⟩
        · have hcv := cut_string hsX q2 q3 hc HMM.out
          rw [← hO] at hcv
          clear hO hsX
          go_wp2_with fail
          go_roundg (ts.length - (i + 1))
          case measure => omega
          case rel => exact ⟨i + 1, T ++ O, by omega, rfl, rfl, by go_num, by rw [HOs.out]; exact q3, by rw [HOs.out]; exact HOl.out, by rw [HOs.out]; exact HQ4.out, HBx.out⟩
      · obtain rfl : i = ts.length := by omega
        have hTe : T.size = l.length := by
          have := HCi.out
          rw [List.drop_length] at this
          exact this
        have hTB : T = ⟨l.toArray⟩ := by
          have h1 := HT.out
          rw [hTe, List.take_length] at h1
          apply ByteArray.ext
          rw [← h1]
        subst hTB
        have HB9 := Lib.hid (HB8.out.trans (HB.out.mono HB8.out.size))
        have hst := bytesArg_string (HV.out.below (HB5.out.trans (HB9.out.mono HB5.out.size)))
        obtain ⟨B, hB⟩ : ∃ B : ByteArray, B = ⟨l.toArray⟩ := ⟨_, rfl⟩
        rw [← hB] at hst ⊢
        have hBB : (B.toList == B.toList) = true := by simp
        have ks := span_same 0 (l.length : Int)
        have HL9 : Hid (wr.heap[w5.heap.size]? = some (.cells #[.int .i64 kd, .int .i64 0, .int .i64 h2, .int .i64 b1, .int .i64 (l.length : Int), .slice ka kn kc1, .slice ca cn cc, .int .i64 e1, .int .i64 e2] 30 (0, 0))) := (HB.out.block _ (Array.getElem?_eq_some_iff.1 HL8.out).1).trans HL8.out
        have hl9 := HL9.out
        have c0 : wr.cell? ⟨w5.heap.size, 0, none⟩ = some (.int .i64 kd) := by simp [World.cell?, hl9]
        have c1 : wr.cell? ⟨w5.heap.size, 1, none⟩ = some (.int .i64 0) := by simp [World.cell?, hl9]
        have c2 : wr.cell? ⟨w5.heap.size, 2, none⟩ = some (.int .i64 h2) := by simp [World.cell?, hl9]
        have c3 : wr.cell? ⟨w5.heap.size, 3, none⟩ = some (.int .i64 b1) := by simp [World.cell?, hl9]
        have c4 : wr.cell? ⟨w5.heap.size, 4, none⟩ = some (.int .i64 (l.length : Int)) := by simp [World.cell?, hl9]
        have c5 : wr.cell? ⟨w5.heap.size, 5, none⟩ = some (.slice ka kn kc1) := by simp [World.cell?, hl9]
        have c6 : wr.cell? ⟨w5.heap.size, 6, none⟩ = some (.slice ca cn cc) := by simp [World.cell?, hl9]
        have c7 : wr.cell? ⟨w5.heap.size, 7, none⟩ = some (.int .i64 e1) := by simp [World.cell?, hl9]
        have c8 : wr.cell? ⟨w5.heap.size, 8, none⟩ = some (.int .i64 e2) := by simp [World.cell?, hl9]
        clear hl9 hB HT HCi hTe hTl
        go_wp2_with fail
        with_reducible refine (HBy.out _).mono ?_
        rintro e w10 ⟨rfl, hb10⟩
        have HB10 := Lib.hid (HB9.out.trans (hb10.mono HB9.out.size))
        clear hb10 hst c0 c1 c2 c3 c4 c5 c6 c7 c8
        go_wp2_with fail
        go_ret
        exact ⟨rfl, HB5.out.trans (HB10.out.mono HB5.out.size)⟩
end Go.Proofs.YtfgppamhbchhcaaGreatDoor
