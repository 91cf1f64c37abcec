/- Layer 20: StructureTokens. -/
import Derived.Test.YtkmgflnmffdhjaaGreatDoorGbStR
import Derived.Test.YtkmgflnmffdhjaaGreatDoorGbParX
import Derived.Test.YtkmgflnmffdhjaaGreatDoorGbWrM
import Derived.Test.YtkmgflnmffdhjaaGreatDoorGbAdG
namespace Go.Proofs.YtkmgflnmffdhjaaGreatDoor
open Go Go.RowKit

theorem row2_rd {W : World} {base n : Nat} {e : TypeId} {v : Value} {xs : List Value} (h : W.ownsRow base e 2 v n xs) (hn : 0 < n) : ∃ g cap, v = .slice (some ⟨g, 0, none⟩) n cap ∧ n ≤ cap ∧ g < W.heap.size ∧ ∀ j, j < n * 2 → W.cell? ⟨g, j, none⟩ = xs[j]? := by
  have h0 := h
  rcases h.2 with ⟨_, h1⟩ | ⟨g, cap, cur, rfl, h1, h2, h3, _⟩
  · omega
  · exact ⟨g, cap, rfl, h3, (Array.getElem?_eq_some_iff.1 h2).1, fun j hj => h0.cellAt j hj⟩
theorem tokC_get {ts : List (Nat × List UInt8)} {i kd : Nat} {t : List UInt8} (h : ts[i]? = some (kd, t)) : (tokCells ts)[i * 2]? = some (.int .i64 (kd : Int)) := by
  obtain ⟨hi, e⟩ := List.getElem?_eq_some_iff.1 h
  have := tokCells_at ts i hi
  rw [e] at this
  exact this.1
theorem st_toks2 (l : List UInt8) (all : Bool) (hl : l.length ≤ 1500) (t : Tr) : ∃ ts c, ts ≠ [] ∧ Lv ts c ∧ ts.length + 2 ≤ (stT l all t).length ∧ toksW ((stT l all t).length + 1) (stT l all t) = some ((3, []) :: (ts ++ [(4, [])])) := by
  obtain ⟨ts, c, h1, h2, h3, h4⟩ := st_whole l all hl t
  refine ⟨ts, c, lv_ne h2 h4, h2, h3, ?_⟩
  obtain ⟨k, hk⟩ : ∃ k, (stT l all t).length + 1 = (k + 1) + ((3, ([] : List UInt8)) :: (ts ++ [(4, ([] : List UInt8))])).length := ⟨(stT l all t).length - (ts.length + 2), by simp; omega⟩
  have := h1 [] (k + 1)
  rw [List.append_nil, toks_nil] at this
  rw [hk, this]
  simp
set_option maxRecDepth 100000 in
set_option maxHeartbeats 2000000 in
theorem structureTokens_any (v : Value) (l : List UInt8) (all : Bool) (w : World) (hv : bytesArg w v l) (he : env w) :
    Calls Tryz.prog 3 #[v, .bool all] w fun e w' => e = .returned (.bool true) ∧ Below w.heap.size w w' := by
  have HE := Lib.hid he
  have HAw := Lib.hid (awake20_any w he)
  have HV := Lib.hid hv
  obtain ⟨ao, cap, rfl, hc, hm, hs⟩ := hv
  unfold maxLen at hm
  clear hs he
  by_cases hbig : l.length ≤ 1500
  · have hlt : ¬ (1500 : Int) < (l.length : Int) := by omega
    have HPa := Lib.hid (fun W h h2 => treeParse_any (.slice ao l.length cap) l W h (by omega) h2)
    unfold treePost at HPa
    have hok := tree_okT l
    have hcb := tree_count l
    obtain ⟨t, ht⟩ : ∃ t, t = treeS l := ⟨_, rfl⟩
    rw [← ht] at HPa hok hcb
    clear ht
    have hbd := bds_of (n := l.length) (by omega) t hok
    have hlen := st_len l all (by omega) t hbd.1 hbd.2
    have hlen2 : countT t * 900000000 ≤ 1000 * 900000000 := Nat.mul_le_mul_right _ hcb
    obtain ⟨ts, c, hne, hlv, htl, htk⟩ := st_toks2 l all (by omega) t
    have HPu := Lib.hid (fun W u S h1 h2 h3 => sput_any ao cap all l W h2 (by omega) h3 t S u h1 hok (by omega))
    obtain ⟨PT, hPT⟩ : ∃ PT, PT = stT l all t := ⟨_, rfl⟩
    rw [← hPT] at HPu hlen htk htl
    obtain ⟨V, hV⟩ : ∃ V : ByteArray, V = ⟨PT.toArray⟩ := ⟨_, rfl⟩
    rw [← hV] at HPu
    have hVl : V.data.toList = PT := by rw [hV]
    have hVz : V.size ≤ 900000000000 := by rw [← len_toList, hVl]; omega
    rw [← hVl] at htk
    obtain ⟨F, hF⟩ : ∃ F : List (Nat × List UInt8), F = (3, []) :: (ts ++ [(4, [])]) := ⟨_, rfl⟩
    obtain ⟨hr1, hr2⟩ := put_run hlv hF
    have hFl : F.length = ts.length + 2 := by rw [hF]; simp
    have hts := List.length_pos_iff.2 hne
    rw [← hF] at htk
    have hFs : F.length ≤ 1000000000000 := by omega
    obtain ⟨K, hK⟩ : ∃ K, K = F.length := ⟨_, rfl⟩
    rw [← hK] at hr2 hFl hFs
    have hK3 : 3 ≤ K ∧ K ≤ 1000000000000 := by omega
    have hK4 : (2 : Int) < (K : Int) := by omega
    have hK2 : decide ((2 : Int) < (K : Int)) = true := decide_eq_true hK4
    have HR1 : Hid ((rnD (0, 0) F).1 = 0) := congrArg Prod.fst hr1
    have HR2 := Lib.hid hr2
    have HK := Lib.hid hK
    have HTk2 := Lib.hid htk
    clear hok hcb hbd hlen hlen2 hne hlv htl htk hPT hV hVl hF hr1 hr2 hFl hts hFs hK
    go_enter Tryz.func3, Tryz.ntmps3
    go_wp2_with fail
    with_reducible refine HAw.out.mono ?_
    rintro e w1 ⟨rfl, hb1⟩
    have HB1 := Lib.hid hb1
    clear hb1 HAw
    go_wp2_with fail
    with_reducible refine (HPa.out w1 (HV.out.below HB1.out) (HE.out.below HB1.out)).mono ?_
    rintro e w2 ⟨ka, kn, kc, ca, cn, cc, rfl, htr, hb2⟩
    have HB2 := Lib.hid (HB1.out.trans (hb2.mono HB1.out.size))
    clear hb2 HPa
    obtain ⟨Y, hY⟩ : ∃ Y, Y = w2.alloc (partO t.kind t.hd.1 t.hd.2 t.bd.1 t.bd.2 (.slice ka kn kc) (.slice ca cn cc) t.e.1 t.e.2) := ⟨_, rfl⟩
    have HBY : Hid (Below w2.heap.size w2 Y) := by rw [hY]; exact (Below.refl _ _).alloc (Nat.le_refl _) _
    have HPY : Hid (Y.heap[w2.heap.size]? = some (partO t.kind t.hd.1 t.hd.2 t.bd.1 t.bd.2 (.slice ka kn kc) (.slice ca cn cc) t.e.1 t.e.2)) := by unfold Hid; rw [hY]; exact heap_alloc_new _ _
    have HB3 := Lib.hid (HB2.out.trans (HBY.out.mono HB2.out.size))
    have HTr := Lib.hid (treeAt.keep (S' := fun k => w1.heap.size ≤ k) (W' := Y) (fun q hS hq => ⟨HBY.out.block q hq, hS⟩) _ _ htr)
    have hJ : w2.heap.size < Y.heap.size := (Array.getElem?_eq_some_iff.1 HPY.out).1
    unfold partO at hY
    have HY := Lib.hid hY
    clear hY htr HBY
    go_upto_region 7 with fail
    rw [← HY.out]
    clear HY
    obtain ⟨J, hJe⟩ : ∃ J, J = w2.heap.size := ⟨_, rfl⟩
    rw [← hJe] at HPY hJ ⊢
    clear hJe
    obtain ⟨p0, p1, p2, p3, p4, p5, p6, p7, p8⟩ := part_cells HPY.out
    go_wp2_with fail
    with_reducible refine (HPu.out _ _ _ HTr.out (HV.out.below HB3.out) (HE.out.below HB3.out)).mono ?_
    rintro e w4 ⟨rfl, hb4⟩
    have HB4 := Lib.hid (HB3.out.trans (hb4.mono HB3.out.size))
    obtain ⟨w5, cp5, hr5, ha5, hb5⟩ := conv_bytesArg (P := Tryz.prog) w4 9 22 5 V (by unfold maxLen; omega) Tryz.underlying9 Tryz.underlying22 Tryz.underlying5
    have HC5 := Lib.hid (wtokens_any _ V.data.toList w5 ha5 (by rw [len_toList]; omega))
    rw [HTk2.out] at HC5
    unfold TksW at HC5
    try simp only at HC5
    rw [← HK.out] at HC5
    have HB5 := Lib.hid (HB4.out.trans (hb5.mono HB4.out.size))
    clear hb4 ha5 hb5 HTk2 HPu HTr p0 p1 p2 p3 p4 p5 p6 p7 p8 HPY
    go_wp2_with fail
    with_reducible refine HC5.out.mono ?_
    rintro e w6 ⟨hb6, u6, rfl, ho6⟩
    obtain ⟨g4, cap4, rfl, hcp4, hgl4, hc4⟩ := row2_rd ho6 (by omega)
    have HC4 := Lib.hid hc4
    have HB6 := Lib.hid (HB5.out.trans (hb6.mono HB5.out.size))
    clear hb6 ho6 hc4 HC5 hr5
    go_wp2_with fail
    go_loopg [10, 11] K (fun g x10 x11 wr => ∃ (i : Nat) (d : Int), g = K - i ∧ i ≤ K ∧ x11 = .int .i64 (i : Int) ∧ x10 = .int .i64 d ∧ d ≤ i ∧ -(i : Int) ≤ d ∧ Hid ((rnD (0, 0) (F.take i)).1 = d) ∧ w6 = wr)
    case atStart => exact ⟨0, 0, by omega, by omega, rfl, rfl, by omega, by omega, rfl, rfl⟩
    case round =>
      obtain ⟨i, d, rfl, hi, rfl, rfl, hd1, hd2, HS, rfl⟩ := hrel
      by_cases hlt : i < K
      · have hq : (i : Int) < (K : Int) := by omega
        have hiF : i < F.length := by rw [← HK.out]; exact hlt
        obtain ⟨kd, tx, hkt⟩ : ∃ kd tx, F[i]? = some (kd, tx) := ⟨F[i].1, F[i].2, by rw [List.getElem?_eq_getElem hiF]⟩
        have x1 : w6.cell? ⟨g4, i * 2, none⟩ = some (.int .i64 (kd : Int)) := (HC4.out (i * 2) (by omega)).trans (tokC_get hkt)
        have HSt := Lib.hid (run_step hkt (0, 0))
        have hlast : i + 1 = K → F.take (i + 1) = F := fun hh => List.take_of_length_le (by rw [← HK.out]; omega)
        clear hkt hiF
        by_cases h3 : kd = 3
        · subst h3
          have hE : (rnD (0, 0) (F.take (i + 1))).1 = d + 1 := by
            rw [HSt.out, ← HS.out]
            unfold stD; simp
          have HE1 := Lib.hid hE
          by_cases hl : i + 1 < K
          · have hz := HR2.out i hl
            rw [hE] at hz
            have y1 : ¬ (d + 1 : Int) < 0 := by omega
            have y2 : decide ((d + 1 : Int) < 0) = false := decide_eq_false y1
            have y3 : ((d + 1 : Int) == 0) = false := beq_no (by omega)
            clear hz hE hlast HSt
            go_wp2_with fail
            go_roundg (K - (i + 1))
            case measure => omega
            case rel => exact ⟨i + 1, d + 1, rfl, hlt, by go_num, rfl, by omega, by omega, HE1.out, rfl⟩
          · replace hl : i + 1 = K := by omega
            have hz1 : d + 1 = 0 := by rw [← hE, hlast hl, HR1.out]
            have y1 : ¬ (d + 1 : Int) < 0 := by omega
            have y2 : decide ((d + 1 : Int) < 0) = false := decide_eq_false y1
            have y3 : ((d + 1 : Int) == 0) = true := beq_yes hz1
            have y4 : ¬ (i : Int) < (K : Int) - 1 := by omega
            have y5 : decide ((i : Int) < (K : Int) - 1) = false := decide_eq_false y4
            clear hz1 hE hlast HSt
            go_wp2_with fail
            go_roundg (K - (i + 1))
            case measure => omega
            case rel => exact ⟨i + 1, d + 1, rfl, hlt, by go_num, rfl, by omega, by omega, HE1.out, rfl⟩
        by_cases h4 : kd = 4
        · subst h4
          have hE : (rnD (0, 0) (F.take (i + 1))).1 = d - 1 := by
            rw [HSt.out, ← HS.out]
            unfold stD; simp
          have HE1 := Lib.hid hE
          by_cases hl : i + 1 < K
          · have hz := HR2.out i hl
            rw [hE] at hz
            have y1 : ¬ (d - 1 : Int) < 0 := by omega
            have y2 : decide ((d - 1 : Int) < 0) = false := decide_eq_false y1
            have y3 : ((d - 1 : Int) == 0) = false := beq_no (by omega)
            clear hz hE hlast HSt
            go_wp2_with fail
            go_roundg (K - (i + 1))
            case measure => omega
            case rel => exact ⟨i + 1, d - 1, rfl, hlt, by go_num, rfl, by omega, by omega, HE1.out, rfl⟩
          · replace hl : i + 1 = K := by omega
            have hz1 : d - 1 = 0 := by rw [← hE, hlast hl, HR1.out]
            have y1 : ¬ (d - 1 : Int) < 0 := by omega
            have y2 : decide ((d - 1 : Int) < 0) = false := decide_eq_false y1
            have y3 : ((d - 1 : Int) == 0) = true := beq_yes hz1
            have y4 : ¬ (i : Int) < (K : Int) - 1 := by omega
            have y5 : decide ((i : Int) < (K : Int) - 1) = false := decide_eq_false y4
            clear hz1 hE hlast HSt
            go_wp2_with fail
            go_roundg (K - (i + 1))
            case measure => omega
            case rel => exact ⟨i + 1, d - 1, rfl, hlt, by go_num, rfl, by omega, by omega, HE1.out, rfl⟩
        have c3 : ((kd : Int) == 3) = false := beq_no (by omega)
        have c4 : ((kd : Int) == 4) = false := beq_no (by omega)
        have hk3 : ¬ kd = 3 := h3
        have hk4 : ¬ kd = 4 := h4
        clear h3 h4
        have hE : (rnD (0, 0) (F.take (i + 1))).1 = d := by
          rw [HSt.out, ← HS.out]
          unfold stD; simp only [if_neg hk3, if_neg hk4]; omega
        have HE1 := Lib.hid hE
        by_cases hl : i + 1 < K
        · have hz := HR2.out i hl
          rw [hE] at hz
          have y1 : ¬ (d : Int) < 0 := by omega
          have y2 : decide ((d : Int) < 0) = false := decide_eq_false y1
          have y3 : ((d : Int) == 0) = false := beq_no (by omega)
          clear hz hE hlast HSt
          go_wp2_with fail
          go_roundg (K - (i + 1))
          case measure => omega
          case rel => exact ⟨i + 1, d, rfl, hlt, by go_num, rfl, by omega, by omega, HE1.out, rfl⟩
        · replace hl : i + 1 = K := by omega
          have hz1 : d = 0 := by rw [← hE, hlast hl, HR1.out]
          have y1 : ¬ (d : Int) < 0 := by omega
          have y2 : decide ((d : Int) < 0) = false := decide_eq_false y1
          have y3 : ((d : Int) == 0) = true := beq_yes hz1
          have y4 : ¬ (i : Int) < (K : Int) - 1 := by omega
          have y5 : decide ((i : Int) < (K : Int) - 1) = false := decide_eq_false y4
          clear hz1 hE hlast HSt
          go_wp2_with fail
          go_roundg (K - (i + 1))
          case measure => omega
          case rel => exact ⟨i + 1, d, rfl, hlt, by go_num, rfl, by omega, by omega, HE1.out, rfl⟩
      · have hz : d = 0 := by
          rw [← HS.out, List.take_of_length_le (by rw [← HK.out]; omega), HR1.out]
        subst hz
        go_wp2_with fail
        go_ret
        exact ⟨rfl, HB6.out⟩
  · have hlt : (1500 : Int) < (l.length : Int) := by omega
    go_enter Tryz.func3, Tryz.ntmps3
    go_wp2_with fail
    with_reducible refine HAw.out.mono ?_
    rintro e w1 ⟨rfl, hb1⟩
    go_wp2_with fail
    go_ret
    exact ⟨rfl, hb1⟩
end Go.Proofs.YtkmgflnmffdhjaaGreatDoor
