/- Statement EnvelopeTokens, for any envelope whose texts are of bounded bulk. -/
import Derived.Test.YtbphnlaoiikebaaGreatDoorGbEnT
import Derived.Test.YtbphnlaoiikebaaGreatDoorGbEnH
import Derived.Test.YtbphnlaoiikebaaGreatDoorGbWrM
import Derived.Test.YtbphnlaoiikebaaGreatDoorGbAdG
namespace Go.Proofs.YtbphnlaoiikebaaGreatDoor
open Go Go.RowKit

theorem row2_rd {W : World} {base n : Nat} {e : TypeId} {v : Value} {xs : List Value} (h : W.ownsRow base e 2 v n xs) (hn : 0 < n) : ∃ g cap, v = .slice (some ⟨g, 0, none⟩) n cap ∧ n ≤ cap ∧ g < W.heap.size ∧ ∀ j, j < n * 2 → W.cell? ⟨g, j, none⟩ = xs[j]? := by
  have h0 := h
  rcases h.2 with ⟨_, h1⟩ | ⟨g, cap, cur, rfl, h1, h2, h3, _⟩
  · omega
  · exact ⟨g, cap, rfl, h3, (Array.getElem?_eq_some_iff.1 h2).1, fun j hj => h0.cellAt j hj⟩
theorem tokC_get {ts : List (Nat × List UInt8)} {i kd : Nat} {t : List UInt8} (h : ts[i]? = some (kd, t)) : (tokCells ts)[i * 2]? = some (.int .i64 (kd : Int)) := by
  obtain ⟨hi, e⟩ := List.getElem?_eq_some_iff.1 h
  have := tokCells_at ts i hi
  rw [e] at this
  exact this.1
structure boundE (e : Env) (M : Nat) : Prop where
  hd : e.date.length ≤ M
  hs : e.subj.length ≤ M
  hr : e.reply.length ≤ M
  hi : e.id.length ≤ M
  s0 : smallX e.l0 M
  s1 : smallX e.l1 M
  s2 : smallX e.l2 M
  s3 : smallX e.l3 M
  s4 : smallX e.l4 M
  s5 : smallX e.l5 M
  n0 : e.l0.length ≤ M
  n1 : e.l1.length ≤ M
  n2 : e.l2.length ≤ M
  n3 : e.l3.length ≤ M
  n4 : e.l4.length ≤ M
  n5 : e.l5.length ≤ M
set_option maxRecDepth 100000 in
set_option maxHeartbeats 16000000 in
theorem envelopeTokens_any (e : Env) (v0 v1 v2 v3 v4 v5 : Value) (w : World) (h : EnvAt w e v0 v1 v2 v3 v4 v5) (hb : boundE e 1048576) (he : env w) :
    Calls Tryz.prog 4 #[envV e v0 v1 v2 v3 v4 v5] w fun o w' => o = .returned (.bool true) ∧ Below w.heap.size w w' := by
  have HEt := Lib.hid h
  have HBd := Lib.hid hb
  have HEn := Lib.hid he
  have HAw := Lib.hid (fun W h => awake19_any W h)
  obtain ⟨a0, k0, rfl, _, _, _⟩ := h.r0.at
  obtain ⟨a1, k1, rfl, _, _, _⟩ := h.r1.at
  obtain ⟨a2, k2, rfl, _, _, _⟩ := h.r2.at
  obtain ⟨a3, k3, rfl, _, _, _⟩ := h.r3.at
  obtain ⟨a4, k4, rfl, _, _, _⟩ := h.r4.at
  obtain ⟨a5, k5, rfl, _, _, _⟩ := h.r5.at
  have hn0 := hb.n0
  have hn1 := hb.n1
  have hn2 := hb.n2
  have hn3 := hb.n3
  have hn4 := hb.n4
  have hn5 := hb.n5
  have HPu := Lib.hid (fun W (hx : Below w.heap.size w W) (h30 : e.l0.length + e.l1.length + e.l2.length + e.l3.length + e.l4.length + e.l5.length ≤ 30) => eput_any e _ _ _ _ _ _ W (HEt.out.below hx) ⟨hb.hd, hb.hs, hb.hr, hb.hi, hb.s0, hb.s1, hb.s2, hb.s3, hb.s4, hb.s5, by omega, by omega, by omega, by omega, by omega, by omega⟩ (HEn.out.below hx).1)
  have HTk := Lib.hid (fun (h30 : e.l0.length + e.l1.length + e.l2.length + e.l3.length + e.l4.length + e.l5.length ≤ 30) => put_tks e 30 (by have := hb.hd; omega) (by have := hb.hs; omega) (by have := hb.hr; omega) (by have := hb.hi; omega) (smallX_more hb.s0 (by decide)) (smallX_more hb.s1 (by decide)) (smallX_more hb.s2 (by decide)) (smallX_more hb.s3 (by decide)) (smallX_more hb.s4 (by decide)) (smallX_more hb.s5 (by decide)) (by omega) (by omega) (by omega) (by omega) (by omega) (by omega))
  have HSz := Lib.hid (fun (h30 : e.l0.length + e.l1.length + e.l2.length + e.l3.length + e.l4.length + e.l5.length ≤ 30) => putE_size e hb.hd hb.hs hb.hr hb.hi hb.s0 hb.s1 hb.s2 hb.s3 hb.s4 hb.s5 h30)
  obtain ⟨PT, hPT⟩ : ∃ PT, PT = putE e := ⟨_, rfl⟩
  rw [← hPT] at HPu HTk HSz
  obtain ⟨V, hV⟩ : ∃ V : ByteArray, V = ⟨PT.toArray⟩ := ⟨_, rfl⟩
  rw [← hV] at HPu
  have HVl : Hid (V.data.toList = PT) := by unfold Hid; rw [hV]
  clear hPT h hb he hV
  obtain ⟨dt, sj, l0, l1, l2, l3, l4, l5, rp, id, b0, b1, b2, b3⟩ := e
  unfold envV at HPu ⊢
  simp only at HPu HTk HSz hn0 hn1 hn2 hn3 hn4 hn5 ⊢
  obtain ⟨D, hD⟩ : ∃ T : ByteArray, T = ⟨dt.toArray⟩ := ⟨_, rfl⟩
  rw [← hD] at HPu ⊢
  obtain ⟨S, hS⟩ : ∃ T : ByteArray, T = ⟨sj.toArray⟩ := ⟨_, rfl⟩
  rw [← hS] at HPu ⊢
  obtain ⟨P, hP⟩ : ∃ T : ByteArray, T = ⟨rp.toArray⟩ := ⟨_, rfl⟩
  rw [← hP] at HPu ⊢
  obtain ⟨I, hI⟩ : ∃ T : ByteArray, T = ⟨id.toArray⟩ := ⟨_, rfl⟩
  rw [← hI] at HPu ⊢
  obtain ⟨n0, hm0⟩ : ∃ n, n = l0.length := ⟨_, rfl⟩
  rw [← hm0] at HPu HTk HSz hn0 ⊢
  obtain ⟨n1, hm1⟩ : ∃ n, n = l1.length := ⟨_, rfl⟩
  rw [← hm1] at HPu HTk HSz hn1 ⊢
  obtain ⟨n2, hm2⟩ : ∃ n, n = l2.length := ⟨_, rfl⟩
  rw [← hm2] at HPu HTk HSz hn2 ⊢
  obtain ⟨n3, hm3⟩ : ∃ n, n = l3.length := ⟨_, rfl⟩
  rw [← hm3] at HPu HTk HSz hn3 ⊢
  obtain ⟨n4, hm4⟩ : ∃ n, n = l4.length := ⟨_, rfl⟩
  rw [← hm4] at HPu HTk HSz hn4 ⊢
  obtain ⟨n5, hm5⟩ : ∃ n, n = l5.length := ⟨_, rfl⟩
  rw [← hm5] at HPu HTk HSz hn5 ⊢
  clear hD hS hP hI hm0 hm1 hm2 hm3 hm4 hm5 HEt HBd
  obtain ⟨X, hX⟩ : ∃ X, X = w.alloc (.cells #[.string D, .string S, .slice a0 n0 k0, .slice a1 n1 k1, .slice a2 n2 k2, .slice a3 n3 k3, .slice a4 n4 k4, .slice a5 n5 k5, .string P, .string I, .bool b0, .bool b1, .bool b2, .bool b3] 34) := ⟨_, rfl⟩
  have hc : X.heap[w.heap.size]? = some (.cells #[.string D, .string S, .slice a0 n0 k0, .slice a1 n1 k1, .slice a2 n2 k2, .slice a3 n3 k3, .slice a4 n4 k4, .slice a5 n5 k5, .string P, .string I, .bool b0, .bool b1, .bool b2, .bool b3] 34 (0, 0)) := by rw [hX]; exact heap_alloc_new w _
  have HB0 : Hid (Below w.heap.size w X) := by rw [hX]; exact (Below.refl _ _).alloc (Nat.le_refl _) _
  have hw1 : w.heap.size < X.heap.size := by rw [hX]; simp
  have HX := Lib.hid hX
  obtain ⟨B, hB⟩ : ∃ B, B = w.heap.size := ⟨_, rfl⟩
  rw [← hB] at hc hw1
  have HBw := Lib.hid hB
  have HC := Lib.hid hc
  clear hX hB hc
  go_enter Tryz.func4, Tryz.ntmps4
  go_wp2_with fail
  rw [← HX.out, ← HBw.out]
  with_reducible refine (HAw.out _ (HEn.out.below HB0.out)).mono ?_
  rintro e w1 ⟨rfl, hb1⟩
  have hc1 := (hb1.block B hw1).trans HC.out
  have HB1 := Lib.hid (HB0.out.trans (hb1.mono HB0.out.size))
  have x0 : w1.cell? ⟨B, 0, none⟩ = some (.string D) := by simp [World.cell?, hc1]
  have x1 : w1.cell? ⟨B, 1, none⟩ = some (.string S) := by simp [World.cell?, hc1]
  have x2 : w1.cell? ⟨B, 2, none⟩ = some (.slice a0 n0 k0) := by simp [World.cell?, hc1]
  have x3 : w1.cell? ⟨B, 3, none⟩ = some (.slice a1 n1 k1) := by simp [World.cell?, hc1]
  have x4 : w1.cell? ⟨B, 4, none⟩ = some (.slice a2 n2 k2) := by simp [World.cell?, hc1]
  have x5 : w1.cell? ⟨B, 5, none⟩ = some (.slice a3 n3 k3) := by simp [World.cell?, hc1]
  have x6 : w1.cell? ⟨B, 6, none⟩ = some (.slice a4 n4 k4) := by simp [World.cell?, hc1]
  have x7 : w1.cell? ⟨B, 7, none⟩ = some (.slice a5 n5 k5) := by simp [World.cell?, hc1]
  have x8 : w1.cell? ⟨B, 8, none⟩ = some (.string P) := by simp [World.cell?, hc1]
  have x9 : w1.cell? ⟨B, 9, none⟩ = some (.string I) := by simp [World.cell?, hc1]
  have x10 : w1.cell? ⟨B, 10, none⟩ = some (.bool b0) := by simp [World.cell?, hc1]
  have x11 : w1.cell? ⟨B, 11, none⟩ = some (.bool b1) := by simp [World.cell?, hc1]
  have x12 : w1.cell? ⟨B, 12, none⟩ = some (.bool b2) := by simp [World.cell?, hc1]
  have x13 : w1.cell? ⟨B, 13, none⟩ = some (.bool b3) := by simp [World.cell?, hc1]
  clear hc1 hb1 HX HC
  go_wp2_with fail
  refine wp_loop_rounds 7 ?_
  rw [rounds_succ]; go_wp2_with fail
  rw [rounds_succ]; go_wp2_with fail
  rw [rounds_succ]; go_wp2_with fail
  rw [rounds_succ]; go_wp2_with fail
  rw [rounds_succ]; go_wp2_with fail
  rw [rounds_succ]; go_wp2_with fail
  rw [rounds_succ]; go_wp2_with fail
  · go_ret
    exact ⟨rfl, HB1.out⟩
  have h30 : n0 + n1 + n2 + n3 + n4 + n5 ≤ 30 := by omega
  obtain ⟨ts, hlv, hl1, hl2, htk⟩ := HTk.out h30
  have hsz := HSz.out h30
  have hVz : V.size ≤ 300000000 := by rw [← len_toList, HVl.out]; exact hsz
  have htk2 := htk (V.data.toList.length + 1) (by rw [HVl.out]; omega)
  rw [← HVl.out] at htk2
  obtain ⟨F, hF⟩ : ∃ F : List (Nat × List UInt8), F = (3, []) :: (ts ++ [(4, [])]) := ⟨_, rfl⟩
  obtain ⟨hr1, hr2⟩ := put_run hlv hF
  have hFl : F.length = ts.length + 2 := by rw [hF]; simp
  rw [← hF] at htk2
  obtain ⟨K, hK⟩ : ∃ K, K = F.length := ⟨_, rfl⟩
  rw [← hK] at hr2 hFl
  have hK4 : 2 ≤ K ∧ K ≤ 4000 := by omega
  have HR1 := Lib.hid hr1
  have HR2 := Lib.hid hr2
  have HK := Lib.hid hK
  have HTk2 := Lib.hid htk2
  have HPx := Lib.hid (HPu.out w1 HB1.out h30)
  clear hlv hl1 hl2 htk hsz htk2 hF hr1 hr2 hFl hK HTk HSz HPu x0 x1 x2 x3 x4 x5 x6 x7 x8 x9 x10 x11 x12 x13 hn0 hn1 hn2 hn3 hn4 hn5
  with_reducible refine HPx.out.mono ?_
  rintro e w2 ⟨rfl, hb2⟩
  have HB2 := Lib.hid (HB1.out.trans (hb2.mono HB1.out.size))
  obtain ⟨w3, cp3, hr3, ha3, hb3⟩ := conv_bytesArg (P := Tryz.prog) w2 9 39 5 V (by unfold maxLen; omega) Tryz.underlying9 Tryz.underlying39 Tryz.underlying5
  have HC3 := Lib.hid (wtokens_any _ V.data.toList w3 ha3 (by simp; omega))
  rw [HTk2.out] at HC3
  unfold TksW at HC3
  try simp only at HC3
  rw [← HK.out] at HC3
  have HB3 := Lib.hid (HB2.out.trans (hb3.mono HB2.out.size))
  clear hb2 ha3 hb3 HPx HTk2
  go_wp2_with fail
  with_reducible refine HC3.out.mono ?_
  rintro e w4 ⟨hb4, u4, rfl, ho4⟩
  obtain ⟨g4, cap4, rfl, hcp4, hgl4, hc4⟩ := row2_rd ho4 (by omega)
  have HC4 := Lib.hid hc4
  have HB4 := Lib.hid (HB3.out.trans (hb4.mono HB3.out.size))
  clear hb4 ho4 hc4 HC3 hr3
  go_wp2_with fail
  go_loopg [8, 9, 10] K (fun g x8 x9 x10 wr => ∃ (i n : Nat) (d : Int), g = K - i ∧ i ≤ K ∧ x10 = .int .i64 (i : Int) ∧ x8 = .int .i64 d ∧ x9 = .int .i64 (n : Int) ∧ n ≤ i ∧ d ≤ i ∧ -(i : Int) ≤ d ∧ Hid (rnD (0, 0) (F.take i) = (d, n)) ∧ w4 = wr)
  case atStart => exact ⟨0, 0, 0, by omega, by omega, rfl, rfl, rfl, by omega, by omega, by omega, rfl, rfl⟩
  case round =>
    obtain ⟨i, n, d, rfl, hi, rfl, rfl, rfl, hni, hd1, hd2, HS, rfl⟩ := hrel
    by_cases hlt : i < K
    · have hq : (i : Int) < (K : Int) := by omega
      have hiF : i < F.length := by rw [← HK.out]; exact hlt
      obtain ⟨kd, tx, hkt⟩ : ∃ kd tx, F[i]? = some (kd, tx) := ⟨F[i].1, F[i].2, by rw [List.getElem?_eq_getElem hiF]⟩
      have x1 : w4.cell? ⟨g4, i * 2, none⟩ = some (.int .i64 (kd : Int)) := (HC4.out (i * 2) (by omega)).trans (tokC_get hkt)
      have hst := run_step hkt (0, 0)
      rw [HS.out] at hst
      have HSt := Lib.hid hst
      have hlast : i + 1 = K → F.take (i + 1) = F := fun hh => List.take_of_length_le (by rw [← HK.out]; omega)
      clear hst hkt hiF
      by_cases h1 : kd = 1
      · subst h1
        by_cases hd : d = 1
        · subst hd
          by_cases hl : i + 1 < K
          · have hE : rnD (0, 0) (F.take (i + 1)) = ((1 : Int), n + 1) := by
              rw [HSt.out]
              unfold stD
              simp
            have HE := Lib.hid hE
            have hz := HR2.out i hl
            rw [hE] at hz
            have hz1 : (1 : Int) ≤ 1 := hz
            have y1 : ¬ (1 : Int) < 0 := by omega
            have y2 : decide ((1 : Int) < 0) = false := decide_eq_false y1
            have y3 : ((1 : Int) == 0) = false := beq_no (by omega)
            clear hz
            clear hE hlast HSt
            go_wp2_with fail
            go_roundg (K - (i + 1))
            case measure => omega
            case rel => exact ⟨i + 1, n + 1, 1, rfl, hlt, by go_num, rfl, by go_num, by omega, by omega, by omega, HE.out, rfl⟩
          · replace hl : i + 1 = K := by omega
            have hE : rnD (0, 0) (F.take (i + 1)) = ((1 : Int), n + 1) := by
              rw [HSt.out]
              unfold stD
              simp
            have HE := Lib.hid hE
            have hz : ((1 : Int), n + 1) = ((0 : Int), 10) := by rw [← hE, hlast hl, HR1.out]
            have hz1 : (1 : Int) = 0 := congrArg Prod.fst hz
            exact absurd hz1 (by decide)
        · have b1 : (d == 1) = false := beq_no hd
          by_cases hl : i + 1 < K
          · have hE : rnD (0, 0) (F.take (i + 1)) = ((d : Int), n) := by
              rw [HSt.out]
              unfold stD
              simp [hd]
            have HE := Lib.hid hE
            have hz := HR2.out i hl
            rw [hE] at hz
            have hz1 : (1 : Int) ≤ d := hz
            have y1 : ¬ (d : Int) < 0 := by omega
            have y2 : decide ((d : Int) < 0) = false := decide_eq_false y1
            have y3 : ((d : Int) == 0) = false := beq_no (by omega)
            clear hz
            clear hE hlast HSt
            go_wp2_with fail
            go_roundg (K - (i + 1))
            case measure => omega
            case rel => exact ⟨i + 1, n, d, rfl, hlt, by go_num, rfl, rfl, by omega, by omega, by omega, HE.out, rfl⟩
          · replace hl : i + 1 = K := by omega
            have hE : rnD (0, 0) (F.take (i + 1)) = ((d : Int), n) := by
              rw [HSt.out]
              unfold stD
              simp [hd]
            have HE := Lib.hid hE
            have hz : ((d : Int), n) = ((0 : Int), 10) := by rw [← hE, hlast hl, HR1.out]
            have hz1 : (d : Int) = 0 := congrArg Prod.fst hz
            have y1 : ¬ (d : Int) < 0 := by omega
            have y2 : decide ((d : Int) < 0) = false := decide_eq_false y1
            have y3 : ((d : Int) == 0) = true := beq_yes hz1
            have y4 : ¬ (i : Int) < (K : Int) - 1 := by omega
            have y5 : decide ((i : Int) < (K : Int) - 1) = false := decide_eq_false y4
            clear hz hz1
            clear hE hlast HSt
            go_wp2_with fail
            go_roundg (K - (i + 1))
            case measure => omega
            case rel => exact ⟨i + 1, n, d, rfl, hlt, by go_num, rfl, rfl, by omega, by omega, by omega, HE.out, rfl⟩
      by_cases h2 : kd = 2
      · subst h2
        by_cases hd : d = 1
        · subst hd
          by_cases hl : i + 1 < K
          · have hE : rnD (0, 0) (F.take (i + 1)) = ((1 : Int), n + 1) := by
              rw [HSt.out]
              unfold stD
              simp
            have HE := Lib.hid hE
            have hz := HR2.out i hl
            rw [hE] at hz
            have hz1 : (1 : Int) ≤ 1 := hz
            have y1 : ¬ (1 : Int) < 0 := by omega
            have y2 : decide ((1 : Int) < 0) = false := decide_eq_false y1
            have y3 : ((1 : Int) == 0) = false := beq_no (by omega)
            clear hz
            clear hE hlast HSt
            go_wp2_with fail
            go_roundg (K - (i + 1))
            case measure => omega
            case rel => exact ⟨i + 1, n + 1, 1, rfl, hlt, by go_num, rfl, by go_num, by omega, by omega, by omega, HE.out, rfl⟩
          · replace hl : i + 1 = K := by omega
            have hE : rnD (0, 0) (F.take (i + 1)) = ((1 : Int), n + 1) := by
              rw [HSt.out]
              unfold stD
              simp
            have HE := Lib.hid hE
            have hz : ((1 : Int), n + 1) = ((0 : Int), 10) := by rw [← hE, hlast hl, HR1.out]
            have hz1 : (1 : Int) = 0 := congrArg Prod.fst hz
            exact absurd hz1 (by decide)
        · have b1 : (d == 1) = false := beq_no hd
          by_cases hl : i + 1 < K
          · have hE : rnD (0, 0) (F.take (i + 1)) = ((d : Int), n) := by
              rw [HSt.out]
              unfold stD
              simp [hd]
            have HE := Lib.hid hE
            have hz := HR2.out i hl
            rw [hE] at hz
            have hz1 : (1 : Int) ≤ d := hz
            have y1 : ¬ (d : Int) < 0 := by omega
            have y2 : decide ((d : Int) < 0) = false := decide_eq_false y1
            have y3 : ((d : Int) == 0) = false := beq_no (by omega)
            clear hz
            clear hE hlast HSt
            go_wp2_with fail
            go_roundg (K - (i + 1))
            case measure => omega
            case rel => exact ⟨i + 1, n, d, rfl, hlt, by go_num, rfl, rfl, by omega, by omega, by omega, HE.out, rfl⟩
          · replace hl : i + 1 = K := by omega
            have hE : rnD (0, 0) (F.take (i + 1)) = ((d : Int), n) := by
              rw [HSt.out]
              unfold stD
              simp [hd]
            have HE := Lib.hid hE
            have hz : ((d : Int), n) = ((0 : Int), 10) := by rw [← hE, hlast hl, HR1.out]
            have hz1 : (d : Int) = 0 := congrArg Prod.fst hz
            have y1 : ¬ (d : Int) < 0 := by omega
            have y2 : decide ((d : Int) < 0) = false := decide_eq_false y1
            have y3 : ((d : Int) == 0) = true := beq_yes hz1
            have y4 : ¬ (i : Int) < (K : Int) - 1 := by omega
            have y5 : decide ((i : Int) < (K : Int) - 1) = false := decide_eq_false y4
            clear hz hz1
            clear hE hlast HSt
            go_wp2_with fail
            go_roundg (K - (i + 1))
            case measure => omega
            case rel => exact ⟨i + 1, n, d, rfl, hlt, by go_num, rfl, rfl, by omega, by omega, by omega, HE.out, rfl⟩
      by_cases h3 : kd = 3
      · subst h3
        by_cases hd : d = 1
        · subst hd
          by_cases hl : i + 1 < K
          · have hE : rnD (0, 0) (F.take (i + 1)) = ((2 : Int), n + 1) := by
              rw [HSt.out]
              unfold stD
              simp
            have HE := Lib.hid hE
            have hz := HR2.out i hl
            rw [hE] at hz
            have hz1 : (1 : Int) ≤ 2 := hz
            have y1 : ¬ (2 : Int) < 0 := by omega
            have y2 : decide ((2 : Int) < 0) = false := decide_eq_false y1
            have y3 : ((2 : Int) == 0) = false := beq_no (by omega)
            clear hz
            clear hE hlast HSt
            go_wp2_with fail
            go_roundg (K - (i + 1))
            case measure => omega
            case rel => exact ⟨i + 1, n + 1, 2, rfl, hlt, by go_num, rfl, by go_num, by omega, by omega, by omega, HE.out, rfl⟩
          · replace hl : i + 1 = K := by omega
            have hE : rnD (0, 0) (F.take (i + 1)) = ((2 : Int), n + 1) := by
              rw [HSt.out]
              unfold stD
              simp
            have HE := Lib.hid hE
            have hz : ((2 : Int), n + 1) = ((0 : Int), 10) := by rw [← hE, hlast hl, HR1.out]
            have hz1 : (2 : Int) = 0 := congrArg Prod.fst hz
            exact absurd hz1 (by decide)
        · have b1 : (d == 1) = false := beq_no hd
          by_cases hl : i + 1 < K
          · have hE : rnD (0, 0) (F.take (i + 1)) = ((d + 1 : Int), n) := by
              rw [HSt.out]
              unfold stD
              simp [hd]
              try omega
            have HE := Lib.hid hE
            have hz := HR2.out i hl
            rw [hE] at hz
            have hz1 : (1 : Int) ≤ d + 1 := hz
            have y1 : ¬ (d + 1 : Int) < 0 := by omega
            have y2 : decide ((d + 1 : Int) < 0) = false := decide_eq_false y1
            have y3 : ((d + 1 : Int) == 0) = false := beq_no (by omega)
            clear hz
            clear hE hlast HSt
            go_wp2_with fail
            go_roundg (K - (i + 1))
            case measure => omega
            case rel => exact ⟨i + 1, n, d + 1, rfl, hlt, by go_num, rfl, rfl, by omega, by omega, by omega, HE.out, rfl⟩
          · replace hl : i + 1 = K := by omega
            have hE : rnD (0, 0) (F.take (i + 1)) = ((d + 1 : Int), n) := by
              rw [HSt.out]
              unfold stD
              simp [hd]
              try omega
            have HE := Lib.hid hE
            have hz : ((d + 1 : Int), n) = ((0 : Int), 10) := by rw [← hE, hlast hl, HR1.out]
            have hz1 : (d + 1 : Int) = 0 := congrArg Prod.fst hz
            have y1 : ¬ (d + 1 : Int) < 0 := by omega
            have y2 : decide ((d + 1 : Int) < 0) = false := decide_eq_false y1
            have y3 : ((d + 1 : Int) == 0) = true := beq_yes hz1
            have y4 : ¬ (i : Int) < (K : Int) - 1 := by omega
            have y5 : decide ((i : Int) < (K : Int) - 1) = false := decide_eq_false y4
            clear hz hz1
            clear hE hlast HSt
            go_wp2_with fail
            go_roundg (K - (i + 1))
            case measure => omega
            case rel => exact ⟨i + 1, n, d + 1, rfl, hlt, by go_num, rfl, rfl, by omega, by omega, by omega, HE.out, rfl⟩
      by_cases h4 : kd = 4
      · subst h4
        by_cases hd : d = 1
        · subst hd
          by_cases hl : i + 1 < K
          · have hE : rnD (0, 0) (F.take (i + 1)) = ((0 : Int), n) := by
              rw [HSt.out]
              unfold stD
              simp
            have HE := Lib.hid hE
            have hz := HR2.out i hl
            rw [hE] at hz
            have hz1 : (1 : Int) ≤ 0 := hz
            exact absurd hz1 (by decide)
          · replace hl : i + 1 = K := by omega
            have hE : rnD (0, 0) (F.take (i + 1)) = ((0 : Int), n) := by
              rw [HSt.out]
              unfold stD
              simp
            have HE := Lib.hid hE
            have hz : ((0 : Int), n) = ((0 : Int), 10) := by rw [← hE, hlast hl, HR1.out]
            have hz1 : (0 : Int) = 0 := congrArg Prod.fst hz
            have y1 : ¬ (0 : Int) < 0 := by omega
            have y2 : decide ((0 : Int) < 0) = false := decide_eq_false y1
            have y3 : ((0 : Int) == 0) = true := beq_yes hz1
            have y4 : ¬ (i : Int) < (K : Int) - 1 := by omega
            have y5 : decide ((i : Int) < (K : Int) - 1) = false := decide_eq_false y4
            clear hz hz1
            clear hE hlast HSt
            go_wp2_with fail
            go_roundg (K - (i + 1))
            case measure => omega
            case rel => exact ⟨i + 1, n, 0, rfl, hlt, by go_num, rfl, rfl, by omega, by omega, by omega, HE.out, rfl⟩
        · have b1 : (d == 1) = false := beq_no hd
          by_cases hl : i + 1 < K
          · have hE : rnD (0, 0) (F.take (i + 1)) = ((d - 1 : Int), n) := by
              rw [HSt.out]
              unfold stD
              simp [hd]
              try omega
            have HE := Lib.hid hE
            have hz := HR2.out i hl
            rw [hE] at hz
            have hz1 : (1 : Int) ≤ d - 1 := hz
            have y1 : ¬ (d - 1 : Int) < 0 := by omega
            have y2 : decide ((d - 1 : Int) < 0) = false := decide_eq_false y1
            have y3 : ((d - 1 : Int) == 0) = false := beq_no (by omega)
            clear hz
            clear hE hlast HSt
            go_wp2_with fail
            go_roundg (K - (i + 1))
            case measure => omega
            case rel => exact ⟨i + 1, n, d - 1, rfl, hlt, by go_num, rfl, rfl, by omega, by omega, by omega, HE.out, rfl⟩
          · replace hl : i + 1 = K := by omega
            have hE : rnD (0, 0) (F.take (i + 1)) = ((d - 1 : Int), n) := by
              rw [HSt.out]
              unfold stD
              simp [hd]
              try omega
            have HE := Lib.hid hE
            have hz : ((d - 1 : Int), n) = ((0 : Int), 10) := by rw [← hE, hlast hl, HR1.out]
            have hz1 : (d - 1 : Int) = 0 := congrArg Prod.fst hz
            exact absurd hz1 (by omega)
      have c1 : ((kd : Int) == 1) = false := beq_no (by omega)
      have c2 : ((kd : Int) == 2) = false := beq_no (by omega)
      have c3 : ((kd : Int) == 3) = false := beq_no (by omega)
      have c4 : ((kd : Int) == 4) = false := beq_no (by omega)
      have hk3 : ¬ kd = 3 := h3
      have hk4 : ¬ kd = 4 := h4
      have hkn : ¬ (kd = 1 ∨ kd = 2 ∨ kd = 3) := by omega
      clear h1 h2 h3 h4
      by_cases hd : d = 1
      · subst hd
        by_cases hl : i + 1 < K
        · have hE : rnD (0, 0) (F.take (i + 1)) = ((1 : Int), n) := by
            rw [HSt.out]
            unfold stD
            simp only [if_neg hk3, if_neg hk4]
            simp
            omega
          have HE := Lib.hid hE
          have hz := HR2.out i hl
          rw [hE] at hz
          have hz1 : (1 : Int) ≤ 1 := hz
          have y1 : ¬ (1 : Int) < 0 := by omega
          have y2 : decide ((1 : Int) < 0) = false := decide_eq_false y1
          have y3 : ((1 : Int) == 0) = false := beq_no (by omega)
          clear hz
          clear hE hlast HSt
          go_wp2_with fail
          go_roundg (K - (i + 1))
          case measure => omega
          case rel => exact ⟨i + 1, n, 1, rfl, hlt, by go_num, rfl, rfl, by omega, by omega, by omega, HE.out, rfl⟩
        · replace hl : i + 1 = K := by omega
          have hE : rnD (0, 0) (F.take (i + 1)) = ((1 : Int), n) := by
            rw [HSt.out]
            unfold stD
            simp only [if_neg hk3, if_neg hk4]
            simp
            omega
          have HE := Lib.hid hE
          have hz : ((1 : Int), n) = ((0 : Int), 10) := by rw [← hE, hlast hl, HR1.out]
          have hz1 : (1 : Int) = 0 := congrArg Prod.fst hz
          exact absurd hz1 (by decide)
      · have b1 : (d == 1) = false := beq_no hd
        by_cases hl : i + 1 < K
        · have hE : rnD (0, 0) (F.take (i + 1)) = ((d : Int), n) := by
            rw [HSt.out]
            unfold stD
            simp only [if_neg hk3, if_neg hk4, if_neg (fun hh : d = 1 ∧ (kd = 1 ∨ kd = 2 ∨ kd = 3) => hkn hh.2)]
            simp
          have HE := Lib.hid hE
          have hz := HR2.out i hl
          rw [hE] at hz
          have hz1 : (1 : Int) ≤ d := hz
          have y1 : ¬ (d : Int) < 0 := by omega
          have y2 : decide ((d : Int) < 0) = false := decide_eq_false y1
          have y3 : ((d : Int) == 0) = false := beq_no (by omega)
          clear hz
          clear hE hlast HSt
          go_wp2_with fail
          go_roundg (K - (i + 1))
          case measure => omega
          case rel => exact ⟨i + 1, n, d, rfl, hlt, by go_num, rfl, rfl, by omega, by omega, by omega, HE.out, rfl⟩
        · replace hl : i + 1 = K := by omega
          have hE : rnD (0, 0) (F.take (i + 1)) = ((d : Int), n) := by
            rw [HSt.out]
            unfold stD
            simp only [if_neg hk3, if_neg hk4, if_neg (fun hh : d = 1 ∧ (kd = 1 ∨ kd = 2 ∨ kd = 3) => hkn hh.2)]
            simp
          have HE := Lib.hid hE
          have hz : ((d : Int), n) = ((0 : Int), 10) := by rw [← hE, hlast hl, HR1.out]
          have hz1 : (d : Int) = 0 := congrArg Prod.fst hz
          have y1 : ¬ (d : Int) < 0 := by omega
          have y2 : decide ((d : Int) < 0) = false := decide_eq_false y1
          have y3 : ((d : Int) == 0) = true := beq_yes hz1
          have y4 : ¬ (i : Int) < (K : Int) - 1 := by omega
          have y5 : decide ((i : Int) < (K : Int) - 1) = false := decide_eq_false y4
          clear hz hz1
          clear hE hlast HSt
          go_wp2_with fail
          go_roundg (K - (i + 1))
          case measure => omega
          case rel => exact ⟨i + 1, n, d, rfl, hlt, by go_num, rfl, rfl, by omega, by omega, by omega, HE.out, rfl⟩
    · have hz : (d, n) = ((0 : Int), 10) := by
        rw [← HS.out, List.take_of_length_le (by rw [← HK.out]; omega), HR1.out]
      obtain rfl : d = 0 := congrArg Prod.fst hz
      obtain rfl : n = 10 := congrArg Prod.snd hz
      clear hz
      go_wp2_with fail
      go_ret
      exact ⟨rfl, HB4.out⟩
end Go.Proofs.YtbphnlaoiikebaaGreatDoor
