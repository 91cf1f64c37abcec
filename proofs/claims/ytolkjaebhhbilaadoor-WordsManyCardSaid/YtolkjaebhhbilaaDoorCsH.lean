/- utf8.Valid at bytes. -/
import Derived.Test.YtolkjaebhhbilaaDoorCsG
import Derived.Test.YtolkjaebhhbilaaDoorQB
import Derived.Laws.BitsAllLaws
import Derived.Deep.LoopGhost
import Derived.Deep.DeepMust
import Derived.Deep.DeepBigQuietO
import Derived.Below
import Derived.Deep.CutBlock
import Derived.Deep.DeepCutAuto
namespace Go.Proofs.YtolkjaebhhbilaaDoor
open Go Go.RowKit

/-- The bytes of t lie at this place. -/
def bAt (W : World) (b off : Nat) (t : ByteArray) : Prop := ∀ j, (h : j < t.size) → W.cell? ⟨b, off + j, none⟩ = some (.int .u8 (t[j].toNat : Int))
theorem bAt.ext {W : World} {b off : Nat} {t : ByteArray} (h : bAt W b off t) (k : Nat) : bAt W b (off + k) (t.extract k t.size) := by
  intro j hj
  rw [Lib.ext_size] at hj
  rw [Nat.add_assoc, h (k + j) (by omega)]
  congr 3
  simp [ByteArray.getElem_extract]
theorem bAt.below {W W' : World} {b off : Nat} {t : ByteArray} (h : bAt W b off t) (hb : b < W.heap.size) (hw : Below W.heap.size W W') : bAt W' b off t :=
  fun j hj => (hw.cell (p := ⟨b, off + j, none⟩) hb).trans (h j hj)
theorem get_at (t : ByteArray) (j : Nat) (h : j < t.size) : t[j] = t.get! j := (Utf8W.get!_of_lt t j h).symm
theorem bAt.get {W : World} {b off : Nat} {t : ByteArray} (h : bAt W b off t) (j : Nat) (hj : j < t.size) : W.cell? ⟨b, off + j, none⟩ = some (.int .u8 ((t.get! j).toNat : Int)) := by
  rw [h j hj, get_at]
theorem wordT_any (t : ByteArray) (b off n cap : Nat) (W : World) (hB : bAt W b off t) (h8 : 8 ≤ t.size) (hn : n = t.size) (hm : n ≤ 1000000) :
    Calls Tryd.prog 76 #[.slice (some ⟨b, off, none⟩) n cap] W fun e w' => e = .returned (.int .u64 (Lib.leNat [t.get! 0, t.get! 1, t.get! 2, t.get! 3, t.get! 4, t.get! 5, t.get! 6, t.get! 7])) ∧ ∃ q, w' = W.drewN q :=
  wordB_any b off n cap _ _ _ _ _ _ _ _ W (by omega) hm (by have := hB.get 0 (by omega); rw [Nat.add_zero] at this; exact this) (hB.get 1 (by omega)) (hB.get 2 (by omega)) (hB.get 3 (by omega)) (hB.get 4 (by omega)) (hB.get 5 (by omega)) (hB.get 6 (by omega)) (hB.get 7 (by omega))
theorem below_drewNv {B : Nat} {a w : World} (h : Below B a w) : ∀ q, Below B a (w.drewN q)
  | 0 => h
  | q + 1 => (below_drewNv h q).drew

theorem bAt.same {W : World} {b off : Nat} {t : ByteArray} (h : bAt W b off t) (hb : b < W.heap.size) (z : BW W) : bAt z.v b off t := h.below hb z.h
theorem Calls.drawn {P : Program} {f : FuncId} {args : Array Value} {W : World} {v : Value} (h : Calls P f args W fun e w' => e = .returned v ∧ ∃ q, w' = W.drewN q) : Calls P f args W fun e w' => e = .returned v ∧ Below W.heap.size W w' :=
  h.mono fun _ _ ⟨he, q, hq⟩ => ⟨he, by rw [hq]; exact below_drewNv (Below.refl _ _) q⟩
set_option maxRecDepth 100000 in
theorem and7v : ∀ X : Fin 256, bits .and .u8 ((X.val : Nat) : Int) 7 = ((X.val % 8 : Nat) : Int) := by decide
set_option maxHeartbeats 16000000 in
set_option maxRecDepth 1000000 in
theorem valid_any (b0 off0 n0 cap0 : Nat) (s : ByteArray) (w : World) (hn0 : n0 = s.size) (hc0 : n0 ≤ cap0) (_hm0 : cap0 ≤ 2 ^ 63 - 1) (hs : s.size ≤ 100000) (hb0 : b0 < w.heap.size) (hB0 : bAt w b0 off0 s) (hT : Tryd.tabs w) :
    Calls Tryd.prog 70 #[.slice (some ⟨b0, off0, none⟩) n0 cap0] w fun e w' => e = .returned (.bool (Lib.validD s.data.toList)) ∧ Below w.heap.size w w' := by
  subst hn0
  obtain ⟨ANS, hANS⟩ : ∃ ANS, Lib.validD s.data.toList = ANS := ⟨_, rfl⟩
  rw [hANS]
  have HTb := Lib.hid hT
  have HB0 := Lib.hid hB0
  clear hT hB0
  go_enter Tryd.func70, Tryd.ntmps70
  go_wp2
  go_loopg [0] (s.size + 1) (fun gk s0 wx => Hid (Below w.heap.size w wx) ∧ ∃ (t : ByteArray) (ao : Option Addr) (N : Nat), s0 = .slice ao N N ∧ t.size = N ∧ (N = 0 ∨ ∃ off, ao = some ⟨b0, off, none⟩ ∧ Hid (bAt w b0 off t)) ∧ Hid (Lib.validD t.data.toList = ANS) ∧ N < gk ∧ N ≤ 100000)
  case atStart => exact ⟨Below.refl _ _, s, _, _, rfl, rfl, .inr ⟨off0, rfl, HB0.out⟩, hANS, by omega, hs⟩
  case round =>
    obtain ⟨HBW, t, ao, N, rfl, hN, hat, HV, hg, hts⟩ := hrel
    clear hANS
    by_cases h0 : 0 < N
    · rcases hat with h | ⟨off, rfl, HB⟩
      · omega
      obtain ⟨g', rfl⟩ : ∃ g', gk = g' + 1 := ⟨gk - 1, by omega⟩
      have h0z : (0 : Int) < (N : Int) := by omega
      obtain ⟨x0, hx0⟩ : ∃ x0, t.get! 0 = x0 := ⟨_, rfl⟩
      have hb0r : b0 < wr.heap.size := Nat.lt_of_lt_of_le hb0 HBW.out.size
      have HBr : Hid (bAt wr b0 off t) := HB.out.below hb0 HBW.out
      have cx0 : wr.cell? ⟨b0, off, none⟩ = some (.int .u8 (x0.toNat : Int)) := by have := HBr.out.get 0 (by omega); rw [Nat.add_zero, hx0] at this; exact this
      have hx0lt : x0.toNat < 256 := x0.toNat_lt
      by_cases hasc : x0.toNat < 128
      · as_aux_lemma =>
          have hascz : (x0.toNat : Int) < 128 := by omega
          obtain ⟨n, rfl⟩ : ∃ n, N = n + 1 := ⟨N - 1, by omega⟩
          have a1 : Lib.Asc t 1 := Lib.asc_one t (by omega) (by rw [hx0]; exact hasc)
          obtain ⟨t1, ht1⟩ : ∃ t1, t.extract 1 t.size = t1 := ⟨_, rfl⟩
          have z1 : t1.size = n := by rw [← ht1, Lib.ext_size]; omega
          have HV1 : Hid (Lib.validD t1.data.toList = ANS) := by unfold Hid; rw [← ht1, Lib.valid_skip t 1 a1]; exact HV.out
          have HB1 : Hid (bAt w b0 (off + 1) t1) := by unfold Hid; rw [← ht1]; exact HB.out.ext 1
          clear a1 ht1
          by_cases c8 : 8 < n
          · obtain ⟨m, rfl⟩ : ∃ m, n = m + 8 := ⟨n - 8, by omega⟩
            have hm1 : 0 < m := by omega
            have hm1z : (0 : Int) < (m : Int) := by omega
            have c8z : (8 : Int) < (m : Int) + 8 := by omega
            have HB1r : Hid (bAt wr b0 (off + 1) t1) := HB1.out.below hb0 HBW.out
            obtain ⟨A1, hA1⟩ : ∃ A1, Lib.leNat [t1.get! 0, t1.get! 1, t1.get! 2, t1.get! 3, t1.get! 4, t1.get! 5, t1.get! 6, t1.get! 7] = A1 := ⟨_, rfl⟩
            have lA1 : A1 < 18446744073709551616 := hA1 ▸ Lib.word_lt t1
            have CW1 : Hid (Calls Tryd.prog 76 #[.slice (some ⟨b0, off + 1, none⟩) (m + 8) (m + 8)] wr fun e w' => e = .returned (.int .u64 A1) ∧ ∃ q, w' = wr.drewN q) := by unfold Hid; rw [← hA1]; exact wordT_any t1 b0 (off + 1) (m + 8) (m + 8) wr HB1r.out (by omega) z1.symm (by omega)
            have kA1 := Lib.word_asc t1 (by omega)
            rw [hA1] at kA1
            have hand1 : bits .and .u64 (A1 : Int) 9259542123273814144 = ((A1 &&& 9259542123273814144 : Nat) : Int) := u64_and_nat A1 9259542123273814144 lA1 (by omega)
            obtain ⟨Z1, hZ1⟩ : ∃ Z1, A1 &&& 9259542123273814144 = Z1 := ⟨_, rfl⟩
            rw [hZ1] at hand1 kA1
            clear hA1 hZ1
            by_cases hz1 : Z1 = 0
            · have hz1b : ((Z1 : Int) == 0) = true := by simp [hz1]
              have a8 : Lib.Asc t1 8 := kA1.1 hz1
              obtain ⟨t2, ht2⟩ : ∃ t2, t1.extract 8 t1.size = t2 := ⟨_, rfl⟩
              have z2 : t2.size = m := by rw [← ht2, Lib.ext_size]; omega
              have HV2 : Hid (Lib.validD t2.data.toList = ANS) := by unfold Hid; rw [← ht2, Lib.valid_skip t1 8 a8]; exact HV1.out
              have HB2 : Hid (bAt w b0 (off + 1 + 8) t2) := by unfold Hid; rw [← ht2]; exact HB1.out.ext 8
              clear kA1 a8 ht2 HV1
              go_wp2_with fail
              with_reducible refine CW1.out.mono ?_
              rintro e W1 ⟨rfl, q1, rfl⟩
              have HBq : Hid (Below w.heap.size w (wr.drewN q1)) := below_drewNv HBW.out q1
              generalize wr.drewN q1 = wq at HBq ⊢
              have HB2q : Hid (bAt wq b0 (off + 1 + 8) t2) := HB2.out.below hb0 HBq.out
              have hb0q : b0 < wq.heap.size := Nat.lt_of_lt_of_le hb0 HBq.out.size
              clear CW1 HBr HB1r hb0r cx0
              by_cases c16 : 16 < m
              · obtain ⟨p, rfl⟩ : ∃ p, m = p + 16 := ⟨m - 16, by omega⟩
                have hp1 : 0 < p := by omega
                have hp1z : (0 : Int) < (p : Int) := by omega
                have c16z : (16 : Int) < (p : Int) + 16 := by omega
                have c16b : decide ((16 : Int) < (p : Int) + 16) = true := decide_eq_true c16z
                have s8z : (8 : Int) ≤ (p : Int) + 16 := by omega
                obtain ⟨t2b, ht2b⟩ : ∃ t2b, t2.extract 8 t2.size = t2b := ⟨_, rfl⟩
                have z2b : t2b.size = p + 8 := by rw [← ht2b, Lib.ext_size]; omega
                have HB2b : Hid (bAt wq b0 (off + 1 + 8 + 8) t2b) := by unfold Hid; rw [← ht2b]; exact HB2q.out.ext 8
                obtain ⟨A2, hA2⟩ : ∃ A2, Lib.leNat [t2.get! 0, t2.get! 1, t2.get! 2, t2.get! 3, t2.get! 4, t2.get! 5, t2.get! 6, t2.get! 7] = A2 := ⟨_, rfl⟩
                have lA2 : A2 < 18446744073709551616 := hA2 ▸ Lib.word_lt t2
                have CW2 : Hid (∀ z : BW wq, Calls Tryd.prog 76 #[.slice (some ⟨b0, off + 1 + 8, none⟩) (p + 16) (p + 16)] z.v fun e w' => e = .returned (.int .u64 A2) ∧ Below z.v.heap.size z.v w') := fun z => by rw [← hA2]; exact Calls.drawn (wordT_any t2 b0 (off + 1 + 8) (p + 16) (p + 16) z.v (HB2q.out.same hb0q z) (by omega) z2.symm (by omega))
                have kA2 := Lib.word_asc t2 (by omega)
                rw [hA2] at kA2
                obtain ⟨A3, hA3⟩ : ∃ A3, Lib.leNat [t2b.get! 0, t2b.get! 1, t2b.get! 2, t2b.get! 3, t2b.get! 4, t2b.get! 5, t2b.get! 6, t2b.get! 7] = A3 := ⟨_, rfl⟩
                have lA3 : A3 < 18446744073709551616 := hA3 ▸ Lib.word_lt t2b
                have CW3 : Hid (∀ z : BW wq, Calls Tryd.prog 76 #[.slice (some ⟨b0, off + 1 + 8 + 8, none⟩) (p + 8) (p + 8)] z.v fun e w' => e = .returned (.int .u64 A3) ∧ Below z.v.heap.size z.v w') := fun z => by rw [← hA3]; exact Calls.drawn (wordT_any t2b b0 (off + 1 + 8 + 8) (p + 8) (p + 8) z.v (HB2b.out.same hb0q z) (by omega) z2b.symm (by omega))
                have kA3 := Lib.word_asc t2b (by omega)
                rw [hA3] at kA3
                have hor2 : bits .or .u64 (A2 : Int) (A3 : Int) = ((A2 ||| A3 : Nat) : Int) := u64_or_nat A2 A3 lA2 lA3
                have lor2 : A2 ||| A3 < 18446744073709551616 := Nat.or_lt_two_pow (n := 64) lA2 lA3
                have hand2 : bits .and .u64 ((A2 ||| A3 : Nat) : Int) 9259542123273814144 = (((A2 ||| A3) &&& 9259542123273814144 : Nat) : Int) := u64_and_nat _ 9259542123273814144 lor2 (by omega)
                have k2 : (A2 ||| A3) &&& 9259542123273814144 = 0 → Lib.Asc t2 16 := fun h0' => by
                  obtain ⟨e1, e2⟩ := (Lib.or_mask A2 A3 _).1 h0'
                  exact Lib.asc_add t2 8 8 (kA2.1 e1) (by rw [ht2b]; exact kA3.1 e2)
                obtain ⟨O2, hO2⟩ : ∃ O2, A2 ||| A3 = O2 := ⟨_, rfl⟩
                rw [hO2] at hor2 hand2 k2
                obtain ⟨Z2, hZ2⟩ : ∃ Z2, O2 &&& 9259542123273814144 = Z2 := ⟨_, rfl⟩
                rw [hZ2] at hand2 k2
                clear kA2 kA3 lor2 hO2 hZ2 hA2 hA3 ht2b
                by_cases hz2 : Z2 = 0
                · have hz2b : ((Z2 : Int) == 0) = true := by simp [hz2]
                  have a16 := k2 hz2
                  obtain ⟨t3, ht3⟩ : ∃ t3, t2.extract 16 t2.size = t3 := ⟨_, rfl⟩
                  have z3 : t3.size = p := by rw [← ht3, Lib.ext_size]; omega
                  have HV3 : Hid (Lib.validD t3.data.toList = ANS) := by unfold Hid; rw [← ht3, Lib.valid_skip t2 16 a16]; exact HV2.out
                  have HB3 : Hid (bAt w b0 (off + 1 + 8 + 16) t3) := by unfold Hid; rw [← ht3]; exact HB2.out.ext 16
                  clear k2 a16 ht3
                  go_wp2_with fail
                  refine wp_region_below (by kernel_rfl) (by kernel_rfl) ?_
                  repeat (go_big_quiet_step (first
                    | (go_at_call 76; with_reducible exact BW.calls (CW2.out _))
                    | (go_at_call 76; with_reducible exact BW.calls (CW3.out _))))
                  refine wpQuiet_nil ?_
                  rintro _ ⟨z2', rfl⟩
                  have HBz : Hid (Below w.heap.size w z2'.v) := HBq.out.trans (z2'.h.mono HBq.out.size)
                  generalize z2'.v = wz at HBz ⊢
                  clear CW2 CW3 HB2b HB2q
                  go_wp2_with fail
                  go_loopg [0] (p + 1) (fun g2 s0 wx => Hid (Below w.heap.size w wx) ∧ ∃ (u : ByteArray) (off2 M : Nat), s0 = .slice (some ⟨b0, off2, none⟩) M M ∧ u.size = M ∧ Hid (bAt w b0 off2 u) ∧ Hid (Lib.validD u.data.toList = ANS) ∧ M < g2 ∧ M ≤ p)
                  case atStart => exact ⟨HBz.out, t3, _, _, rfl, z3, HB3.out, HV3.out, by omega, Nat.le_refl _⟩
                  case round =>
                    obtain ⟨HBu, u, off2, M, rfl, hM, HBat, HVu, hgu, hut⟩ := hrel
                    by_cases c32 : 32 < M
                    · obtain ⟨k, rfl⟩ : ∃ k, M = k + 32 := ⟨M - 32, by omega⟩
                      have hk1 : 0 < k := by omega
                      have hk1z : (0 : Int) < (k : Int) := by omega
                      obtain ⟨g3, rfl⟩ : ∃ g3, gk = g3 + 1 := ⟨gk - 1, by omega⟩
                      have c32z : (32 : Int) < (k : Int) + 32 := by omega
                      have c32b : decide ((32 : Int) < (k : Int) + 32) = true := decide_eq_true c32z
                      have hbu0 : b0 < wr.heap.size := Nat.lt_of_lt_of_le hb0 HBu.out.size
                      have HBur : Hid (bAt wr b0 off2 u) := HBat.out.below hb0 HBu.out
                      obtain ⟨ub, hub⟩ : ∃ ub, u.extract 8 u.size = ub := ⟨_, rfl⟩
                      have zub : ub.size = k + 24 := by rw [← hub, Lib.ext_size]; omega
                      have HBrub : Hid (bAt wr b0 (off2 + 8) ub) := by unfold Hid; rw [← hub]; exact HBur.out.ext 8
                      obtain ⟨uc, huc⟩ : ∃ uc, u.extract 16 u.size = uc := ⟨_, rfl⟩
                      have zuc : uc.size = k + 16 := by rw [← huc, Lib.ext_size]; omega
                      have HBruc : Hid (bAt wr b0 (off2 + 16) uc) := by unfold Hid; rw [← huc]; exact HBur.out.ext 16
                      obtain ⟨ud, hud⟩ : ∃ ud, u.extract 24 u.size = ud := ⟨_, rfl⟩
                      have zud : ud.size = k + 8 := by rw [← hud, Lib.ext_size]; omega
                      have HBrud : Hid (bAt wr b0 (off2 + 24) ud) := by unfold Hid; rw [← hud]; exact HBur.out.ext 24
                      obtain ⟨B0, hB0⟩ : ∃ B0, Lib.leNat [u.get! 0, u.get! 1, u.get! 2, u.get! 3, u.get! 4, u.get! 5, u.get! 6, u.get! 7] = B0 := ⟨_, rfl⟩
                      have lB0 : B0 < 18446744073709551616 := hB0 ▸ Lib.word_lt u
                      have CB0 : Hid (∀ z : BW wr, Calls Tryd.prog 76 #[.slice (some ⟨b0, off2, none⟩) (k + 32) (k + 32)] z.v fun e w' => e = .returned (.int .u64 B0) ∧ Below z.v.heap.size z.v w') := fun z => by rw [← hB0]; exact Calls.drawn (wordT_any u b0 (off2) (k + 32) (k + 32) z.v (HBur.out.same hbu0 z) (by omega) hM.symm (by omega))
                      have kB0 := Lib.word_asc u (by omega)
                      rw [hB0] at kB0
                      obtain ⟨B1, hB1⟩ : ∃ B1, Lib.leNat [ub.get! 0, ub.get! 1, ub.get! 2, ub.get! 3, ub.get! 4, ub.get! 5, ub.get! 6, ub.get! 7] = B1 := ⟨_, rfl⟩
                      have lB1 : B1 < 18446744073709551616 := hB1 ▸ Lib.word_lt ub
                      have CB1 : Hid (∀ z : BW wr, Calls Tryd.prog 76 #[.slice (some ⟨b0, off2 + 8, none⟩) (k + 24) (k + 24)] z.v fun e w' => e = .returned (.int .u64 B1) ∧ Below z.v.heap.size z.v w') := fun z => by rw [← hB1]; exact Calls.drawn (wordT_any ub b0 (off2 + 8) (k + 24) (k + 24) z.v (HBrub.out.same hbu0 z) (by omega) zub.symm (by omega))
                      have kB1 := Lib.word_asc ub (by omega)
                      rw [hB1] at kB1
                      obtain ⟨B2, hB2⟩ : ∃ B2, Lib.leNat [uc.get! 0, uc.get! 1, uc.get! 2, uc.get! 3, uc.get! 4, uc.get! 5, uc.get! 6, uc.get! 7] = B2 := ⟨_, rfl⟩
                      have lB2 : B2 < 18446744073709551616 := hB2 ▸ Lib.word_lt uc
                      have CB2 : Hid (∀ z : BW wr, Calls Tryd.prog 76 #[.slice (some ⟨b0, off2 + 16, none⟩) (k + 16) (k + 16)] z.v fun e w' => e = .returned (.int .u64 B2) ∧ Below z.v.heap.size z.v w') := fun z => by rw [← hB2]; exact Calls.drawn (wordT_any uc b0 (off2 + 16) (k + 16) (k + 16) z.v (HBruc.out.same hbu0 z) (by omega) zuc.symm (by omega))
                      have kB2 := Lib.word_asc uc (by omega)
                      rw [hB2] at kB2
                      obtain ⟨B3, hB3⟩ : ∃ B3, Lib.leNat [ud.get! 0, ud.get! 1, ud.get! 2, ud.get! 3, ud.get! 4, ud.get! 5, ud.get! 6, ud.get! 7] = B3 := ⟨_, rfl⟩
                      have lB3 : B3 < 18446744073709551616 := hB3 ▸ Lib.word_lt ud
                      have CB3 : Hid (∀ z : BW wr, Calls Tryd.prog 76 #[.slice (some ⟨b0, off2 + 24, none⟩) (k + 8) (k + 8)] z.v fun e w' => e = .returned (.int .u64 B3) ∧ Below z.v.heap.size z.v w') := fun z => by rw [← hB3]; exact Calls.drawn (wordT_any ud b0 (off2 + 24) (k + 8) (k + 8) z.v (HBrud.out.same hbu0 z) (by omega) zud.symm (by omega))
                      have kB3 := Lib.word_asc ud (by omega)
                      rw [hB3] at kB3
                      have ho1 : bits .or .u64 (B0 : Int) (B1 : Int) = ((B0 ||| B1 : Nat) : Int) := u64_or_nat B0 B1 lB0 lB1
                      have ho2 : bits .or .u64 (B2 : Int) (B3 : Int) = ((B2 ||| B3 : Nat) : Int) := u64_or_nat B2 B3 lB2 lB3
                      have lo1 : B0 ||| B1 < 18446744073709551616 := Nat.or_lt_two_pow (n := 64) lB0 lB1
                      have lo2 : B2 ||| B3 < 18446744073709551616 := Nat.or_lt_two_pow (n := 64) lB2 lB3
                      have ho3 : bits .or .u64 ((B0 ||| B1 : Nat) : Int) ((B2 ||| B3 : Nat) : Int) = (((B0 ||| B1) ||| (B2 ||| B3) : Nat) : Int) := u64_or_nat _ _ lo1 lo2
                      have lo3 : (B0 ||| B1) ||| (B2 ||| B3) < 18446744073709551616 := Nat.or_lt_two_pow (n := 64) lo1 lo2
                      have hand3 : bits .and .u64 (((B0 ||| B1) ||| (B2 ||| B3) : Nat) : Int) 9259542123273814144 = ((((B0 ||| B1) ||| (B2 ||| B3)) &&& 9259542123273814144 : Nat) : Int) := u64_and_nat _ 9259542123273814144 lo3 (by omega)
                      have k3 : ((B0 ||| B1) ||| (B2 ||| B3)) &&& 9259542123273814144 = 0 → Lib.Asc u 32 := fun h0' => by
                        obtain ⟨e01, e23⟩ := (Lib.or_mask _ _ _).1 h0'
                        obtain ⟨e0, e1⟩ := (Lib.or_mask _ _ _).1 e01
                        obtain ⟨e2, e3⟩ := (Lib.or_mask _ _ _).1 e23
                        have s16 : Lib.Asc u 16 := Lib.asc_add u 8 8 (kB0.1 e0) (by rw [hub]; exact kB1.1 e1)
                        have s24 : Lib.Asc u 24 := Lib.asc_add u 16 8 s16 (by rw [huc]; exact kB2.1 e2)
                        exact Lib.asc_add u 24 8 s24 (by rw [hud]; exact kB3.1 e3)
                      obtain ⟨P1, hP1⟩ : ∃ P1, B0 ||| B1 = P1 := ⟨_, rfl⟩
                      obtain ⟨P2, hP2⟩ : ∃ P2, B2 ||| B3 = P2 := ⟨_, rfl⟩
                      rw [hP1, hP2] at ho3 hand3 k3
                      rw [hP1] at ho1
                      rw [hP2] at ho2
                      obtain ⟨P3, hP3⟩ : ∃ P3, P1 ||| P2 = P3 := ⟨_, rfl⟩
                      rw [hP3] at ho3 hand3 k3
                      obtain ⟨Z3, hZ3⟩ : ∃ Z3, P3 &&& 9259542123273814144 = Z3 := ⟨_, rfl⟩
                      rw [hZ3] at hand3 k3
                      clear kB0 kB1 kB2 kB3 lo1 lo2 lo3 hP1 hP2 hP3 hZ3 hub huc hud hB0 hB1 hB2 hB3
                      by_cases hz3 : Z3 = 0
                      · have hz3b : ((Z3 : Int) == 0) = true := by simp [hz3]
                        have a32 := k3 hz3
                        obtain ⟨u2, hu2⟩ : ∃ u2, u.extract 32 u.size = u2 := ⟨_, rfl⟩
                        have zu2 : u2.size = k := by rw [← hu2, Lib.ext_size]; omega
                        have HVu2 : Hid (Lib.validD u2.data.toList = ANS) := by unfold Hid; rw [← hu2, Lib.valid_skip u 32 a32]; exact HVu.out
                        have HBu2 : Hid (bAt w b0 (off2 + 32) u2) := by unfold Hid; rw [← hu2]; exact HBat.out.ext 32
                        clear a32 hu2 k3

                        go_wp2_with fail
                        refine wp_region_below (by kernel_rfl) (by kernel_rfl) ?_
                        repeat (go_big_quiet_step (first
                          | (go_at_call 76; with_reducible exact BW.calls (CB0.out _))
                          | (go_at_call 76; with_reducible exact BW.calls (CB1.out _))
                          | (go_at_call 76; with_reducible exact BW.calls (CB2.out _))
                          | (go_at_call 76; with_reducible exact BW.calls (CB3.out _))))
                        refine wpQuiet_nil ?_
                        rintro _ ⟨z3', rfl⟩
                        have HBz3 : Hid (Below w.heap.size w z3'.v) := HBu.out.trans (z3'.h.mono HBu.out.size)
                        generalize z3'.v = wz3 at HBz3 ⊢
                        go_wp2
                        
                        go_roundg g3
                        case measure => omega
                        case rel => exact ⟨HBz3.out, u2, _, _, rfl, zu2, HBu2.out, HVu2.out, by omega, by omega⟩
                      · have hz3b : ((Z3 : Int) == 0) = false := by simp; omega
                        clear k3

                        go_wp2_with fail
                        refine wp_region_below (by kernel_rfl) (by kernel_rfl) ?_
                        repeat (go_big_quiet_step (first
                          | (go_at_call 76; with_reducible exact BW.calls (CB0.out _))
                          | (go_at_call 76; with_reducible exact BW.calls (CB1.out _))
                          | (go_at_call 76; with_reducible exact BW.calls (CB2.out _))
                          | (go_at_call 76; with_reducible exact BW.calls (CB3.out _))))
                        refine wpQuiet_nil ?_
                        rintro _ ⟨z3', rfl⟩
                        have HBz3 : Hid (Below w.heap.size w z3'.v) := HBu.out.trans (z3'.h.mono HBu.out.size)
                        generalize z3'.v = wz3 at HBz3 ⊢
                        go_wp2
                        
                        go_roundg g'
                        case measure => omega
                        case rel => exact ⟨HBz3.out, u, _, _, rfl, hM, .inr ⟨_, rfl, HBat.out⟩, HVu.out, by omega, by omega⟩
                    · have c32z : ¬ ((32 : Int) < (M : Int)) := by omega
                      have c32b : decide ((32 : Int) < (M : Int)) = false := decide_eq_false c32z
                      go_wp2_with fail
                      go_quiet (fail)
                      go_wp2
                      go_roundg g'
                      case measure => omega
                      case rel => exact ⟨below_drewNv HBu.out _, u, _, _, rfl, hM, .inr ⟨_, rfl, HBat.out⟩, HVu.out, by omega, by omega⟩
                · have hz2b : ((Z2 : Int) == 0) = false := by simp; omega
                  clear k2
                  go_wp2_with fail
                  refine wp_region_below (by kernel_rfl) (by kernel_rfl) ?_
                  repeat (go_big_quiet_step (first
                    | (go_at_call 76; with_reducible exact BW.calls (CW2.out _))
                    | (go_at_call 76; with_reducible exact BW.calls (CW3.out _))))
                  refine wpQuiet_nil ?_
                  rintro _ ⟨z2', rfl⟩
                  have HBz : Hid (Below w.heap.size w z2'.v) := HBq.out.trans (z2'.h.mono HBq.out.size)
                  generalize z2'.v = wz at HBz ⊢
                  go_wp2
                  go_roundg g'
                  case measure => omega
                  case rel => exact ⟨HBz.out, t2, _, _, rfl, z2, .inr ⟨_, rfl, HB2.out⟩, HV2.out, by omega, by omega⟩
              · have c16z : ¬ ((16 : Int) < (m : Int)) := by omega
                have c16b : decide ((16 : Int) < (m : Int)) = false := decide_eq_false c16z
                go_wp2_with fail
                go_quiet (fail)
                go_wp2
                go_roundg g'
                case measure => omega
                case rel => exact ⟨below_drewNv HBq.out _, t2, _, _, rfl, z2, .inr ⟨_, rfl, HB2.out⟩, HV2.out, by omega, by omega⟩
            · have hz1b : ((Z1 : Int) == 0) = false := by simp; omega
              go_wp2_with fail
              with_reducible refine CW1.out.mono ?_
              rintro e W1 ⟨rfl, q1, rfl⟩
              go_wp2_with fail
              go_roundg g'
              case measure => omega
              case rel => exact ⟨below_drewNv HBW.out q1, t1, _, _, rfl, z1, .inr ⟨_, rfl, HB1.out⟩, HV1.out, by omega, by omega⟩
          · rcases Nat.eq_zero_or_pos n with rfl | hn
            · go_wp2
              go_roundg g'
              case measure => omega
              case rel => exact ⟨HBW.out, t1, _, _, rfl, z1, .inl rfl, HV1.out, by omega, by omega⟩
            · have c8z : ¬ ((8 : Int) < (n : Int)) := by omega
              have hn0' : ¬ n = 0 := by omega
              go_wp2
              go_roundg g'
              case measure => omega
              case rel => exact ⟨HBW.out, t1, _, _, rfl, z1, .inr ⟨_, rfl, HB1.out⟩, HV1.out, by omega, by omega⟩
      · have hge : 128 ≤ x0.toNat := by omega
        have hascz : ¬ ((x0.toNat : Int) < 128) := by omega
        obtain ⟨x1, hx1⟩ : ∃ x1, t.get! 1 = x1 := ⟨_, rfl⟩
        obtain ⟨x2, hx2⟩ : ∃ x2, t.get! 2 = x2 := ⟨_, rfl⟩
        obtain ⟨x3, hx3⟩ : ∃ x3, t.get! 3 = x3 := ⟨_, rfl⟩
        have l1 := x1.toNat_lt; have l2 := x2.toNat_lt; have l3 := x3.toNat_lt
        have hne : t.data.toList ≠ [] := fun h => by rw [Lib.size_eq, h] at hN; have : N = 0 := hN.symm; omega
        have hv := HV.out
        have hlead := Lib.validD_lead t.data.toList hne (by rw [Lib.getD_get!', hx0]; exact hge)
        rw [Lib.getD_get!', Lib.getD_get!', Lib.getD_get!', Lib.getD_get!', hx0, hx1, hx2, hx3, ← Lib.size_eq, hN, hv] at hlead
        have hTr := Utf8Tabs_below HTb.out HBW.out
        have hc0' := hTr.1 x0.toNat hx0lt
        have hXlt : Lib.firstT x0.toNat < 256 := by rcases Lib.firstT_cases x0.toNat with h | h | h | h | h | h | h | h | h <;> omega
        obtain ⟨X, hX⟩ : ∃ X, Lib.firstT x0.toNat = X := ⟨_, rfl⟩
        rw [hX] at hc0' hXlt hlead
        have h7 := and7v ⟨X, hXlt⟩
        simp only at h7
        have ha0 : wr.cell? ⟨5, X / 16 * 2, none⟩ = some (.int .u8 (Lib.accLo (X / 16))) := by rw [Nat.mul_comm]; exact (hTr.2 (X / 16) (by omega)).1
        have ha1 : wr.cell? ⟨5, X / 16 * 2 + 1, none⟩ = some (.int .u8 (Lib.accHi (X / 16))) := by rw [Nat.mul_comm]; exact (hTr.2 (X / 16) (by omega)).2
        obtain ⟨LO, hLO⟩ : ∃ LO, Lib.accLo (X / 16) = LO := ⟨_, rfl⟩
        obtain ⟨HI, hHI⟩ : ∃ HI, Lib.accHi (X / 16) = HI := ⟨_, rfl⟩
        rw [hLO] at ha0 hlead
        rw [hHI] at ha1 hlead
        obtain ⟨SZ, hSZ⟩ : ∃ SZ, X % 8 = SZ := ⟨_, rfl⟩
        rw [hSZ] at hlead
        have HLEAD := Lib.hid hlead
        have HBox : Hid (∀ o : Obj, Below wr.heap.size wr (wr.alloc o)) := fun o => (Below.refl _ _).alloc (Nat.le_refl _) _
        clear hTr hX hv hLO hHI hne hlead
        by_cases s2 : SZ = 2
        · as_aux_lemma =>
            subst s2
            have hSZz : (X : Int) % 8 = 2 := by omega
            have hlead := HLEAD.out
            simp only [Lib.checkN, Nat.reduceEqDiff, if_true, if_false] at hlead
            have HL := Lib.hid hlead
            clear hlead HLEAD
            go_upto_region 18 with fail
            go_cut [103] from 85 to 103 (fun c wx => c = .bool (decide (N < 2 ∨ x1.toNat < LO ∨ HI < x1.toNat)) ∧ Below w.heap.size w wx)
            case first =>
              by_cases q0 : N < 2
              · have q0z : (N : Int) < 2 := by omega
                have q0b : decide ((N : Int) < 2) = true := decide_eq_true q0z
                go_quiet (fail)
                go_wp2
                go_meet
                exact ⟨congrArg Value.bool (decide_eq_true (p := N < 2 ∨ x1.toNat < LO ∨ HI < x1.toNat) (by omega)).symm, below_drewNv (HBW.out.alloc HBW.out.size _) _⟩
              · have q0z : ¬ ((N : Int) < 2) := by omega
                have q0b : decide ((N : Int) < 2) = false := decide_eq_false q0z
                have hz1 : (1 : Int) < (N : Int) := by omega
                have cx1 : (wr.alloc (.cells #[.int .u8 LO, .int .u8 HI] 109)).cell? ⟨b0, off + 1, none⟩ = some (.int .u8 (x1.toNat : Int)) := ((HBox.out _).cell (p := ⟨b0, off + 1, none⟩) hb0r).trans (by have := HBr.out.get 1 (by omega); rw [hx1] at this; exact this)
                by_cases q1 : x1.toNat < LO
                · have q1z : (x1.toNat : Int) < (LO : Int) := by omega
                  go_quiet (fail)
                  go_wp2
                  go_meet
                  exact ⟨congrArg Value.bool (decide_eq_true (p := N < 2 ∨ x1.toNat < LO ∨ HI < x1.toNat) (by omega)).symm, below_drewNv (HBW.out.alloc HBW.out.size _) _⟩
                · have q1z : ¬ ((x1.toNat : Int) < (LO : Int)) := by omega
                  by_cases q2 : HI < x1.toNat
                  · have q2z : (HI : Int) < (x1.toNat : Int) := by omega
                    go_quiet (fail)
                    go_wp2
                    go_meet
                    exact ⟨congrArg Value.bool (decide_eq_true (p := N < 2 ∨ x1.toNat < LO ∨ HI < x1.toNat) (by omega)).symm, below_drewNv (HBW.out.alloc HBW.out.size _) _⟩
                  · have q2z : ¬ ((HI : Int) < (x1.toNat : Int)) := by omega
                    go_quiet (fail)
                    go_wp2
                    go_meet
                    exact ⟨congrArg Value.bool (decide_eq_false (p := N < 2 ∨ x1.toNat < LO ∨ HI < x1.toNat) (by omega)).symm, below_drewNv (HBW.out.alloc HBW.out.size _) _⟩
            case rest =>
              obtain ⟨rfl, hbc⟩ := hcut
              by_cases hb : N < 2 ∨ x1.toNat < LO ∨ HI < x1.toNat
              · have hbd : decide (N < 2 ∨ x1.toNat < LO ∨ HI < x1.toNat) = true := decide_eq_true hb
                have hlead := HL.out
                rw [if_pos hb] at hlead
                have HL2 := Lib.hid hlead
                clear hlead HL
                go_wp2
                all_goals (go_ret; exact ⟨by first | rfl | (rw [HL2.out]; rfl), hbc⟩)
              · have hbd : decide (N < 2 ∨ x1.toNat < LO ∨ HI < x1.toNat) = false := decide_eq_false hb
                have hlead := HL.out
                rw [if_neg hb] at hlead
                have HL2 := Lib.hid hlead
                clear hlead HL
                obtain ⟨n, rfl⟩ : ∃ n, N = n + 2 := ⟨N - 2, by omega⟩
                have zt : (t.extract 2 t.size).size = n := by rw [Lib.ext_size]; omega
                have HVt : Hid (Lib.validD (t.extract 2 t.size).data.toList = ANS) := by unfold Hid; rw [Lib.ext_list, HL2.out]
                rcases Nat.eq_zero_or_pos n with rfl | hn
                · go_wp2
                  go_roundg g'
                  case measure => omega
                  case rel => exact ⟨hbc, t.extract 2 t.size, _, _, rfl, zt, .inl rfl, HVt.out, by omega, by omega⟩
                · have hn0' : ¬ n = 0 := by omega
                  go_wp2
                  go_roundg g'
                  case measure => omega
                  case rel => exact ⟨hbc, t.extract 2 t.size, _, _, rfl, zt, .inr ⟨_, rfl, HB.out.ext 2⟩, HVt.out, by omega, by omega⟩
        by_cases s3 : SZ = 3
        · as_aux_lemma =>
            subst s3
            have hSZz : (X : Int) % 8 = 3 := by omega
            have hlead := HLEAD.out
            simp only [Lib.checkN, Nat.reduceEqDiff, if_true, if_false] at hlead
            have HL := Lib.hid hlead
            clear hlead HLEAD
            go_upto_region 22 with fail
            go_cut [138] from 108 to 138 (fun c wx => c = .bool (decide (N < 3 ∨ x1.toNat < LO ∨ HI < x1.toNat ∨ x2.toNat < 128 ∨ 191 < x2.toNat)) ∧ Below w.heap.size w wx)
            case first =>
              by_cases q0 : N < 3
              · have q0z : (N : Int) < 3 := by omega
                have q0b : decide ((N : Int) < 3) = true := decide_eq_true q0z
                go_quiet (fail)
                go_wp2
                go_meet
                exact ⟨congrArg Value.bool (decide_eq_true (p := N < 3 ∨ x1.toNat < LO ∨ HI < x1.toNat ∨ x2.toNat < 128 ∨ 191 < x2.toNat) (by omega)).symm, below_drewNv (HBW.out.alloc HBW.out.size _) _⟩
              · have q0z : ¬ ((N : Int) < 3) := by omega
                have q0b : decide ((N : Int) < 3) = false := decide_eq_false q0z
                have hz1 : (1 : Int) < (N : Int) := by omega
                have cx1 : (wr.alloc (.cells #[.int .u8 LO, .int .u8 HI] 109)).cell? ⟨b0, off + 1, none⟩ = some (.int .u8 (x1.toNat : Int)) := ((HBox.out _).cell (p := ⟨b0, off + 1, none⟩) hb0r).trans (by have := HBr.out.get 1 (by omega); rw [hx1] at this; exact this)
                have hz2 : (2 : Int) < (N : Int) := by omega
                have cx2 : (wr.alloc (.cells #[.int .u8 LO, .int .u8 HI] 109)).cell? ⟨b0, off + 2, none⟩ = some (.int .u8 (x2.toNat : Int)) := ((HBox.out _).cell (p := ⟨b0, off + 2, none⟩) hb0r).trans (by have := HBr.out.get 2 (by omega); rw [hx2] at this; exact this)
                by_cases q1 : x1.toNat < LO
                · have q1z : (x1.toNat : Int) < (LO : Int) := by omega
                  go_quiet (fail)
                  go_wp2
                  go_meet
                  exact ⟨congrArg Value.bool (decide_eq_true (p := N < 3 ∨ x1.toNat < LO ∨ HI < x1.toNat ∨ x2.toNat < 128 ∨ 191 < x2.toNat) (by omega)).symm, below_drewNv (HBW.out.alloc HBW.out.size _) _⟩
                · have q1z : ¬ ((x1.toNat : Int) < (LO : Int)) := by omega
                  by_cases q2 : HI < x1.toNat
                  · have q2z : (HI : Int) < (x1.toNat : Int) := by omega
                    go_quiet (fail)
                    go_wp2
                    go_meet
                    exact ⟨congrArg Value.bool (decide_eq_true (p := N < 3 ∨ x1.toNat < LO ∨ HI < x1.toNat ∨ x2.toNat < 128 ∨ 191 < x2.toNat) (by omega)).symm, below_drewNv (HBW.out.alloc HBW.out.size _) _⟩
                  · have q2z : ¬ ((HI : Int) < (x1.toNat : Int)) := by omega
                    by_cases q3 : x2.toNat < 128
                    · have q3z : (x2.toNat : Int) < 128 := by omega
                      go_quiet (fail)
                      go_wp2
                      go_meet
                      exact ⟨congrArg Value.bool (decide_eq_true (p := N < 3 ∨ x1.toNat < LO ∨ HI < x1.toNat ∨ x2.toNat < 128 ∨ 191 < x2.toNat) (by omega)).symm, below_drewNv (HBW.out.alloc HBW.out.size _) _⟩
                    · have q3z : ¬ ((x2.toNat : Int) < 128) := by omega
                      by_cases q4 : 191 < x2.toNat
                      · have q4z : (191 : Int) < (x2.toNat : Int) := by omega
                        go_quiet (fail)
                        go_wp2
                        go_meet
                        exact ⟨congrArg Value.bool (decide_eq_true (p := N < 3 ∨ x1.toNat < LO ∨ HI < x1.toNat ∨ x2.toNat < 128 ∨ 191 < x2.toNat) (by omega)).symm, below_drewNv (HBW.out.alloc HBW.out.size _) _⟩
                      · have q4z : ¬ ((191 : Int) < (x2.toNat : Int)) := by omega
                        go_quiet (fail)
                        go_wp2
                        go_meet
                        exact ⟨congrArg Value.bool (decide_eq_false (p := N < 3 ∨ x1.toNat < LO ∨ HI < x1.toNat ∨ x2.toNat < 128 ∨ 191 < x2.toNat) (by omega)).symm, below_drewNv (HBW.out.alloc HBW.out.size _) _⟩
            case rest =>
              obtain ⟨rfl, hbc⟩ := hcut
              by_cases hb : N < 3 ∨ x1.toNat < LO ∨ HI < x1.toNat ∨ x2.toNat < 128 ∨ 191 < x2.toNat
              · have hbd : decide (N < 3 ∨ x1.toNat < LO ∨ HI < x1.toNat ∨ x2.toNat < 128 ∨ 191 < x2.toNat) = true := decide_eq_true hb
                have hlead := HL.out
                rw [if_pos hb] at hlead
                have HL2 := Lib.hid hlead
                clear hlead HL
                go_wp2
                all_goals (go_ret; exact ⟨by first | rfl | (rw [HL2.out]; rfl), hbc⟩)
              · have hbd : decide (N < 3 ∨ x1.toNat < LO ∨ HI < x1.toNat ∨ x2.toNat < 128 ∨ 191 < x2.toNat) = false := decide_eq_false hb
                have hlead := HL.out
                rw [if_neg hb] at hlead
                have HL2 := Lib.hid hlead
                clear hlead HL
                obtain ⟨n, rfl⟩ : ∃ n, N = n + 3 := ⟨N - 3, by omega⟩
                have zt : (t.extract 3 t.size).size = n := by rw [Lib.ext_size]; omega
                have HVt : Hid (Lib.validD (t.extract 3 t.size).data.toList = ANS) := by unfold Hid; rw [Lib.ext_list, HL2.out]
                rcases Nat.eq_zero_or_pos n with rfl | hn
                · go_wp2
                  go_roundg g'
                  case measure => omega
                  case rel => exact ⟨hbc, t.extract 3 t.size, _, _, rfl, zt, .inl rfl, HVt.out, by omega, by omega⟩
                · have hn0' : ¬ n = 0 := by omega
                  go_wp2
                  go_roundg g'
                  case measure => omega
                  case rel => exact ⟨hbc, t.extract 3 t.size, _, _, rfl, zt, .inr ⟨_, rfl, HB.out.ext 3⟩, HVt.out, by omega, by omega⟩
        by_cases s4 : SZ = 4
        · as_aux_lemma =>
            subst s4
            have hSZz : (X : Int) % 8 = 4 := by omega
            have hlead := HLEAD.out
            simp only [Lib.checkN, Nat.reduceEqDiff, if_true, if_false] at hlead
            have HL := Lib.hid hlead
            clear hlead HLEAD
            go_upto_region 26 with fail
            go_cut [185] from 143 to 185 (fun c wx => c = .bool (decide (N < 4 ∨ x1.toNat < LO ∨ HI < x1.toNat ∨ x2.toNat < 128 ∨ 191 < x2.toNat ∨ x3.toNat < 128 ∨ 191 < x3.toNat)) ∧ Below w.heap.size w wx)
            case first =>
              by_cases q0 : N < 4
              · have q0z : (N : Int) < 4 := by omega
                have q0b : decide ((N : Int) < 4) = true := decide_eq_true q0z
                go_quiet (fail)
                go_wp2
                go_meet
                exact ⟨congrArg Value.bool (decide_eq_true (p := N < 4 ∨ x1.toNat < LO ∨ HI < x1.toNat ∨ x2.toNat < 128 ∨ 191 < x2.toNat ∨ x3.toNat < 128 ∨ 191 < x3.toNat) (by omega)).symm, below_drewNv (HBW.out.alloc HBW.out.size _) _⟩
              · have q0z : ¬ ((N : Int) < 4) := by omega
                have q0b : decide ((N : Int) < 4) = false := decide_eq_false q0z
                have hz1 : (1 : Int) < (N : Int) := by omega
                have cx1 : (wr.alloc (.cells #[.int .u8 LO, .int .u8 HI] 109)).cell? ⟨b0, off + 1, none⟩ = some (.int .u8 (x1.toNat : Int)) := ((HBox.out _).cell (p := ⟨b0, off + 1, none⟩) hb0r).trans (by have := HBr.out.get 1 (by omega); rw [hx1] at this; exact this)
                have hz2 : (2 : Int) < (N : Int) := by omega
                have cx2 : (wr.alloc (.cells #[.int .u8 LO, .int .u8 HI] 109)).cell? ⟨b0, off + 2, none⟩ = some (.int .u8 (x2.toNat : Int)) := ((HBox.out _).cell (p := ⟨b0, off + 2, none⟩) hb0r).trans (by have := HBr.out.get 2 (by omega); rw [hx2] at this; exact this)
                have hz3 : (3 : Int) < (N : Int) := by omega
                have cx3 : (wr.alloc (.cells #[.int .u8 LO, .int .u8 HI] 109)).cell? ⟨b0, off + 3, none⟩ = some (.int .u8 (x3.toNat : Int)) := ((HBox.out _).cell (p := ⟨b0, off + 3, none⟩) hb0r).trans (by have := HBr.out.get 3 (by omega); rw [hx3] at this; exact this)
                by_cases q1 : x1.toNat < LO
                · have q1z : (x1.toNat : Int) < (LO : Int) := by omega
                  go_quiet (fail)
                  go_wp2
                  go_meet
                  exact ⟨congrArg Value.bool (decide_eq_true (p := N < 4 ∨ x1.toNat < LO ∨ HI < x1.toNat ∨ x2.toNat < 128 ∨ 191 < x2.toNat ∨ x3.toNat < 128 ∨ 191 < x3.toNat) (by omega)).symm, below_drewNv (HBW.out.alloc HBW.out.size _) _⟩
                · have q1z : ¬ ((x1.toNat : Int) < (LO : Int)) := by omega
                  by_cases q2 : HI < x1.toNat
                  · have q2z : (HI : Int) < (x1.toNat : Int) := by omega
                    go_quiet (fail)
                    go_wp2
                    go_meet
                    exact ⟨congrArg Value.bool (decide_eq_true (p := N < 4 ∨ x1.toNat < LO ∨ HI < x1.toNat ∨ x2.toNat < 128 ∨ 191 < x2.toNat ∨ x3.toNat < 128 ∨ 191 < x3.toNat) (by omega)).symm, below_drewNv (HBW.out.alloc HBW.out.size _) _⟩
                  · have q2z : ¬ ((HI : Int) < (x1.toNat : Int)) := by omega
                    by_cases q3 : x2.toNat < 128
                    · have q3z : (x2.toNat : Int) < 128 := by omega
                      go_quiet (fail)
                      go_wp2
                      go_meet
                      exact ⟨congrArg Value.bool (decide_eq_true (p := N < 4 ∨ x1.toNat < LO ∨ HI < x1.toNat ∨ x2.toNat < 128 ∨ 191 < x2.toNat ∨ x3.toNat < 128 ∨ 191 < x3.toNat) (by omega)).symm, below_drewNv (HBW.out.alloc HBW.out.size _) _⟩
                    · have q3z : ¬ ((x2.toNat : Int) < 128) := by omega
                      by_cases q4 : 191 < x2.toNat
                      · have q4z : (191 : Int) < (x2.toNat : Int) := by omega
                        go_quiet (fail)
                        go_wp2
                        go_meet
                        exact ⟨congrArg Value.bool (decide_eq_true (p := N < 4 ∨ x1.toNat < LO ∨ HI < x1.toNat ∨ x2.toNat < 128 ∨ 191 < x2.toNat ∨ x3.toNat < 128 ∨ 191 < x3.toNat) (by omega)).symm, below_drewNv (HBW.out.alloc HBW.out.size _) _⟩
                      · have q4z : ¬ ((191 : Int) < (x2.toNat : Int)) := by omega
                        by_cases q5 : x3.toNat < 128
                        · have q5z : (x3.toNat : Int) < 128 := by omega
                          go_quiet (fail)
                          go_wp2
                          go_meet
                          exact ⟨congrArg Value.bool (decide_eq_true (p := N < 4 ∨ x1.toNat < LO ∨ HI < x1.toNat ∨ x2.toNat < 128 ∨ 191 < x2.toNat ∨ x3.toNat < 128 ∨ 191 < x3.toNat) (by omega)).symm, below_drewNv (HBW.out.alloc HBW.out.size _) _⟩
                        · have q5z : ¬ ((x3.toNat : Int) < 128) := by omega
                          by_cases q6 : 191 < x3.toNat
                          · have q6z : (191 : Int) < (x3.toNat : Int) := by omega
                            go_quiet (fail)
                            go_wp2
                            go_meet
                            exact ⟨congrArg Value.bool (decide_eq_true (p := N < 4 ∨ x1.toNat < LO ∨ HI < x1.toNat ∨ x2.toNat < 128 ∨ 191 < x2.toNat ∨ x3.toNat < 128 ∨ 191 < x3.toNat) (by omega)).symm, below_drewNv (HBW.out.alloc HBW.out.size _) _⟩
                          · have q6z : ¬ ((191 : Int) < (x3.toNat : Int)) := by omega
                            go_quiet (fail)
                            go_wp2
                            go_meet
                            exact ⟨congrArg Value.bool (decide_eq_false (p := N < 4 ∨ x1.toNat < LO ∨ HI < x1.toNat ∨ x2.toNat < 128 ∨ 191 < x2.toNat ∨ x3.toNat < 128 ∨ 191 < x3.toNat) (by omega)).symm, below_drewNv (HBW.out.alloc HBW.out.size _) _⟩
            case rest =>
              obtain ⟨rfl, hbc⟩ := hcut
              by_cases hb : N < 4 ∨ x1.toNat < LO ∨ HI < x1.toNat ∨ x2.toNat < 128 ∨ 191 < x2.toNat ∨ x3.toNat < 128 ∨ 191 < x3.toNat
              · have hbd : decide (N < 4 ∨ x1.toNat < LO ∨ HI < x1.toNat ∨ x2.toNat < 128 ∨ 191 < x2.toNat ∨ x3.toNat < 128 ∨ 191 < x3.toNat) = true := decide_eq_true hb
                have hlead := HL.out
                rw [if_pos hb] at hlead
                have HL2 := Lib.hid hlead
                clear hlead HL
                go_wp2
                all_goals (go_ret; exact ⟨by first | rfl | (rw [HL2.out]; rfl), hbc⟩)
              · have hbd : decide (N < 4 ∨ x1.toNat < LO ∨ HI < x1.toNat ∨ x2.toNat < 128 ∨ 191 < x2.toNat ∨ x3.toNat < 128 ∨ 191 < x3.toNat) = false := decide_eq_false hb
                have hlead := HL.out
                rw [if_neg hb] at hlead
                have HL2 := Lib.hid hlead
                clear hlead HL
                obtain ⟨n, rfl⟩ : ∃ n, N = n + 4 := ⟨N - 4, by omega⟩
                have zt : (t.extract 4 t.size).size = n := by rw [Lib.ext_size]; omega
                have HVt : Hid (Lib.validD (t.extract 4 t.size).data.toList = ANS) := by unfold Hid; rw [Lib.ext_list, HL2.out]
                rcases Nat.eq_zero_or_pos n with rfl | hn
                · go_wp2
                  go_roundg g'
                  case measure => omega
                  case rel => exact ⟨hbc, t.extract 4 t.size, _, _, rfl, zt, .inl rfl, HVt.out, by omega, by omega⟩
                · have hn0' : ¬ n = 0 := by omega
                  go_wp2
                  go_roundg g'
                  case measure => omega
                  case rel => exact ⟨hbc, t.extract 4 t.size, _, _, rfl, zt, .inr ⟨_, rfl, HB.out.ext 4⟩, HVt.out, by omega, by omega⟩
        · have e2 : ¬ ((X : Int) % 8 = 2) := by omega
          have e3 : ¬ ((X : Int) % 8 = 3) := by omega
          have e4 : ¬ ((X : Int) % 8 = 4) := by omega
          have e2b : (((X : Int) % 8) == 2) = false := by simp; omega
          have e3b : (((X : Int) % 8) == 3) = false := by simp; omega
          have e4b : (((X : Int) % 8) == 4) = false := by simp; omega
          have hlead := HLEAD.out
          simp only [Lib.checkN, s2, s3, s4, if_false] at hlead
          have HL2 := Lib.hid hlead
          clear hlead HLEAD
          go_wp2
          all_goals (go_ret; exact ⟨by first | rfl | (rw [HL2.out]; rfl), HBW.out.alloc HBW.out.size _⟩)
    · have h0z : ¬ ((0 : Int) < (N : Int)) := by omega
      obtain rfl : N = 0 := by omega
      have ht0 : t.data.toList = [] := List.eq_nil_of_length_eq_zero (by rw [← Lib.size_eq]; omega)
      have hv := HV.out
      rw [ht0, Lib.validD_nil] at hv
      subst hv
      go_wp2
      go_ret
      exact ⟨rfl, HBW.out⟩
end Go.Proofs.YtolkjaebhhbilaaDoor
