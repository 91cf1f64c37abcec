/- Contracts of package date: Internal. -/
import Derived.Test.YtfndidcoahammaaDoorDtV
import Derived.Test.YtfndidcoahammaaDoorDtW
import Derived.Deep.RegionHeld
import Derived.Test.YtfndidcoahammaaDoorFre
import Derived.Deep.DeepCutAuto
import Derived.Deep.CutBlock
namespace Go.Proofs.YtfndidcoahammaaDoor
open Go Go.RowKit

/-- A moment's text. -/
def intT (y m d x zh zm : Nat) (sg : UInt8) : List UInt8 := [34] ++ filL 32 2 d ++ [45] ++ (monN m).data.toList ++ [45] ++ filL 48 4 y ++ [32] ++ Lib.join [filL 48 2 (x / 3600), filL 48 2 (x % 3600 / 60), filL 48 2 (x % 60)] [58] ++ [32] ++ [sg] ++ Lib.join [filL 48 2 zh, filL 48 2 zm] [] ++ [34]
def inR (sec zone : Int) : Prop := -1440 < zone ∧ zone < 1440 ∧ -1099511627776 ≤ sec ∧ sec ≤ 1099511627776
def secOf (sec zone : Int) : Nat := (sec + 60 * zone - 86400 * dayN sec zone).toNat
/-- What Internal tells. -/
def IntR (sec zone : Int) (l : List UInt8) : Prop :=
  (¬ inR sec zone ∧ l = []) ∨ (inR sec zone ∧ DayOf (dayN sec zone) none ∧ l = []) ∨
  (inR sec zone ∧ ∃ y m d, DayOf (dayN sec zone) (some (y, m, d)) ∧ l = intT y m d (secOf sec zone) (zone.natAbs / 60) (zone.natAbs % 60) (if zone < 0 then 45 else 43))
theorem ints_new3 (W : World) (t : TypeId) (a b c : Nat) : Ints (W.alloc (.cells #[.int .i64 (a : Int), .int .i64 (b : Int), .int .i64 (c : Int)] t)) (.slice (some ⟨W.heap.size, 0, none⟩) 3 3) [a, b, c] := by
  refine ⟨W.heap.size, 3, rfl, by simp, by omega, by simp, fun i hi => ?_⟩
  simp only [World.cell?, heap_alloc_new]
  have hi3 : i < 3 := hi
  rcases (by omega : i = 0 ∨ i = 1 ∨ i = 2) with rfl | rfl | rfl <;> rfl
theorem ints_new2 (W : World) (t : TypeId) (a b : Nat) : Ints (W.alloc (.cells #[.int .i64 (a : Int), .int .i64 (b : Int)] t)) (.slice (some ⟨W.heap.size, 0, none⟩) 2 2) [a, b] := by
  refine ⟨W.heap.size, 2, rfl, by simp, by omega, by simp, fun i hi => ?_⟩
  simp only [World.cell?, heap_alloc_new]
  have hi3 : i < 2 := hi
  rcases (by omega : i = 0 ∨ i = 1) with rfl | rfl <;> rfl
theorem ints_at3 (W : World) (t : TypeId) (a b c K : Nat) (hK : K = W.heap.size) : Ints (W.alloc (.cells #[.int .i64 (a : Int), .int .i64 (b : Int), .int .i64 (c : Int)] t)) (.slice (some ⟨K, 0, none⟩) 3 3) [a, b, c] := by subst hK; exact ints_new3 W t a b c
theorem ints_at2 (W : World) (t : TypeId) (a b K : Nat) (hK : K = W.heap.size) : Ints (W.alloc (.cells #[.int .i64 (a : Int), .int .i64 (b : Int)] t)) (.slice (some ⟨K, 0, none⟩) 2 2) [a, b] := by subst hK; exact ints_new2 W t a b
theorem below_alloc' {w W : World} (h : Below w.heap.size w W) (o : Obj) : Below w.heap.size w (W.alloc o) := h.alloc h.size o
theorem alloc_below (W : World) (o : Obj) : Below W.heap.size W (W.alloc o) := (Below.refl _ _).alloc (Nat.le_refl _) o

theorem step_below {X W W' : World} (hb : Below W.heap.size W W') (h : Below X.heap.size X W) : Below X.heap.size X W' := h.trans (hb.mono h.size)
set_option maxRecDepth 100000 in
set_option maxHeartbeats 8000000 in
theorem internal_any (sec zone : Int) (w : World) (h0 : -9223372036854775808 ≤ sec) (h1 : sec ≤ 9223372036854775807) (h2 : -9223372036854775808 ≤ zone) (h3 : zone ≤ 9223372036854775807) (hE : envD w) :
    Calls Tryd.prog 14 #[.agg #[.int .i64 sec, .int .i64 zone]] w fun e w' => (∃ l, e = .returned (.string ⟨l.toArray⟩) ∧ IntR sec zone l) ∧ Below w.heap.size w w' := by
  have HEn := Lib.hid hE
  obtain ⟨X1, hX1⟩ : ∃ X, X = w.alloc (.cells #[.int .i64 sec, .int .i64 zone] 24) := ⟨_, rfl⟩
  obtain ⟨c0, c1⟩ : X1.cell? ⟨w.heap.size, 0, none⟩ = some (.int .i64 sec) ∧ X1.cell? ⟨w.heap.size, 1, none⟩ = some (.int .i64 zone) := by rw [hX1]; exact cells2 w _ _ _
  have HB1 : Hid (Below w.heap.size w X1) := by rw [hX1]; exact (Below.refl _ _).alloc (Nat.le_refl _) _
  have hs1 : w.heap.size < X1.heap.size := by rw [hX1]; simp
  clear hE
  by_cases z1 : zone ≤ -1440
  · have i1 : decide (zone ≤ -1440) = true := decide_eq_true z1
    have HR : Hid (IntR sec zone []) := .inl ⟨fun h => by have := h.1; omega, rfl⟩
    go_enter Tryd.func14, Tryd.ntmps14
    go_wp2_with fail
    try rw [← hX1]
    go_wp2_with fail
    go_ret
    exact ⟨⟨[], rfl, HR.out⟩, by first | exact HB1.out | (rw [← hX1]; exact HB1.out)⟩
  · have i1 : decide (zone ≤ -1440) = false := decide_eq_false z1
    by_cases z2 : 1440 ≤ zone
    · have i2 : decide (1440 ≤ zone) = true := decide_eq_true z2
      have HR : Hid (IntR sec zone []) := .inl ⟨fun h => by have := h.2.1; omega, rfl⟩
      go_enter Tryd.func14, Tryd.ntmps14
      go_wp2_with fail
      try rw [← hX1]
      go_wp2_with fail
      go_ret
      exact ⟨⟨[], rfl, HR.out⟩, by first | exact HB1.out | (rw [← hX1]; exact HB1.out)⟩
    · have i2 : decide (1440 ≤ zone) = false := decide_eq_false z2
      by_cases s1 : sec < -1099511627776
      · have i3 : decide (sec < -1099511627776) = true := decide_eq_true s1
        have HR : Hid (IntR sec zone []) := .inl ⟨fun h => by have := h.2.2.1; omega, rfl⟩
        go_enter Tryd.func14, Tryd.ntmps14
        go_wp2_with fail
        try rw [← hX1]
        go_wp2_with fail
        go_ret
        exact ⟨⟨[], rfl, HR.out⟩, by first | exact HB1.out | (rw [← hX1]; exact HB1.out)⟩
      · have i3 : decide (sec < -1099511627776) = false := decide_eq_false s1
        by_cases s2 : 1099511627776 < sec
        · have i4 : decide (1099511627776 < sec) = true := decide_eq_true s2
          have HR : Hid (IntR sec zone []) := .inl ⟨fun h => by have := h.2.2.2; omega, rfl⟩
          go_enter Tryd.func14, Tryd.ntmps14
          go_wp2_with fail
          try rw [← hX1]
          go_wp2_with fail
          go_ret
          exact ⟨⟨[], rfl, HR.out⟩, by first | exact HB1.out | (rw [← hX1]; exact HB1.out)⟩
        · have i4 : decide (1099511627776 < sec) = false := decide_eq_false s2
          have HIn : Hid (inR sec zone) := ⟨by omega, by omega, by omega, by omega⟩
          have HDy := Lib.hid (fun w => day_any sec zone (by omega) (by omega) (by omega) (by omega) w)
          have hdb : -20000000 ≤ dayN sec zone ∧ dayN sec zone ≤ 20000000 := by unfold dayN; omega
          have hds : 0 ≤ sec + 60 * zone - 86400 * dayN sec zone ∧ sec + 60 * zone - 86400 * dayN sec zone < 86400 := by unfold dayN; omega
          have hxs : (secOf sec zone : Int) = sec + 60 * zone - 86400 * dayN sec zone := by unfold secOf; omega
          obtain ⟨x, hx⟩ : ∃ x, x = secOf sec zone := ⟨_, rfl⟩
          rw [← hx] at hxs
          obtain ⟨N, hN⟩ : ∃ N, N = dayN sec zone := ⟨_, rfl⟩
          rw [← hN] at HDy hdb hds hxs
          have HN := Lib.hid hN
          have HX := Lib.hid hx
          have HNu := Lib.hid (fun w hM => numbered_any N (by omega) (by omega) w hM)
          obtain ⟨hN0, hN1⟩ := hdb
          have hx86 : x < 86400 := by omega
          have hsx : sec + zone * 60 - N * 86400 = (x : Int) := by omega
          clear hds hxs hx hN h0 h1 h2 h3
          go_enter Tryd.func14, Tryd.ntmps14
          go_wp2_with fail
          rw [← hX1]
          clear hX1
          with_reducible refine (HDy.out _).mono ?_
          rintro e w1 ⟨rfl, hb1⟩
          have HB2 := Lib.hid (HB1.out.trans (hb1.mono HB1.out.size))
          have d0 : w1.cell? ⟨w.heap.size, 0, none⟩ = some (.int .i64 sec) := (hb1.cell (p := ⟨w.heap.size, 0, none⟩) hs1).trans c0
          have d1 : w1.cell? ⟨w.heap.size, 1, none⟩ = some (.int .i64 zone) := (hb1.cell (p := ⟨w.heap.size, 1, none⟩) hs1).trans c1
          have hs2 : w.heap.size < w1.heap.size := Nat.lt_of_lt_of_le hs1 hb1.size
          clear c0 c1 hb1 hs1 HB1
          go_wp2_with fail
          with_reducible refine (HNu.out _ (HEn.out.below HB2.out).m).mono ?_
          rintro e w2 ⟨⟨o, rfl, hD⟩, hb2⟩
          have HB3 := Lib.hid (HB2.out.trans (hb2.mono HB2.out.size))
          have f0 : w2.cell? ⟨w.heap.size, 0, none⟩ = some (.int .i64 sec) := (hb2.cell (p := ⟨w.heap.size, 0, none⟩) hs2).trans d0
          have f1 : w2.cell? ⟨w.heap.size, 1, none⟩ = some (.int .i64 zone) := (hb2.cell (p := ⟨w.heap.size, 1, none⟩) hs2).trans d1
          have hs3 : w.heap.size < w2.heap.size := Nat.lt_of_lt_of_le hs2 hb2.size
          clear d0 d1 hb2 hs2 HB2 HDy HNu
          rcases o with _ | ⟨y, m, d⟩
          · have HR : Hid (IntR sec zone []) := .inr (.inl ⟨HIn.out, by rw [← HN.out]; exact hD, rfl⟩)
            clear hD
            unfold dayV'
            go_wp2_with fail
            go_ret
            exact ⟨⟨[], rfl, HR.out⟩, by first | exact HB3.out | exact below_alloc' HB3.out _⟩
          · unfold dayV'
            go_wp2_with fail
            obtain ⟨X3, hX3⟩ : ∃ X, X = w2.alloc (.cells #[.int .i64 (y : Int), .int .i64 (m : Int), .int .i64 (d : Int)] 46) := ⟨_, rfl⟩
            obtain ⟨DB, hDB⟩ : ∃ DB, DB = w2.heap.size := ⟨_, rfl⟩
            have HD := Lib.hid hD
            have HBx : Hid (Below w.heap.size w X3) := by rw [hX3]; exact below_alloc' HB3.out _
            have b23 : Below w2.heap.size w2 X3 := by rw [hX3]; exact alloc_below w2 _
            have hdc := cells3 w2 46 (.int .i64 (y : Int)) (.int .i64 (m : Int)) (.int .i64 (d : Int)) 0
            have HDc : Hid (X3.cell? ⟨DB, 0, none⟩ = some (.int .i64 (y : Int)) ∧ X3.cell? ⟨DB, 1, none⟩ = some (.int .i64 (m : Int)) ∧ X3.cell? ⟨DB, 2, none⟩ = some (.int .i64 (d : Int))) := by rw [hX3, hDB]; exact hdc
            have g1 : ∀ n, (X3.drewN n).cell? ⟨w.heap.size, 1, none⟩ = some (.int .i64 zone) := fun n => (b23.cell (p := ⟨w.heap.size, 1, none⟩) hs3).trans f1
            have hs4 : w.heap.size < X3.heap.size := Nat.lt_of_lt_of_le hs3 b23.size
            have HDl : Hid (DB < X3.heap.size) := by rw [hX3, hDB]; exact by unfold Hid; simp
            obtain ⟨k1, k2, k3, k4, k5⟩ := numberK_inv hD.1
            have hm12 := hD.2
            have hdm := daysM_le y m
            rw [← hX3, ← hDB]
            clear hX3 hDB b23 hdc f0 f1 hs3 HB3 hD k5
            have g10 := g1 0
            go_quiet (fail)
            obtain ⟨X4, hX4⟩ : ∃ X, X = X3.drewN nq := ⟨_, rfl⟩
            replace HBx : Hid (Below w.heap.size w X4) := by rw [hX4]; exact HBx.out.trans ((below_drewN' nq).mono HBx.out.size)
            replace HDc : Hid (X4.cell? ⟨DB, 0, none⟩ = some (.int .i64 (y : Int)) ∧ X4.cell? ⟨DB, 1, none⟩ = some (.int .i64 (m : Int)) ∧ X4.cell? ⟨DB, 2, none⟩ = some (.int .i64 (d : Int))) := by rw [hX4]; exact HDc.out
            replace HDl : Hid (DB < X4.heap.size) := by rw [hX4]; exact HDl.out
            rw [← hX4]
            clear hX4 g1 g10 hs4
            obtain ⟨Z, hZ⟩ : ∃ Z, Z = zone.natAbs := ⟨_, rfl⟩
            obtain ⟨sg, hsg⟩ : ∃ sg : UInt8, sg = (if zone < 0 then 45 else 43) := ⟨_, rfl⟩
            have hZl : Z < 1440 := by omega
            have HZ := Lib.hid hZ
            have HSg := Lib.hid hsg
            clear hZ hsg
            go_upto_if 48 with fail
            go_cut [7, 8] (fun x7 x8 wx => x7 = .string ⟨#[sg]⟩ ∧ x8 = .int .i64 (Z : Int) ∧ X4 = wx)
            case first =>
              by_cases hz0 : zone < 0
              · have iz : decide (zone < 0) = true := decide_eq_true hz0
                have hZi : -zone = (Z : Int) := by have := HZ.out; omega
                have hse : sg = 45 := by rw [HSg.out, if_pos hz0]
                go_wp2_with fail
                go_meet
                exact ⟨by rw [hse], by first | rfl | (rw [hZi]), rfl⟩
              · have iz : decide (zone < 0) = false := decide_eq_false hz0
                have hZi : zone = (Z : Int) := by have := HZ.out; omega
                have hse : sg = 43 := by rw [HSg.out, if_neg hz0]
                have HZi := Lib.hid hZi
                clear hZi
                go_wp2_with fail
                go_meet
                exact ⟨by rw [hse], by rw [← HZi.out], rfl⟩
            case rest =>
              obtain ⟨rfl, rfl, rfl⟩ := hcut
              have hMm : mons X4 := (HEn.out.below HBx.out).m
              have hgm := hMm.lt
              have HU : Hid (∀ W, Below X4.heap.size X4 W → W.cell? ⟨DB, 2, none⟩ = some (.int .i64 (d : Int)) ∧ W.cell? ⟨DB, 1, none⟩ = some (.int .i64 (m : Int)) ∧ W.cell? ⟨DB, 0, none⟩ = some (.int .i64 (y : Int)) ∧ W.cell? ⟨0, m * 2, none⟩ = some (.string (monN m))) := fun W hb =>
                ⟨(hb.cell (p := ⟨DB, 2, none⟩) HDl.out).trans HDc.out.2.2, (hb.cell (p := ⟨DB, 1, none⟩) HDl.out).trans HDc.out.2.1, (hb.cell (p := ⟨DB, 0, none⟩) HDl.out).trans HDc.out.1, (hb.cell (p := ⟨0, m * 2, none⟩) hgm).trans (hMm.name m hm12)⟩
              have HTab : Hid (∀ W, Below X4.heap.size X4 W → tab W) := fun W hb => (HEn.out.below HBx.out).2.2.below hb
              have hml := monN_size m hm12
              obtain ⟨MN, hMN⟩ : ∃ MN, MN = monN m := ⟨_, rfl⟩
              rw [← hMN] at HU hml
              obtain ⟨a, ha⟩ : ∃ a : Nat, a = x / 3600 := ⟨_, rfl⟩
              obtain ⟨r, hr⟩ : ∃ r : Nat, r = x % 3600 := ⟨_, rfl⟩
              obtain ⟨b, hb⟩ : ∃ b : Nat, b = r / 60 := ⟨_, rfl⟩
              obtain ⟨c, hc⟩ : ∃ c : Nat, c = x % 60 := ⟨_, rfl⟩
              obtain ⟨zh, hzh⟩ : ∃ a : Nat, a = Z / 60 := ⟨_, rfl⟩
              obtain ⟨zm, hzm⟩ : ∃ a : Nat, a = Z % 60 := ⟨_, rfl⟩
              have q1 : (x : Int).tdiv 3600 = (a : Int) := by rw [Int.tdiv_eq_ediv_of_nonneg (by omega)]; omega
              have q2 : (x : Int) / 3600 = (a : Int) := by omega
              have q3 : (x : Int).tmod 3600 = (r : Int) := by rw [Int.tmod_eq_emod_of_nonneg (by omega)]; omega
              have q4 : (x : Int) % 3600 = (r : Int) := by omega
              have q5 : (r : Int).tdiv 60 = (b : Int) := by rw [Int.tdiv_eq_ediv_of_nonneg (by omega)]; omega
              have q6 : (r : Int) / 60 = (b : Int) := by omega
              have q7 : (x : Int).tmod 60 = (c : Int) := by rw [Int.tmod_eq_emod_of_nonneg (by omega)]; omega
              have q8 : (x : Int) % 60 = (c : Int) := by omega
              have q9 : (Z : Int).tdiv 60 = (zh : Int) := by rw [Int.tdiv_eq_ediv_of_nonneg (by omega)]; omega
              have p1 : (Z : Int) / 60 = (zh : Int) := by omega
              have p2 : (Z : Int).tmod 60 = (zm : Int) := by rw [Int.tmod_eq_emod_of_nonneg (by omega)]; omega
              have p3 : (Z : Int) % 60 = (zm : Int) := by omega
              have la : a ≤ 24 := by omega
              have lr : r < 3600 := by omega
              have lb : b ≤ 60 := by omega
              have lc : c ≤ 60 := by omega
              have lzh : zh ≤ 24 := by omega
              have lzm : zm ≤ 60 := by omega
              have HF1 := Lib.hid (fun W h => filled_lit 32 2 2 rfl d (by omega) (by omega) W h)
              have HF2 := Lib.hid (fun W h => filled_lit 48 4 4 rfl y (by omega) (by omega) W h)
              have HP3 := Lib.hid (fun v W hv h => pairs3_any ⟨#[58]⟩ (by decide) a b c (by omega) (by omega) (by omega) v W hv h)
              have HP2 := Lib.hid (fun v W hv h => pairs2_any ⟨#[]⟩ (by decide) zh zm (by omega) (by omega) v W hv h)
              have HIT : Hid (intT y m d x zh zm sg = intT y m d x (Z / 60) (Z % 60) sg) := by unfold Hid; rw [hzh, hzm]
              obtain ⟨D2, hD2⟩ : ∃ A : ByteArray, A = ⟨(filL 32 2 d).toArray⟩ := ⟨_, rfl⟩
              obtain ⟨Y4, hY4⟩ : ∃ A : ByteArray, A = ⟨(filL 48 4 y).toArray⟩ := ⟨_, rfl⟩
              obtain ⟨C3, hC3⟩ : ∃ A : ByteArray, A = ⟨(Lib.join [filL 48 2 a, filL 48 2 b, filL 48 2 c] (⟨#[58]⟩ : ByteArray).data.toList).toArray⟩ := ⟨_, rfl⟩
              obtain ⟨Z2, hZ2⟩ : ∃ A : ByteArray, A = ⟨(Lib.join [filL 48 2 zh, filL 48 2 zm] (⟨#[]⟩ : ByteArray).data.toList).toArray⟩ := ⟨_, rfl⟩
              have l1 : D2.size ≤ 29 := by rw [← len_toList, hD2]; exact filL_len 32 2 d (by omega) (by omega)
              have l2 : Y4.size ≤ 29 := by rw [← len_toList, hY4]; exact filL_len 48 4 y (by omega) (by omega)
              have l3 : C3.size ≤ 100 := by
                rw [← len_toList, hC3]
                have e1 := filL_len 48 2 a (by omega) (by omega)
                have e2 := filL_len 48 2 b (by omega) (by omega)
                have e3 := filL_len 48 2 c (by omega) (by omega)
                simp only [Lib.join, List.intercalate, List.intersperse, List.flatten_cons, List.flatten_nil, List.length_append, List.append_nil, List.length_cons, List.length_nil]
                omega
              have l4 : Z2.size ≤ 100 := by
                rw [← len_toList, hZ2]
                have e1 := filL_len 48 2 zh (by omega) (by omega)
                have e2 := filL_len 48 2 zm (by omega) (by omega)
                simp only [Lib.join, List.intercalate, List.intersperse, List.flatten_cons, List.flatten_nil, List.length_append, List.append_nil, List.length_nil]
                omega
              have HEq : Hid (⟨#[34]⟩ ++ D2 ++ ⟨#[45]⟩ ++ MN ++ ⟨#[45]⟩ ++ Y4 ++ ⟨#[32]⟩ ++ C3 ++ ⟨#[32]⟩ ++ ⟨#[sg]⟩ ++ Z2 ++ ⟨#[34]⟩ = ⟨(intT y m d x zh zm sg).toArray⟩) := by
                unfold Hid
                apply bytes_eq
                simp only [cat_toList]
                rw [hD2, hY4, hC3, hZ2, hMN]
                unfold intT
                rw [ha, hb, hr, hc]
              rw [← hD2] at HF1
              rw [← hY4] at HF2
              rw [← hC3] at HP3
              rw [← hZ2] at HP2
              have t1 : (⟨#[34]⟩ ++ D2 : ByteArray).size ≤ 400 := by simp only [ByteArray.size_append]; show 1 + D2.size ≤ 400; omega
              clear hMm hgm ha hr hb hc hzh hzm hD2 hY4 hC3 hZ2 hMN HDc HDl hsx hdm
              have ks1 : ¬ 9223372036854775807 < 1 + D2.size := by omega
              have ks2 : ¬ 9223372036854775807 < 1 + D2.size + 1 := by omega
              have ks3 : ¬ 9223372036854775807 < 1 + D2.size + 1 + MN.size := by omega
              have ks4 : ¬ 9223372036854775807 < 1 + D2.size + 1 + MN.size + 1 := by omega
              have ks5 : ¬ 9223372036854775807 < 1 + D2.size + 1 + MN.size + 1 + Y4.size := by omega
              have ks6 : ¬ 9223372036854775807 < 1 + D2.size + 1 + MN.size + 1 + Y4.size + 1 := by omega
              have ks7 : ¬ 9223372036854775807 < 1 + D2.size + 1 + MN.size + 1 + Y4.size + 1 + C3.size := by omega
              have ks8 : ¬ 9223372036854775807 < 1 + D2.size + 1 + MN.size + 1 + Y4.size + 1 + C3.size + 1 := by omega
              have ks9 : ¬ 9223372036854775807 < 1 + D2.size + 1 + MN.size + 1 + Y4.size + 1 + C3.size + 1 + 1 := by omega
              have ks10 : ¬ 9223372036854775807 < 1 + D2.size + 1 + MN.size + 1 + Y4.size + 1 + C3.size + 1 + 1 + Z2.size := by omega
              have ks11 : ¬ 9223372036854775807 < 1 + D2.size + 1 + MN.size + 1 + Y4.size + 1 + C3.size + 1 + 1 + Z2.size + 1 := by omega
              have hmI : (m : Int) < 12 := by omega
              have hd0 : Below X4.heap.size X4 X4.drew := (Below.refl _ _).drew
              go_wp2_with fail
              apply wp_region_fre [75, 85] (fun t v W => if t = 75 then Ints W v [a, b, c] else Ints W v [zh, zm]) [_, _, _, _, _, _, _, _, _, _, _, _, _, _, _, _, _, _, _, _, _, _, _, _, undef, _, _, _, _, _, _, _, _, _, undef, _, _, _, _]
              case hm => kernel_rfl
              case hB => kernel_rfl
              case hW => kernel_rfl
              case hS => kernel_rfl
              case hR =>
                intro t v W W' _ h hb
                by_cases ht : t = 75
                · simp only [ht, if_true] at h ⊢; exact h.below hb
                · simp only [ht, if_false] at h ⊢; exact h.below hb
              case h =>
                iterate 2
                  apply wpFre_fix
                  case' hw => exact rfl
                  case' hf => exact rfl
                  case' hb => kernel_rfl
                  case' h =>
                    intro z h0 K hK
                    have f1 := fun q : BW z.v => HU.out q.v (z.h.trans (q.h.mono z.h.size))
                    have g1 : ∀ q : BW z.v, q.v.cell? ⟨DB, 2, none⟩ = some (.int .i64 (d : Int)) := fun q => (f1 q).1
                    have g2 : ∀ q : BW z.v, q.v.cell? ⟨DB, 1, none⟩ = some (.int .i64 (m : Int)) := fun q => (f1 q).2.1
                    have g3 : ∀ q : BW z.v, q.v.cell? ⟨DB, 0, none⟩ = some (.int .i64 (y : Int)) := fun q => (f1 q).2.2.1
                    have g4 : ∀ q : BW z.v, q.v.cell? ⟨0, m * 2, none⟩ = some (.string MN) := fun q => (f1 q).2.2.2
                    clear f1
                    go_big_quiet_op
                    exact hK
                  case' he => exact rfl
                iterate 1
                  apply wpFre_fix
                  case' hw => exact rfl
                  case' hf => exact rfl
                  case' hb => kernel_rfl
                  case' h =>
                    intro z h0 K hK
                    have f1 := fun q : BW z.v => HU.out q.v (z.h.trans (q.h.mono z.h.size))
                    have g1 : ∀ q : BW z.v, q.v.cell? ⟨DB, 2, none⟩ = some (.int .i64 (d : Int)) := fun q => (f1 q).1
                    have g2 : ∀ q : BW z.v, q.v.cell? ⟨DB, 1, none⟩ = some (.int .i64 (m : Int)) := fun q => (f1 q).2.1
                    have g3 : ∀ q : BW z.v, q.v.cell? ⟨DB, 0, none⟩ = some (.int .i64 (y : Int)) := fun q => (f1 q).2.2.1
                    have g4 : ∀ q : BW z.v, q.v.cell? ⟨0, m * 2, none⟩ = some (.string MN) := fun q => (f1 q).2.2.2
                    clear f1
                    go_big_quiet_op
                    apply Exists.intro
                    refine ⟨fun q => ?_, ?_⟩
                    · go_at_call 43; with_reducible exact BW.calls (HF1.out _ (HTab.out _ (z.h.trans (q.h.mono z.h.size))))
                    · exact hK
                  case' he => exact rfl
                iterate 11
                  apply wpFre_fix
                  case' hw => exact rfl
                  case' hf => exact rfl
                  case' hb => kernel_rfl
                  case' h =>
                    intro z h0 K hK
                    have f1 := fun q : BW z.v => HU.out q.v (z.h.trans (q.h.mono z.h.size))
                    have g1 : ∀ q : BW z.v, q.v.cell? ⟨DB, 2, none⟩ = some (.int .i64 (d : Int)) := fun q => (f1 q).1
                    have g2 : ∀ q : BW z.v, q.v.cell? ⟨DB, 1, none⟩ = some (.int .i64 (m : Int)) := fun q => (f1 q).2.1
                    have g3 : ∀ q : BW z.v, q.v.cell? ⟨DB, 0, none⟩ = some (.int .i64 (y : Int)) := fun q => (f1 q).2.2.1
                    have g4 : ∀ q : BW z.v, q.v.cell? ⟨0, m * 2, none⟩ = some (.string MN) := fun q => (f1 q).2.2.2
                    clear f1
                    go_big_quiet_op
                    exact hK
                  case' he => exact rfl
                iterate 1
                  apply wpFre_fix
                  case' hw => exact rfl
                  case' hf => exact rfl
                  case' hb => kernel_rfl
                  case' h =>
                    intro z h0 K hK
                    have f1 := fun q : BW z.v => HU.out q.v (z.h.trans (q.h.mono z.h.size))
                    have g1 : ∀ q : BW z.v, q.v.cell? ⟨DB, 2, none⟩ = some (.int .i64 (d : Int)) := fun q => (f1 q).1
                    have g2 : ∀ q : BW z.v, q.v.cell? ⟨DB, 1, none⟩ = some (.int .i64 (m : Int)) := fun q => (f1 q).2.1
                    have g3 : ∀ q : BW z.v, q.v.cell? ⟨DB, 0, none⟩ = some (.int .i64 (y : Int)) := fun q => (f1 q).2.2.1
                    have g4 : ∀ q : BW z.v, q.v.cell? ⟨0, m * 2, none⟩ = some (.string MN) := fun q => (f1 q).2.2.2
                    clear f1
                    go_big_quiet_op
                    apply Exists.intro
                    refine ⟨fun q => ?_, ?_⟩
                    · go_at_call 43; with_reducible exact BW.calls (HF2.out _ (HTab.out _ (z.h.trans (q.h.mono z.h.size))))
                    · exact hK
                  case' he => exact rfl
                iterate 9
                  apply wpFre_fix
                  case' hw => exact rfl
                  case' hf => exact rfl
                  case' hb => kernel_rfl
                  case' h =>
                    intro z h0 K hK
                    have f1 := fun q : BW z.v => HU.out q.v (z.h.trans (q.h.mono z.h.size))
                    have g1 : ∀ q : BW z.v, q.v.cell? ⟨DB, 2, none⟩ = some (.int .i64 (d : Int)) := fun q => (f1 q).1
                    have g2 : ∀ q : BW z.v, q.v.cell? ⟨DB, 1, none⟩ = some (.int .i64 (m : Int)) := fun q => (f1 q).2.1
                    have g3 : ∀ q : BW z.v, q.v.cell? ⟨DB, 0, none⟩ = some (.int .i64 (y : Int)) := fun q => (f1 q).2.2.1
                    have g4 : ∀ q : BW z.v, q.v.cell? ⟨0, m * 2, none⟩ = some (.string MN) := fun q => (f1 q).2.2.2
                    clear f1
                    go_big_quiet_op
                    exact hK
                  case' he => exact rfl
                apply wpFre_free_at
                case' hw => exact rfl
                case' hd => exact rfl
                case' hm => kernel_rfl
                case' h =>
                  intro z _
                  have hrun : ∀ r, r = Result.ok (Next.value (.slice (some ⟨z.v.heap.size, 0, none⟩) 3 3)) (z.v.alloc (.cells #[.int .i64 (a : Int), .int .i64 (b : Int), .int .i64 (c : Int)] 3)) → freUpon Tryd.prog (fun v W => if 75 = 75 then Ints W v [a, b, c] else Ints W v [zh, zm]) z.v r := by
                    rintro r rfl
                    exact ⟨alloc_below _ _, ints_new3 _ _ _ _ _⟩
                  refine hrun _ ?_
                  simp [go_sem]
                case' hk =>
                  intro u75
                  dsimp only [List.set]
                iterate 1
                  apply wpFre_fix
                  case' hw => exact rfl
                  case' hf => exact rfl
                  case' hb => kernel_rfl
                  case' h =>
                    intro z h0 K hK
                    have f1 := fun q : BW z.v => HU.out q.v (z.h.trans (q.h.mono z.h.size))
                    have g1 : ∀ q : BW z.v, q.v.cell? ⟨DB, 2, none⟩ = some (.int .i64 (d : Int)) := fun q => (f1 q).1
                    have g2 : ∀ q : BW z.v, q.v.cell? ⟨DB, 1, none⟩ = some (.int .i64 (m : Int)) := fun q => (f1 q).2.1
                    have g3 : ∀ q : BW z.v, q.v.cell? ⟨DB, 0, none⟩ = some (.int .i64 (y : Int)) := fun q => (f1 q).2.2.1
                    have g4 : ∀ q : BW z.v, q.v.cell? ⟨0, m * 2, none⟩ = some (.string MN) := fun q => (f1 q).2.2.2
                    clear f1
                    go_big_quiet_op
                    apply Exists.intro
                    refine ⟨fun q => ?_, ?_⟩
                    · go_at_call 44; have hi : Ints z.v u75 [a, b, c] := h0 75 (of_decide_eq_true (by kernel_rfl)) (of_decide_eq_true (by kernel_rfl)); with_reducible exact BW.calls (HP3.out _ _ (hi.below q.h) (HTab.out _ (z.h.trans (q.h.mono z.h.size))))
                    · exact hK
                  case' he => exact rfl
                iterate 8
                  apply wpFre_fix
                  case' hw => exact rfl
                  case' hf => exact rfl
                  case' hb => kernel_rfl
                  case' h =>
                    intro z h0 K hK
                    have f1 := fun q : BW z.v => HU.out q.v (z.h.trans (q.h.mono z.h.size))
                    have g1 : ∀ q : BW z.v, q.v.cell? ⟨DB, 2, none⟩ = some (.int .i64 (d : Int)) := fun q => (f1 q).1
                    have g2 : ∀ q : BW z.v, q.v.cell? ⟨DB, 1, none⟩ = some (.int .i64 (m : Int)) := fun q => (f1 q).2.1
                    have g3 : ∀ q : BW z.v, q.v.cell? ⟨DB, 0, none⟩ = some (.int .i64 (y : Int)) := fun q => (f1 q).2.2.1
                    have g4 : ∀ q : BW z.v, q.v.cell? ⟨0, m * 2, none⟩ = some (.string MN) := fun q => (f1 q).2.2.2
                    clear f1
                    go_big_quiet_op
                    exact hK
                  case' he => exact rfl
                apply wpFre_free_at
                case' hw => exact rfl
                case' hd => exact rfl
                case' hm => kernel_rfl
                case' h =>
                  intro z _
                  have hrun : ∀ r, r = Result.ok (Next.value (.slice (some ⟨z.v.heap.size, 0, none⟩) 2 2)) (z.v.alloc (.cells #[.int .i64 (zh : Int), .int .i64 (zm : Int)] 3)) → freUpon Tryd.prog (fun v W => if 85 = 75 then Ints W v [a, b, c] else Ints W v [zh, zm]) z.v r := by
                    rintro r rfl
                    exact ⟨alloc_below _ _, ints_new2 _ _ _ _⟩
                  refine hrun _ ?_
                  simp [go_sem]
                case' hk =>
                  intro u85
                  dsimp only [List.set]
                iterate 1
                  apply wpFre_fix
                  case' hw => exact rfl
                  case' hf => exact rfl
                  case' hb => kernel_rfl
                  case' h =>
                    intro z h0 K hK
                    have f1 := fun q : BW z.v => HU.out q.v (z.h.trans (q.h.mono z.h.size))
                    have g1 : ∀ q : BW z.v, q.v.cell? ⟨DB, 2, none⟩ = some (.int .i64 (d : Int)) := fun q => (f1 q).1
                    have g2 : ∀ q : BW z.v, q.v.cell? ⟨DB, 1, none⟩ = some (.int .i64 (m : Int)) := fun q => (f1 q).2.1
                    have g3 : ∀ q : BW z.v, q.v.cell? ⟨DB, 0, none⟩ = some (.int .i64 (y : Int)) := fun q => (f1 q).2.2.1
                    have g4 : ∀ q : BW z.v, q.v.cell? ⟨0, m * 2, none⟩ = some (.string MN) := fun q => (f1 q).2.2.2
                    clear f1
                    go_big_quiet_op
                    apply Exists.intro
                    refine ⟨fun q => ?_, ?_⟩
                    · go_at_call 44; have hi : Ints z.v u85 [zh, zm] := h0 85 (of_decide_eq_true (by kernel_rfl)) (of_decide_eq_true (by kernel_rfl)); with_reducible exact BW.calls (HP2.out _ _ (hi.below q.h) (HTab.out _ (z.h.trans (q.h.mono z.h.size))))
                    · exact hK
                  case' he => exact rfl
                iterate 3
                  apply wpFre_fix
                  case' hw => exact rfl
                  case' hf => exact rfl
                  case' hb => kernel_rfl
                  case' h =>
                    intro z h0 K hK
                    have f1 := fun q : BW z.v => HU.out q.v (z.h.trans (q.h.mono z.h.size))
                    have g1 : ∀ q : BW z.v, q.v.cell? ⟨DB, 2, none⟩ = some (.int .i64 (d : Int)) := fun q => (f1 q).1
                    have g2 : ∀ q : BW z.v, q.v.cell? ⟨DB, 1, none⟩ = some (.int .i64 (m : Int)) := fun q => (f1 q).2.1
                    have g3 : ∀ q : BW z.v, q.v.cell? ⟨DB, 0, none⟩ = some (.int .i64 (y : Int)) := fun q => (f1 q).2.2.1
                    have g4 : ∀ q : BW z.v, q.v.cell? ⟨0, m * 2, none⟩ = some (.string MN) := fun q => (f1 q).2.2.2
                    clear f1
                    go_big_quiet_op
                    exact hK
                  case' he => exact rfl
                apply wpFre_nil
                rintro _ ⟨⟨w8, hbz⟩, rfl⟩
                go_wp2_with fail
                go_ret
                refine ⟨⟨_, ret_str HEq.out, .inr (.inr ⟨HIn.out, y, m, d, by rw [← HN.out]; exact HD.out, by rw [HIT.out, HX.out, HZ.out, HSg.out]⟩)⟩, HBx.out.trans (hbz.mono HBx.out.size)⟩
end Go.Proofs.YtfndidcoahammaaDoor
