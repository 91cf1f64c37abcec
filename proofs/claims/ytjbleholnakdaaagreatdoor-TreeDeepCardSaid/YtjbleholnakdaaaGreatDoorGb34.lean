/- TreeDeep. -/
import Derived.Test.YtjbleholnakdaaaGreatDoorGb33
namespace Go.Proofs.YtjbleholnakdaaaGreatDoor
open Go Go.RowKit

theorem chT_step (L k d p : Nat) : (chT L (k + 1) (d + 1) p).kind = 2 ∧ (chT L (k + 1) (d + 1) p).kids = [chT L k d (p + 30)] := ⟨rfl, rfl⟩
set_option maxRecDepth 100000 in
set_option maxHeartbeats 4000000 in
theorem treeDeep_any (n : UInt8) (s : ByteArray) (w : World) (hs : s.size ≤ 9223372036854775807) (he : env w) :
    Calls Tryz.prog 3 #[.int .u8 (n.toNat : Int), .string s] w fun e w' => e = .returned (.bool true) ∧ Below w.heap.size w w' := by
  have HE := Lib.hid he
  have HAw := Lib.hid (awake_any w he)
  clear he
  have hnt := n.toNat_lt
  obtain ⟨K, hK, hK60⟩ : ∃ K, n.toNat % 60 = K ∧ K < 60 := ⟨_, rfl, Nat.mod_lt _ (by decide)⟩
  have m1 : (n.toNat : Int) % 60 = (K : Int) := by omega
  have m2 : (n.toNat : Int).tmod 60 = (K : Int) := by rw [Int.tmod_eq_emod_of_nonneg (by omega)]; exact m1
  clear hK
  by_cases h1 : 50 < s.size
  · go_enter Tryz.func3, Tryz.ntmps3
    go_wp2_with fail
    with_reducible refine HAw.out.mono ?_
    rintro e w1 ⟨rfl, hb1⟩
    have HB1 := Lib.hid hb1
    clear hb1
    go_wp2_with fail
    go_ret
    exact ⟨rfl, HB1.out⟩
  · go_enter Tryz.func3, Tryz.ntmps3
    go_wp2_with fail
    with_reducible refine HAw.out.mono ?_
    rintro e w1 ⟨rfl, hb1⟩
    have HB1 := Lib.hid hb1
    have HE1 := Lib.hid (HE.out.below hb1)
    clear hb1 HAw HE
    go_wp2_with fail
    go_loopg [7] s.size (fun q iv wr => ∃ (i : Nat), i ≤ s.size ∧ q = s.size - i ∧ iv = .int .i64 i ∧ w1 = wr)
    case atStart => exact ⟨0, by omega, rfl, rfl, rfl⟩
    case round =>
      obtain ⟨i, hi, rfl, rfl, rfl⟩ := hrel
      by_cases hlt : i < s.size
      · obtain ⟨c, hc⟩ : ∃ c, c = s[i] := ⟨_, rfl⟩
        have hct := c.toNat_lt
        by_cases h3 : c.toNat < 97
        · rw [hc] at h3
          go_wp2_with fail
          go_ret
          exact ⟨rfl, HB1.out⟩
        · by_cases h4 : 122 < c.toNat
          · rw [hc] at h3 h4
            go_wp2_with fail
            go_ret
            exact ⟨rfl, HB1.out⟩
          · rw [hc] at h3 h4
            go_wp2_with fail
            go_roundg (s.size - (i + 1))
            case measure => omega
            case rel => exact ⟨i + 1, by omega, rfl, by go_num, rfl⟩
      · obtain ⟨l, hl⟩ : ∃ l, l = nestL (xyH ++ 10 :: 10 :: s.data.toList) K := ⟨_, rfl⟩
        have hsl : (⟨#[120, 58, 32, 121, 10, 10]⟩ ++ s : ByteArray).data.toList = xyH ++ 10 :: 10 :: s.data.toList := by rw [cat_toList]; rfl
        have HN := Lib.hid (fun W => nested_any K (⟨#[120, 58, 32, 121, 10, 10]⟩ ++ s) W (by omega) (by rw [ByteArray.size_append]; show 6 + s.size ≤ 1000; omega))
        rw [hsl, ← hl] at HN
        have htr := nest_tree s.data.toList K (by omega) l hl
        have HLn : Hid (l.length = 30 * K + 6 + s.size) := by
          unfold Hid
          rw [hl, nest_len, List.length_append, List.length_cons, List.length_cons, len_toList]
          show 30 * K + (4 + (s.size + 1 + 1)) = _
          omega
        have hlb : l.length ≤ 2000 := by have := HLn.out; omega
        have HPa := Lib.hid (fun W v h1 h2 => treeParse_any v l W h1 (by omega) h2)
        unfold treePost at HPa
        obtain ⟨t0, ht0⟩ : ∃ t0, t0 = treeS l := ⟨_, rfl⟩
        rw [← ht0] at HPa htr
        have HTr := Lib.hid htr
        clear hl hsl htr ht0
        go_upto_region 12 with fail
        go_wp2_with fail
        with_reducible refine (HN.out _).mono ?_
        rintro e w2 ⟨ao, cap, rfl, harg, hb2⟩
        have HB2 := Lib.hid (HB1.out.trans (hb2.mono HB1.out.size))
        have HE2 := Lib.hid (HE1.out.below hb2)
        have HA := Lib.hid harg
        clear harg hb2 HN
        go_wp2_with fail
        with_reducible refine (HPa.out _ _ HA.out HE2.out).mono ?_
        rintro e w5 ⟨ka, kn, kc, ca, cn, cc, rfl, ht, hb5⟩
        have HB5 : Hid (Below w.heap.size w w5) := HB2.out.trans (hb5.mono HB2.out.size)
        have HT := Lib.hid (treeAt.keep (S' := fun k => k < w5.heap.size) (W' := w5) (fun q _ hq => ⟨rfl, hq⟩) _ _ ht)
        clear ht hb5 HPa
        go_upto_region 13 with fail
        obtain ⟨X, hX⟩ : ∃ X, X = w5.alloc (partO t0.kind t0.hd.1 t0.hd.2 t0.bd.1 t0.bd.2 (.slice ka kn kc) (.slice ca cn cc) t0.e.1 t0.e.2) := ⟨_, rfl⟩
        have HBX : Hid (Below w5.heap.size w5 X) := by unfold Hid; rw [hX]; exact (Below.refl _ _).alloc (Nat.le_refl _) _
        have O0 : Hid (X.heap[w5.heap.size]? = some (partO t0.kind t0.hd.1 t0.hd.2 t0.bd.1 t0.bd.2 (.slice ka kn kc) (.slice ca cn cc) t0.e.1 t0.e.2)) := by unfold Hid; rw [hX]; exact heap_alloc_new _ _
        unfold partO at hX
        rw [← hX]
        clear hX
        go_wp2_with fail
        go_loopg [10] 60 (fun q jv wr => ∃ (j : Nat) (t : Tr) (ka : Option Addr) (kn kc : Nat) (ca : Option Addr) (cn cc : Nat), j ≤ K ∧ j ≤ 32 ∧ q = 60 - j ∧ jv = .int .i64 j ∧ Hid (t = chT l.length (K - j) (32 - j) (30 * j)) ∧ Hid (Below w5.heap.size w5 wr) ∧
          Hid (wr.heap[w5.heap.size]? = some (partO t.kind t.hd.1 t.hd.2 t.bd.1 t.bd.2 (.slice ka kn kc) (.slice ca cn cc) t.e.1 t.e.2)) ∧
          Hid (treeAt (fun k => k < w5.heap.size) w5 t (.agg #[.int .i64 (t.kind : Int), .int .i64 (t.hd.1 : Int), .int .i64 (t.hd.2 : Int), .int .i64 (t.bd.1 : Int), .int .i64 (t.bd.2 : Int), .slice ka kn kc, .slice ca cn cc, .int .i64 (t.e.1 : Int), .int .i64 (t.e.2 : Int)])))
        case atStart => exact ⟨0, t0, ka, kn, kc, ca, cn, cc, by omega, by omega, rfl, rfl, HTr.out, HBX.out, O0.out, HT.out⟩
        case round =>
          clear HBX O0 HT HTr
          obtain ⟨j, t, ka, kn, kc, ca, cn, cc, hj, hj2, rfl, rfl, HTr, HB, HO, HT⟩ := hrel
          obtain ⟨x0, x1, x2, x3, x4, x5, x6, x7, x8⟩ := part_cells HO.out
          obtain ⟨f0, f1, f2, f3, f4, f5, f6, f7, f8⟩ := part_frozen HO.out
          by_cases hk : j < K ∧ j < 32
          · obtain ⟨a, ha⟩ : ∃ a, K - j = a + 1 := ⟨K - j - 1, by omega⟩
            obtain ⟨b, hb⟩ : ∃ b, 32 - j = b + 1 := ⟨32 - j - 1, by omega⟩
            have ht := HTr.out
            rw [ha, hb] at ht
            obtain ⟨ka', kn', kc', ca', cn', cc', us, he, hcu, ho, hk'⟩ := treeAt_open HT.out
            simp only [Value.agg.injEq, Array.mk.injEq, List.cons.injEq, Value.slice.injEq] at he
            obtain ⟨_, _, _, _, _, ⟨rfl, rfl, rfl⟩, ⟨rfl, rfl, rfl⟩, _⟩ := he
            obtain ⟨hkn, hkc, hkm, hat⟩ := kids_at ho hk'
            have hts : t.kids = [chT l.length a b (30 * j + 30)] := by rw [ht]; rfl
            have hkind : t.kind = 2 := by rw [ht]; rfl
            have hlen : t.kids.length = 1 := by rw [hts]; rfl
            obtain ⟨g, a1, n1, c1, a2, n2, c2, rfl, hg, _, h9, htk⟩ := hat 0 (by omega)
            obtain ⟨u, hu⟩ : ∃ u, u = t.kids[0]'(by omega) := ⟨_, rfl⟩
            have hu2 : u = chT l.length a b (30 * j + 30) := by rw [hu]; simp only [hts]; rfl
            rw [← hu] at h9 htk
            obtain rfl : kn = 1 := by omega
            rw [hkind] at x0
            obtain ⟨p0, p1, p2, p3, p4, p5, p6, p7, p8⟩ := h9.block (HB.out.block g hg)
            have HU := Lib.hid hu2
            have HTk := Lib.hid htk
            unfold maxLen at hkm
            simp only [Nat.zero_mul, Nat.zero_add] at p0 p1 p2 p3 p4 p5 p6 p7 p8
            clear hu hu2 htk h9 hat ho hk' hcu hts hlen hkn ht hkind HT
            go_wp2_with fail
            go_roundg (60 - (j + 1))
            case measure => omega
            case rel =>
              refine ⟨j + 1, u, a1, n1, c1, a2, n2, c2, by omega, by omega, rfl, by go_num, ?_, below_set9 HB.out (Nat.le_refl _), row_set9 HO.out, HTk.out⟩
              unfold Hid
              rw [HU.out, show K - (j + 1) = a by omega, show 32 - (j + 1) = b by omega, show 30 * (j + 1) = 30 * j + 30 by omega]
          · have hleaf : ∃ Q, t = leafT (30 * j) Q l.length ∧ (K ≤ 32 → Q = 30 * K + 6) := by
              have ht := HTr.out
              by_cases h0 : K - j = 0
              · rw [h0] at ht
                refine ⟨30 * j + 6, by rw [ht]; cases (32 - j) <;> rfl, fun _ => by omega⟩
              · obtain ⟨a, ha⟩ : ∃ a, K - j = a + 1 := ⟨K - j - 1, by omega⟩
                rw [ha, show 32 - j = 0 by omega] at ht
                exact ⟨30 * j + 30, ht, fun _ => by omega⟩
            obtain ⟨Q, ht, hQ⟩ := hleaf
            obtain ⟨ka', kn', kc', ca', cn', cc', us, he, hcu, ho, hk'⟩ := treeAt_open HT.out
            simp only [Value.agg.injEq, Array.mk.injEq, List.cons.injEq, Value.slice.injEq] at he
            obtain ⟨_, _, _, _, _, ⟨rfl, rfl, rfl⟩, ⟨rfl, rfl, rfl⟩, _⟩ := he
            obtain ⟨hkn, _⟩ := kids_at ho hk'
            subst ht
            obtain rfl : kn = 0 := hkn
            replace x0 : wr.cell? ⟨w5.heap.size, 0, none⟩ = some (.int .i64 0) := x0
            replace x3 : wr.cell? ⟨w5.heap.size, 3, none⟩ = some (.int .i64 (Q : Int)) := x3
            replace x4 : wr.cell? ⟨w5.heap.size, 4, none⟩ = some (.int .i64 (l.length : Int)) := x4
            have hln := HLn.out
            clear hcu ho hk' x1 x2 x6 x7 x8 f0 f1 f2 f3 f4 f5 f6 f7 f8 HT HO HTr
            have HBB := Lib.hid (HB5.out.trans (HB.out.mono HB5.out.size))
            obtain ⟨L, hL⟩ : ∃ L, L = l.length := ⟨_, rfl⟩
            rw [← hL] at x4 hln hlb
            by_cases h32 : 32 < K
            · obtain rfl : j = 32 := by omega
              have d1 : decide ((32 : Int) < (K : Int)) = true := decide_eq_true (by omega)
              clear hQ hln HLn hL
              go_wp2_with fail
              go_ret
              exact ⟨rfl, HBB.out⟩
            · obtain rfl : j = K := by omega
              have d1 : decide ((32 : Int) < (j : Int)) = false := decide_eq_false (by omega)
              have hq : Q = 30 * j + 6 := hQ (by omega)
              have hq2 : (L : Int) - (Q : Int) = (s.size : Int) := by omega
              have hQb : Q ≤ 2000 := by omega
              clear hQ hln HLn hL hq
              go_wp2_with fail
              go_ret
              exact ⟨rfl, HBB.out⟩
end Go.Proofs.YtjbleholnakdaaaGreatDoor
