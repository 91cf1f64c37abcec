/- Statement EnvelopeLists, for any addresses whose texts are of bounded bulk. -/
import Derived.Test.YtbphnlaoiikebaaGreatDoorGbEnH
import Derived.Deep.DeepCutAuto
import Derived.Deep.CutBlock
namespace Go.Proofs.YtbphnlaoiikebaaGreatDoor
open Go Go.RowKit

set_option maxRecDepth 100000 in
set_option maxHeartbeats 8000000 in
theorem envelopeLists_any (v : Value) (l : List Adx) (w : World) (hv : rowAdx w v l) (hs : smallX l 1048576) (he : env w) :
    Calls Tryz.prog 3 #[v] w fun e w' => e = .returned (.bool true) ∧ Below w.heap.size w w' := by
  have HAw := Lib.hid (awake19_any w he)
  have HEn := Lib.hid he
  have HV := Lib.hid hv
  obtain ⟨ao, cap, rfl, hc, hm, hcells⟩ := hv.at
  unfold maxLen at hm
  have HC := Lib.hid hcells
  obtain ⟨i0, hi0, hz⟩ := Option.map_eq_some_iff.1 Tryz.infoRefA
  simp only [Prod.mk.injEq] at hz
  obtain ⟨hz0, hz1, hz2⟩ := hz
  obtain ⟨n, hn⟩ : ∃ n, n = l.length := ⟨_, rfl⟩
  by_cases h20 : 20 < l.length
  · rw [← hn] at h20 hc ⊢
    have q1 : decide ((20 : Int) < (n : Int)) = true := decide_eq_true (by omega)
    have q2 : (20 : Int) < (n : Int) := by omega
    clear h20 hn hcells hs hv
    go_enter Tryz.func3, Tryz.ntmps3
    go_wp2_with fail
    with_reducible refine HAw.out.mono ?_
    rintro e w1 ⟨rfl, hb1⟩
    have HB1 := Lib.hid hb1
    clear hb1
    go_wp2_with fail
    go_ret
    exact ⟨rfl, HB1.out⟩
  · have HTx := Lib.hid (fun W (h : rowAdx W (.slice ao l.length cap) l) ht => elist_any _ l W h hs (by omega) ht)
    have HRf := Lib.hid (fun u W (h : rowAdx W u l) => rlist_any u l W h hs (by omega))
    obtain ⟨S, hS⟩ : ∃ S : ByteArray, S = ⟨(listW l).toArray⟩ := ⟨_, rfl⟩
    rw [← hS] at HTx
    have HSt : Hid (S.data.toList = listW l) := by unfold Hid; rw [hS]
    rw [← hn] at HTx h20 hc ⊢
    have HN := Lib.hid hn
    have q2 : ¬ (20 : Int) < (n : Int) := by omega
    clear hn hcells hs hv hS
    go_enter Tryz.func3, Tryz.ntmps3
    go_wp2_with fail
    with_reducible refine HAw.out.mono ?_
    rintro e w1 ⟨rfl, hb1⟩
    have HB1 := Lib.hid hb1
    clear hb1
    go_wp2_with fail
    go_loopg [4, 5] n (fun g v4 v5 wr => ∃ (i : Nat) (u : Value), u = v4 ∧ g = n - i ∧ i ≤ n ∧ v5 = .int .i64 (i : Int) ∧ Hid (wr.ownsRow w.heap.size 27 4 u i (adxCells (l.take i))) ∧ Hid (Below w.heap.size w wr))
    case atStart => exact ⟨0, _, rfl, by omega, by omega, rfl, World.ownsRow_nil _ _ _ _, HB1.out⟩
    case round =>
      obtain ⟨i, u, rfl, rfl, hi, rfl, HO, HB⟩ := hrel
      by_cases hlt : i < n
      · have hil : i < l.length := by rw [← HN.out]; exact hlt
        obtain ⟨g, off, rfl, hg, z0, z1, z2, z3⟩ := HC.out i hil
        have hT := List.take_succ_eq_append_getElem (l := l) (i := i) hil
        obtain ⟨a, ha⟩ : ∃ a, a = l[i] := ⟨_, rfl⟩
        rw [← ha] at z0 z1 z2 z3 hT
        obtain ⟨K, nm, lo, ho⟩ := a
        simp only at z0 z1 z2 z3
        have c0 := (HB.out.cell (p := ⟨g, off + i * 4, none⟩) hg).trans z0
        have c1 := (HB.out.cell (p := ⟨g, off + i * 4 + 1, none⟩) hg).trans z1
        have c2 := (HB.out.cell (p := ⟨g, off + i * 4 + 2, none⟩) hg).trans z2
        have c3 := (HB.out.cell (p := ⟨g, off + i * 4 + 3, none⟩) hg).trans z3
        obtain ⟨N, hN⟩ : ∃ N : ByteArray, N = ⟨nm.toArray⟩ := ⟨_, rfl⟩
        obtain ⟨L, hL⟩ : ∃ L : ByteArray, L = ⟨lo.toArray⟩ := ⟨_, rfl⟩
        obtain ⟨H, hH⟩ : ∃ H : ByteArray, H = ⟨ho.toArray⟩ := ⟨_, rfl⟩
        have HT : Hid (adxCells (l.take (i + 1)) = adxCells (l.take i) ++ [.int .i64 K, .string N, .string L, .string H]) := by
          unfold Hid
          rw [hT, adxCells_snoc, hN, hL, hH]
          rfl
        rw [← hN] at c1
        rw [← hL] at c2
        rw [← hH] at c3
        have hgr : g < wr.heap.size := Nat.lt_of_lt_of_le hg HB.out.size
        have hgn : ¬ g = wr.heap.size := by omega
        have HOx : Hid (∀ W, Below wr.heap.size wr W → W.ownsRow w.heap.size 27 4 u i (adxCells (l.take i))) := fun W hb => ownsRow_below HO.out hb
        have HSx : Hid (∀ W, Below wr.heap.size wr W → w.heap.size ≤ W.heap.size) := fun W hb => by have := hb.size; have := HB.out.size; omega
        clear z0 z1 z2 z3 hT ha hN hL hH
        go_wp2_with fail
        go_region_law ((refine step_append_lies _ (by exact rfl) _ _ 24 (by exact rfl) w.heap.size 27 i0 (.agg #[.int .i64 0, .string ⟨#[]⟩, .string ⟨#[]⟩, .string ⟨#[]⟩]) 4 56 Tryz.underlying24 hi0 hz0 hz1 hz2 rfl (by decide) _ i _ (by exact rfl) (HOx.out _ (by first | exact (Below.refl _ _).drew | exact (Below.refl _ _).drew.alloc (Nat.le_refl _) _ | exact ((Below.refl _ _).alloc (Nat.le_refl _) _).drew)) ⟨wr.heap.size, 0, none⟩ 1 1 [.int .i64 K, .string N, .string L, .string H] (by exact rfl) rfl (World.news_of_block (cs := #[.int .i64 K, .string N, .string L, .string H]) (heap_alloc_new wr _)) (by simp [Value.oneCell']) (by decide) (by unfold maxLen; omega) (by omega) (HSx.out _ (by first | exact (Below.refl _ _).drew | exact (Below.refl _ _).drew.alloc (Nat.le_refl _) _ | exact ((Below.refl _ _).alloc (Nat.le_refl _) _).drew)) _ rfl ?_; intro g7 cap7 w7 hown7 hgrow7 _ _))
        all_goals
          have HB7 : Hid (Below w.heap.size w w7) := (HB.out.trans (Below.mono (B := wr.heap.size) (by first | exact (Below.refl _ _).drew.alloc (Nat.le_refl _) _ | exact ((Below.refl _ _).alloc (Nat.le_refl _) _).drew) HB.out.size)).grown hgrow7 (by have := HB.out.size; simp; omega) (fun q hq => (HO.out.lt q hq).1)
          have HO7 := Lib.hid hown7
          clear hown7 hgrow7
          go_wp2_with fail
          go_roundg (n - (i + 1))
          case measure => omega
          case rel => exact ⟨i + 1, _, rfl, rfl, by omega, by go_num, wsCast HO7.out rfl HT.out.symm, HB7.out⟩
      · have hTk : l.take i = l := List.take_of_length_le (by rw [← HN.out]; omega)
        have hin : i = n := by omega
        have HO3 : Hid (wr.ownsRow w.heap.size 27 4 u l.length (adxCells l)) := by
          have := HO.out
          rw [hTk, hin, HN.out] at this
          exact this
        have HX := Lib.hid (HTx.out wr (by rw [HN.out]; exact HV.out.below HB.out) (HEn.out.below HB.out).1)
        clear hTk hin HO
        go_wp2_with fail
        with_reducible refine HX.out.mono ?_
        rintro e w4 ⟨rfl, hb4⟩
        have HB4 : Hid (Below w.heap.size w w4) := HB.out.trans (hb4.mono HB.out.size)
        have HY := Lib.hid (HRf.out u w4 (rowAdx_ownedX (ownsRow_below HO3.out hb4)))
        clear hb4
        go_wp2_with fail
        with_reducible refine HY.out.mono ?_
        rintro e w5 ⟨T, rfl, hT, hb5⟩
        have bST : (S.toList == T.toList) = true := str_eq (by rw [HSt.out, hT])
        clear hT
        go_wp2_with fail
        go_ret
        exact ⟨rfl, HB4.out.trans (hb5.mono HB4.out.size)⟩
end Go.Proofs.YtbphnlaoiikebaaGreatDoor
