/- Layer 18: the laws: WireCuts. -/
import Derived.Test.YtkkdplccneeaiaaGreatDoorGbWkF
namespace Go.Proofs.YtkkdplccneeaiaaGreatDoor
open Go Go.RowKit

theorem bytes_eq2 {a b : ByteArray} (h : a.data.toList = b.data.toList) : a = b := by
  cases a; cases b; simp at h; simp [h]
/-- What feeds have come to. -/
def FedTo (l : List UInt8) (k : Nat) (s : Fr) (U : ByteArray) : Prop :=
  (feedF (fr0.ext (l.take k))).2 = s ∧ U.data.toList = cmdsT (feedF (fr0.ext (l.take k))).1
theorem fed_start (l : List UInt8) : FedTo l 0 fr0 ⟨#[]⟩ := by
  have : feedF (fr0.ext (l.take 0)) = ([], fr0) := feedF_end (nextF_end (Nat.le_refl _))
  unfold FedTo
  rw [this]
  exact ⟨rfl, rfl⟩
theorem ext_ext (s : Fr) (a b : List UInt8) : (s.ext a).ext b = s.ext (a ++ b) := by unfold Fr.ext; simp
theorem fed_step {l : List UInt8} {k n : Nat} {s : Fr} {U : ByteArray} (h : FedTo l k s U) (hb : badE (feedF (fr0.ext l)).1 = false) :
    badE (feedF (s.ext ((l.drop k).take n))).1 = false ∧ ∀ T : ByteArray, T.data.toList = cmdsT (feedF (s.ext ((l.drop k).take n))).1 → FedTo l (k + n) (feedF (s.ext ((l.drop k).take n))).2 (U ++ T) := by
  obtain ⟨h1, h2⟩ := h
  have e1 : (fr0.ext (l.take (k + n))).ext (l.drop (k + n)) = fr0.ext l := by rw [ext_ext, List.take_append_drop]
  have e2 : (fr0.ext (l.take k)).ext ((l.drop k).take n) = fr0.ext (l.take (k + n)) := by rw [ext_ext, List.take_add]
  obtain ⟨i1, _⟩ := feed_cut (l.drop (k + n)) _ (fr0.ext (l.take (k + n))) (Nat.lt_succ_self _) (Nat.le_refl _) (by rw [e1]; exact hb)
  rw [← e2] at i1
  obtain ⟨_, j2, j3, j4, _⟩ := feed_cut ((l.drop k).take n) _ (fr0.ext (l.take k)) (Nat.lt_succ_self _) (Nat.le_refl _) i1
  rw [h1] at j2 j3 j4
  rw [e2] at j3 j4
  refine ⟨j2, fun T hT => ⟨j4, ?_⟩⟩
  rw [cat_toList, h2, hT, j3]
theorem fed_size {l : List UInt8} {k : Nat} {s : Fr} {U : ByteArray} (h : FedTo l k s U) (hk : k ≤ 400) : U.size ≤ 170000 ∧ s.l.length ≤ 400 := by
  obtain ⟨i1, i2⟩ := feed_cmds_len _ (fr0.ext (l.take k)) (Nat.lt_succ_self _)
  rw [h.1] at i2
  rw [← h.2, len_toList] at i1
  have e : (fr0.ext (l.take k)).l.length ≤ 400 := by
    show (l.take k).length ≤ 400
    rw [List.length_take]; omega
  have h4 : (fr0.ext (l.take k)).l.length * ((fr0.ext (l.take k)).l.length + 2) ≤ 400 * 402 := Nat.mul_le_mul e (by omega)
  exact ⟨by omega, by omega⟩
theorem fed_end {l : List UInt8} {k : Nat} {s : Fr} {U : ByteArray} (h : FedTo l k s U) (hb : badE (feedF (fr0.ext l)).1 = false) :
    badE (feedF (s.ext (l.drop k))).1 = false ∧ (feedF (s.ext (l.drop k))).2 = (feedF (fr0.ext l)).2 ∧ cmdsT (feedF (fr0.ext l)).1 = U.data.toList ++ cmdsT (feedF (s.ext (l.drop k))).1 := by
  obtain ⟨h1, h2⟩ := h
  have e1 : (fr0.ext (l.take k)).ext (l.drop k) = fr0.ext l := by rw [ext_ext, List.take_append_drop]
  obtain ⟨_, j2, j3, j4, _⟩ := feed_cut (l.drop k) _ (fr0.ext (l.take k)) (Nat.lt_succ_self _) (Nat.le_refl _) (by rw [e1]; exact hb)
  rw [h1, e1] at j3 j4
  rw [h1] at j2
  exact ⟨j2, j4.symm, by rw [h2]; exact j3⟩
theorem sliced_arg {w : World} {ao : Option Addr} {n cap : Nat} {l : List UInt8} (h : sliceAt w ao l) (hn : l.length = n) (hc : n ≤ cap) (hm : cap ≤ maxLen) (a d : Nat) (had : a + d ≤ n) :
    bytesArg w (.slice (if cap = a then ao else ao.map (·.add a)) d (cap - a)) ((l.drop a).take d) := by
  have e : ((l.drop a).take d).length = d := by rw [List.length_take, List.length_drop]; omega
  refine ⟨_, _, by rw [e], by rw [e]; omega, by omega, ?_⟩
  rcases h with rfl | ⟨b, off, rfl, h1, h2⟩
  · exact .inl (by simp)
  · split
    · next e' => exact .inl (List.eq_nil_of_length_eq_zero (by omega))
    · have e2 : (some ⟨b, off, none⟩ : Option Addr).map (·.add a) = some ⟨b, off + a, none⟩ := by simp [Addr.add_lit]
      have h3 : sliceAt w (some ⟨b, off, none⟩) l := .inr ⟨b, off, rfl, h1, h2⟩
      rw [e2]
      exact h3.drop.take d
/-- A feed, and the commands of it. -/
theorem fed_call (B : Nat) (w4 wr : World) (v a : Value) (s : Fr) (c : List UInt8) (hf : FrAt wr B B v s) (hb : Below B w4 wr) (ha : bytesArg wr a c) (h1 : s.l.length ≤ 400) (h2 : c.length ≤ 400) (hn : badE (feedF (s.ext c)).1 = false) :
    Calls Tryz.prog 15 #[.pointer (some ⟨B, 0, none⟩), a] wr fun e w' => ∃ u v', e = .returned u ∧ FrAt w' B B v' (feedF (s.ext c)).2 ∧ Below B w4 w' ∧
      Calls Tryz.prog 14 #[u] w' fun e2 w2 => ∃ T : ByteArray, e2 = .returned (.tuple #[.string T, .bool true]) ∧ T.data.toList = cmdsT (feedF (s.ext c)).1 ∧ T.size ≤ 700000 ∧ FrAt w2 B B v' (feedF (s.ext c)).2 ∧ Below B w4 w2 := by
  have hl : (s.ext c).l.length ≤ 800 := by show (s.l ++ c).length ≤ 800; rw [List.length_append]; omega
  have hel := feed_len _ (s.ext c) (Nat.lt_succ_self _)
  have hmu := mu_le (s.ext c)
  have hcl := (feed_cmds_len _ (s.ext c) (Nat.lt_succ_self _)).1
  have hcl2 : (cmdsT (feedF (s.ext c)).1).length ≤ 650000 := by
    have h4 : (s.ext c).l.length * ((s.ext c).l.length + 2) ≤ 800 * 802 := Nat.mul_le_mul hl (by omega)
    omega
  have h := wfeed_any B B v a s c wr hf ha (by omega) (Nat.le_refl _)
  unfold FdW at h
  refine h.mono ?_
  rintro e w' ⟨u, ps, v', H, rfl, hf', hp, ho, hH, hv, he, hb', hk⟩
  have hB : B ≤ w'.heap.size := Nat.le_of_lt hf'.box.lt
  refine ⟨u, v', rfl, hf', hb.trans hb', ?_⟩
  have h := commands_any B H u ps _ w' hp ho he (by omega) (by have := congrArg List.length hp; rw [List.length_map] at this; omega)
  unfold CmW at h
  refine h.mono ?_
  rintro e w2 ⟨T, rfl, hT, hb2⟩
  have hT2 := hT hn
  exact ⟨T, by rw [hn]; rfl, hT2, by rw [← len_toList, hT2]; omega, hf'.below hb2, (hb.trans hb').trans (hb2.mono hB)⟩
set_option maxRecDepth 100000 in
set_option maxHeartbeats 16000000 in
theorem wireCuts_any (v0 : Value) (l0 : List UInt8) (v1 : Value) (l1 : List UInt8) (w : World) (h0 : bytesArg w v0 l0) (h1 : bytesArg w v1 l1) (ht : tab w) :
    Calls Tryz.prog 4 #[v0, v1] w fun e w' => e = .returned (.bool true) ∧ Below w.heap.size w w' := by
  have HAw := Lib.hid (awake18_any w ht)
  obtain ⟨n0, hn0⟩ : ∃ n, n = l0.length := ⟨_, rfl⟩
  obtain ⟨n1, hn1⟩ : ∃ n, n = l1.length := ⟨_, rfl⟩
  have HN0 := Lib.hid hn0
  have HN1 := Lib.hid hn1
  have HA0 := Lib.hid h0
  obtain ⟨a0, p0, rfl, c00, c01, hs0⟩ := h0
  obtain ⟨a1, p1, rfl, c10, c11, hs1⟩ := h1
  have HS0 : Hid (sliceAt w a0 l0) := hs0
  have HS1 : Hid (sliceAt w a1 l1) := hs1
  rw [← hn0] at c00 HA0 ⊢
  rw [← hn1] at c10 ⊢
  clear hn0 hn1 hs0 hs1 ht
  by_cases hbg : 400 < n0
  · have g0 : (400 : Int) < (n0 : Int) := by omega
    go_enter Tryz.func4, Tryz.ntmps4
    go_wp2_with fail
    with_reducible refine HAw.out.mono ?_
    rintro e w1 ⟨rfl, hb1⟩
    go_wp2_with fail
    go_ret
    exact ⟨rfl, hb1⟩
  by_cases hbg1 : 60 < n1
  · have g0 : ¬ (400 : Int) < (n0 : Int) := by omega
    have g1 : (60 : Int) < (n1 : Int) := by omega
    go_enter Tryz.func4, Tryz.ntmps4
    go_wp2_with fail
    with_reducible refine HAw.out.mono ?_
    rintro e w1 ⟨rfl, hb1⟩
    go_wp2_with fail
    go_ret
    exact ⟨rfl, hb1⟩
  · have g0 : ¬ (400 : Int) < (n0 : Int) := by omega
    have g1 : ¬ (60 : Int) < (n1 : Int) := by omega
    have g0' : decide ((400 : Int) < (n0 : Int)) = false := decide_eq_false g0
    have hn400 : n0 ≤ 400 := by omega
    have hn60 : n1 ≤ 60 := by omega
    go_enter Tryz.func4, Tryz.ntmps4
    go_wp2_with fail
    with_reducible refine HAw.out.mono ?_
    rintro e w1 ⟨rfl, hb1⟩
    have HB1 := Lib.hid hb1
    obtain ⟨w2, hw2⟩ : ∃ x, x = w1.alloc (.cells #[.slice none 0 0, .int .i64 0, .int .i64 0, .int .i64 0] 34) := ⟨_, rfl⟩
    have HB12 : Hid (Below w1.heap.size w1 w2) := by unfold Hid; rw [hw2]; exact (Below.refl _ _).alloc (Nat.le_refl _) _
    have HB2 := Lib.hid (HB1.out.trans (HB12.out.mono HB1.out.size))
    have hf2 : FrAt w2 w1.heap.size w1.heap.size (.slice none 0 0) fr0 := frAt_new hw2 rfl
    have HW2 := Lib.hid hw2
    have HC3 := Lib.hid (wfeed_any w1.heap.size w1.heap.size _ _ fr0 l0 w2 hf2 (HA0.out.below HB2.out) (by rw [← HN0.out]; show 0 + n0 ≤ _; omega) (Nat.le_refl _))
    unfold FdW at HC3
    obtain ⟨r, hr⟩ : ∃ r, r = feedF (fr0.ext l0) := ⟨_, rfl⟩
    rw [← hr] at HC3
    have h3 : (fr0.ext l0).l.length = n0 := by rw [HN0.out]; rfl
    have hel : (r.1).length ≤ 402 := by
      have := feed_len _ (fr0.ext l0) (Nat.lt_succ_self _)
      have h2 := mu_le (fr0.ext l0)
      rw [← hr] at this
      omega
    obtain ⟨hcl0, hfin0⟩ := feed_cmds_len _ (fr0.ext l0) (Nat.lt_succ_self _)
    rw [← hr, h3] at hcl0 hfin0
    have hcl : (cmdsT r.1).length ≤ 170000 := by
      have h4 : n0 * (n0 + 2) ≤ 400 * 402 := Nat.mul_le_mul hn400 (by omega)
      omega
    have HR := Lib.hid hr
    have HEl := Lib.hid hel
    have HCl := Lib.hid hcl
    clear hb1 hw2 HAw hf2 hr hel hcl hfin0 hcl0 h3
    go_upto_region 7 with fail
    rw [← HW2.out]
    go_upto_region 8 with (first | (go_at_call 15; with_reducible refine HC3.out.mono ?_; rintro e w3 ⟨u3, ps3, v3, H3, rfl, hf3, hp3, ho3, hH3, hv3, he3, hb3, hk3⟩; have HF3 := Lib.hid hf3; have HB3 := Lib.hid (HB2.out.trans (hb3.mono (by have := HB1.out.size; omega))); have HCm := Lib.hid (commands_any w1.heap.size H3 u3 ps3 r.1 w3 hp3 ho3 he3 (by have := HCl.out; omega) (by have := HEl.out; rw [← hp3, List.length_map] at this; omega)); unfold CmW at HCm; clear hf3 hp3 ho3 hH3 hv3 he3 hb3 hk3 HC3) | (go_at_call 14; with_reducible refine HCm.out.mono ?_; rintro e w4 ⟨U4, rfl, hU4, hb4⟩))
    have HF4 := Lib.hid (HF3.out.below hb4)
    have HB4 := Lib.hid (HB3.out.trans (hb4.mono HB3.out.size))
    have HU4 := Lib.hid hU4
    obtain ⟨bd, hbd⟩ : ∃ bd, bd = badE r.1 := ⟨_, rfl⟩
    rw [← hbd]
    have HBd := Lib.hid hbd
    clear hb4 hU4 hbd HCm HF3 HB3
    cases bd with
    | true =>
      go_wp2_with fail
      go_ret
      exact ⟨rfl, HB4.out⟩
    | false =>
      obtain ⟨w5, hw5⟩ : ∃ x, x = w4.alloc (.cells #[.slice none 0 0, .int .i64 0, .int .i64 0, .int .i64 0] 34) := ⟨_, rfl⟩
      have HB5 : Hid (Below w4.heap.size w4 w5) := by unfold Hid; rw [hw5]; exact (Below.refl _ _).alloc (Nat.le_refl _) _
      have HF5 : Hid (FrAt w5 w4.heap.size w4.heap.size (.slice none 0 0) fr0) := frAt_new hw5 rfl
      have HW5 := Lib.hid hw5
      have HNb : Hid (badE (feedF (fr0.ext l0)).1 = false) := by unfold Hid; rw [← HR.out]; exact HBd.out.symm
      have HFd := Lib.hid (fun v a s c W (h : FrAt W w4.heap.size w4.heap.size v s) (ha : bytesArg W a c) hb => wfeed_any w4.heap.size w4.heap.size v a s c W h ha hb (Nat.le_refl _))
      unfold FdW at HFd
      have HLf := Lib.hid (fun B v s W (h : FrAt W B B v s) => wleft_any B B v s W h)
      have hm0 : p0 ≤ 9223372036854775807 := by unfold maxLen at c01; omega
      clear hw5
      go_upto_region 11 with fail
      rw [← HW5.out]
      go_wp2_with fail
      go_loopg [10, 11, 12] n1 (fun g x a i wr => ∃ (k c : Nat) (U : ByteArray) (v : Value) (s : Fr), g = n1 - k ∧ k ≤ n1 ∧ c ≤ n0 ∧ i = .int .i64 (k : Int) ∧ a = .int .i64 (c : Int) ∧ x = .string U ∧ Hid (FrAt wr w4.heap.size w4.heap.size v s) ∧ Hid (Below w4.heap.size w4 wr) ∧ Hid (FedTo l0 c s U))
      case atStart => exact ⟨0, 0, ⟨#[]⟩, _, fr0, by omega, by omega, by omega, rfl, rfl, rfl, HF5.out, HB5.out, fed_start l0⟩
      case round =>
        obtain ⟨k, c, U, v, s, rfl, hk, hc, rfl, rfl, rfl, HF, HB, HT⟩ := hrel
        have HBw := Lib.hid (HB4.out.trans (HB.out.mono HB4.out.size))
        obtain ⟨hUz, hsl⟩ := fed_size HT.out (by omega)
        have HSl := Lib.hid hsl
        clear hsl
        by_cases hlt : k < n1
        · have hd : (k : Int) < (n1 : Int) := by omega
          obtain ⟨b, off, rfl, hb, hcell⟩ := HS1.out.cell k (by rw [← HN1.out]; exact hlt)
          obtain ⟨y, hy⟩ : ∃ y, y = l1[k]'(by rw [← HN1.out]; exact hlt) := ⟨_, rfl⟩
          rw [← hy] at hcell
          have hcell' := (HBw.out.cell (p := ⟨b, off + k, none⟩) hb).trans hcell
          obtain ⟨m, hm⟩ : ∃ m, m = y.toNat % 16 := ⟨_, rfl⟩
          have m1 : (y.toNat : Int) % 16 = (m : Int) := by omega
          have m2 : (y.toNat : Int).tmod 16 = (m : Int) := by rw [Int.tmod_eq_emod_of_nonneg (by omega)]; exact m1
          have hm16 : m < 16 := by omega
          have m3 : IntKind.u8.wrap (m : Int) = (m : Int) := by show (m : Int) % 256 = _; omega
          clear hy hm hcell hb
          by_cases hgt : n0 - c < m
          · have hq : (n0 : Int) - (c : Int) < (m : Int) := by omega
            obtain ⟨d, hd2⟩ : ∃ d, d = n0 - c := ⟨_, rfl⟩
            have hcd : c + d ≤ n0 := by omega
            have e1 : (n0 : Int) - (c : Int) = (d : Int) := by omega
            clear hd2 hgt
            go_upto_region 19 with fail
            by_cases hpc : p0 = c
            · subst hpc
              obtain ⟨hnb, hfs⟩ := fed_step (n := d) HT.out HNb.out
              have HFs := Lib.hid hfs
              have HCf := Lib.hid (fed_call w4.heap.size w4 wr v (.slice a0 d (0)) s _ HF.out HB.out (by have := (sliced_arg HS0.out HN0.out.symm c00 c01 p0 d (by omega)).below HBw.out; rw [if_pos rfl, Nat.sub_self] at this; exact this) HSl.out (by rw [List.length_take]; omega) hnb)
              clear hnb hfs
              go_wp2_with (first | (go_at_call 15; with_reducible refine HCf.out.mono ?_; rintro e w6 ⟨u6, v6, rfl, hf6, hb6, hc6⟩; have HC6 := Lib.hid hc6; clear hf6 hb6 hc6 HCf) | (go_at_call 14; with_reducible refine HC6.out.mono ?_; rintro e w7 ⟨T, rfl, hT, hTz, hf7, hb7⟩; have HF7 := Lib.hid hf7; have HB7 := Lib.hid hb7; have HT7 := Lib.hid (HFs.out T hT); clear hf7 hb7 hT HC6))
              go_roundg (n1 - (k + 1))
              case measure => omega
              case rel => exact ⟨k + 1, p0 + d, _, v6, _, rfl, hlt, by omega, by go_num, by go_num, rfl, HF7.out, HB7.out, HT7.out⟩
            · obtain ⟨hnb, hfs⟩ := fed_step (n := d) HT.out HNb.out
              have HFs := Lib.hid hfs
              have HCf := Lib.hid (fed_call w4.heap.size w4 wr v (.slice (a0.map (·.add c)) d (p0 - c)) s _ HF.out HB.out (by have := (sliced_arg HS0.out HN0.out.symm c00 c01 c d (by omega)).below HBw.out; rw [if_neg hpc] at this; exact this) HSl.out (by rw [List.length_take]; omega) hnb)
              clear hnb hfs
              go_wp2_with (first | (go_at_call 15; with_reducible refine HCf.out.mono ?_; rintro e w6 ⟨u6, v6, rfl, hf6, hb6, hc6⟩; have HC6 := Lib.hid hc6; clear hf6 hb6 hc6 HCf) | (go_at_call 14; with_reducible refine HC6.out.mono ?_; rintro e w7 ⟨T, rfl, hT, hTz, hf7, hb7⟩; have HF7 := Lib.hid hf7; have HB7 := Lib.hid hb7; have HT7 := Lib.hid (HFs.out T hT); clear hf7 hb7 hT HC6))
              go_roundg (n1 - (k + 1))
              case measure => omega
              case rel => exact ⟨k + 1, c + d, _, v6, _, rfl, hlt, by omega, by go_num, by go_num, rfl, HF7.out, HB7.out, HT7.out⟩
          · have hq : ¬ (n0 : Int) - (c : Int) < (m : Int) := by omega
            have hcd : c + m ≤ n0 := by omega
            go_upto_region 19 with fail
            by_cases hpc : p0 = c
            · subst hpc
              obtain ⟨hnb, hfs⟩ := fed_step (n := m) HT.out HNb.out
              have HFs := Lib.hid hfs
              have HCf := Lib.hid (fed_call w4.heap.size w4 wr v (.slice a0 m (0)) s _ HF.out HB.out (by have := (sliced_arg HS0.out HN0.out.symm c00 c01 p0 m (by omega)).below HBw.out; rw [if_pos rfl, Nat.sub_self] at this; exact this) HSl.out (by rw [List.length_take]; omega) hnb)
              clear hnb hfs
              go_wp2_with (first | (go_at_call 15; with_reducible refine HCf.out.mono ?_; rintro e w6 ⟨u6, v6, rfl, hf6, hb6, hc6⟩; have HC6 := Lib.hid hc6; clear hf6 hb6 hc6 HCf) | (go_at_call 14; with_reducible refine HC6.out.mono ?_; rintro e w7 ⟨T, rfl, hT, hTz, hf7, hb7⟩; have HF7 := Lib.hid hf7; have HB7 := Lib.hid hb7; have HT7 := Lib.hid (HFs.out T hT); clear hf7 hb7 hT HC6))
              go_roundg (n1 - (k + 1))
              case measure => omega
              case rel => exact ⟨k + 1, p0 + m, _, v6, _, rfl, hlt, by omega, by go_num, by go_num, rfl, HF7.out, HB7.out, HT7.out⟩
            · obtain ⟨hnb, hfs⟩ := fed_step (n := m) HT.out HNb.out
              have HFs := Lib.hid hfs
              have HCf := Lib.hid (fed_call w4.heap.size w4 wr v (.slice (a0.map (·.add c)) m (p0 - c)) s _ HF.out HB.out (by have := (sliced_arg HS0.out HN0.out.symm c00 c01 c m (by omega)).below HBw.out; rw [if_neg hpc] at this; exact this) HSl.out (by rw [List.length_take]; omega) hnb)
              clear hnb hfs
              go_wp2_with (first | (go_at_call 15; with_reducible refine HCf.out.mono ?_; rintro e w6 ⟨u6, v6, rfl, hf6, hb6, hc6⟩; have HC6 := Lib.hid hc6; clear hf6 hb6 hc6 HCf) | (go_at_call 14; with_reducible refine HC6.out.mono ?_; rintro e w7 ⟨T, rfl, hT, hTz, hf7, hb7⟩; have HF7 := Lib.hid hf7; have HB7 := Lib.hid hb7; have HT7 := Lib.hid (HFs.out T hT); clear hf7 hb7 hT HC6))
              go_roundg (n1 - (k + 1))
              case measure => omega
              case rel => exact ⟨k + 1, c + m, _, v6, _, rfl, hlt, by omega, by go_num, by go_num, rfl, HF7.out, HB7.out, HT7.out⟩
        · obtain rfl : k = n1 := by omega
          have hd : ¬ (k : Int) < (k : Int) := by omega
          by_cases hpc : p0 = c
          · subst hpc
            obtain ⟨hnb, hfin, hcm⟩ := fed_end HT.out HNb.out
            rw [← HR.out] at hfin hcm
            have hta : (l0.drop p0).take (n0 - p0) = l0.drop p0 := List.take_of_length_le (by rw [List.length_drop, ← HN0.out]; exact Nat.le_refl _)
            have hag : bytesArg wr (.slice a0 (0) (0)) (l0.drop p0) := by
              have := (sliced_arg HS0.out HN0.out.symm c00 c01 p0 (n0 - p0) (by omega)).below HBw.out
              rw [hta, if_pos rfl, Nat.sub_self, show n0 - p0 = 0 by omega] at this
              exact this
            have HFin := Lib.hid hfin
            have HCm := Lib.hid hcm
            have HCf := Lib.hid (fed_call w4.heap.size w4 wr v (.slice a0 (0) (0)) s _ HF.out HB.out hag HSl.out (by rw [List.length_drop, ← HN0.out]; omega) hnb)
            clear hnb hfin hcm hta hag
            go_upto_region 25 with (first | (go_at_call 15; with_reducible refine HCf.out.mono ?_; rintro e w6 ⟨u6, v6, rfl, hf6, hb6, hc6⟩; have HC6 := Lib.hid hc6; clear hf6 hb6 hc6 HCf) | (go_at_call 14; with_reducible refine HC6.out.mono ?_; rintro e w7 ⟨T, rfl, hT, hTz, hf7, hb7⟩; have HF7 := Lib.hid hf7; have HB7 := Lib.hid hb7; have HT7 := Lib.hid hT; clear hf7 hb7 hT HC6))
            have hUT : U4 = U ++ T := by
              refine bytes_eq2 ?_
              rw [HU4.out HBd.out.symm, HCm.out, cat_toList, HT7.out]
            have HL1 := Lib.hid (HLf.out _ _ _ w7 (HF4.out.below HB7.out))
            have HL2 := Lib.hid (HLf.out _ _ _ w7 HF7.out)
            rw [HFin.out] at HL2
            obtain ⟨lf, hlf⟩ : ∃ n, n = r.2.l.length := ⟨_, rfl⟩
            rw [← hlf] at HL1 HL2
            clear hlf
            have xx2 : ((U ++ T).toList == (U ++ T).toList) = true := by simp
            rw [hUT]
            clear hUT
            go_wp2_with (first | (go_at_call 16; with_reducible refine HL1.out.mono ?_; rintro e w8 ⟨rfl, rfl⟩) | (go_at_call 16; with_reducible refine HL2.out.mono ?_; rintro e w8 ⟨rfl, rfl⟩))
            go_ret
            exact ⟨rfl, HB4.out.trans (HB7.out.mono HB4.out.size)⟩
          · obtain ⟨hnb, hfin, hcm⟩ := fed_end HT.out HNb.out
            rw [← HR.out] at hfin hcm
            have hta : (l0.drop c).take (n0 - c) = l0.drop c := List.take_of_length_le (by rw [List.length_drop, ← HN0.out]; exact Nat.le_refl _)
            have hag : bytesArg wr (.slice (a0.map (·.add c)) (n0 - c) (p0 - c)) (l0.drop c) := by
              have := (sliced_arg HS0.out HN0.out.symm c00 c01 c (n0 - c) (by omega)).below HBw.out
              rw [hta, if_neg hpc] at this
              exact this
            have HFin := Lib.hid hfin
            have HCm := Lib.hid hcm
            have HCf := Lib.hid (fed_call w4.heap.size w4 wr v (.slice (a0.map (·.add c)) (n0 - c) (p0 - c)) s _ HF.out HB.out hag HSl.out (by rw [List.length_drop, ← HN0.out]; omega) hnb)
            clear hnb hfin hcm hta hag
            go_upto_region 25 with (first | (go_at_call 15; with_reducible refine HCf.out.mono ?_; rintro e w6 ⟨u6, v6, rfl, hf6, hb6, hc6⟩; have HC6 := Lib.hid hc6; clear hf6 hb6 hc6 HCf) | (go_at_call 14; with_reducible refine HC6.out.mono ?_; rintro e w7 ⟨T, rfl, hT, hTz, hf7, hb7⟩; have HF7 := Lib.hid hf7; have HB7 := Lib.hid hb7; have HT7 := Lib.hid hT; clear hf7 hb7 hT HC6))
            have hUT : U4 = U ++ T := by
              refine bytes_eq2 ?_
              rw [HU4.out HBd.out.symm, HCm.out, cat_toList, HT7.out]
            have HL1 := Lib.hid (HLf.out _ _ _ w7 (HF4.out.below HB7.out))
            have HL2 := Lib.hid (HLf.out _ _ _ w7 HF7.out)
            rw [HFin.out] at HL2
            obtain ⟨lf, hlf⟩ : ∃ n, n = r.2.l.length := ⟨_, rfl⟩
            rw [← hlf] at HL1 HL2
            clear hlf
            have xx2 : ((U ++ T).toList == (U ++ T).toList) = true := by simp
            rw [hUT]
            clear hUT
            go_wp2_with (first | (go_at_call 16; with_reducible refine HL1.out.mono ?_; rintro e w8 ⟨rfl, rfl⟩) | (go_at_call 16; with_reducible refine HL2.out.mono ?_; rintro e w8 ⟨rfl, rfl⟩))
            go_ret
            exact ⟨rfl, HB4.out.trans (HB7.out.mono HB4.out.size)⟩
end Go.Proofs.YtkkdplccneeaiaaGreatDoor
