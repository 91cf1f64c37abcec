/- Contracts of package fetch: down. -/
import Derived.Test.YtahmhakdpmcdoaaGreatDoorGbFeE
namespace Go.Proofs.YtahmhakdpmcdoaaGreatDoor
open Go Go.RowKit

theorem partsOf_any (m : Bool) (t : Tr) (ks cs : Value) (w0 w : World) (hb0 : Below w0.heap.size w0 w) (hta : tAt w0 t (ptV t ks cs)) :
    Calls Tryz.prog 27 #[ptV t ks cs, .bool m] w (rowPost w0 (partsB m t) w) := by
  cases m with
  | true => exact partsOf_true t ks cs w0 w hb0 hta
  | false => exact partsOf_false t ks cs w0 w hb0 hta
def downPost (o : Option Tr) (w : World) (e : Ending) (w' : World) : Prop :=
  match o with
  | some q => ∃ a n c a2 n2 c2, e = .returned (.tuple #[ptV q (.slice a n c) (.slice a2 n2 c2), .bool true]) ∧ tAt w q (ptV q (.slice a n c) (.slice a2 n2 c2)) ∧ Below w.heap.size w w'
  | none => ∃ q a n c a2 n2 c2, e = .returned (.tuple #[ptV q (.slice a n c) (.slice a2 n2 c2), .bool false]) ∧ Below w.heap.size w w'
theorem down_no {m : Bool} {t : Tr} {n : Int} {r : List Int} (h : nthT (partsB m t) n = none) : downT m t (n :: r) = none := by
  unfold downT
  rw [h]
theorem down_yes {m : Bool} {t q : Tr} {n : Int} {r : List Int} (h : nthT (partsB m t) n = some q) : downT m t (n :: r) = downT false q r := by
  conv => lhs; unfold downT
  rw [h]
theorem nth_low {ts : List Tr} {n : Int} (h : n < 1) : nthT ts n = none := by unfold nthT; rw [if_pos h]
theorem nth_high {ts : List Tr} {n : Int} (h : (ts.length : Int) < n) : nthT ts n = none := by
  unfold nthT
  rw [if_neg (by omega), List.getElem?_eq_none (by omega)]
set_option maxRecDepth 100000 in
set_option maxHeartbeats 2000000 in
theorem down_any (t : Tr) (ks cs : Value) (p : List Int) (a1 : Option Addr) (c1 : Nat) (w : World) (hta : tAt w t (ptV t ks cs)) (hp : rowOf w (.slice a1 p.length c1) (p.map intV)) (hne : p ≠ []) (hpl : p.length ≤ 9223372036854775807) :
    Calls Tryz.prog 17 #[ptV t ks cs, .slice a1 p.length c1] w (downPost (downT true t p) w) := by
  obtain ⟨ka, kc, ca, cn, cc, rfl, rfl, _⟩ := hta.kids
  have HTa := Lib.hid hta
  have HP := Lib.hid hp
  have HPa := Lib.hid (fun (m : Bool) q ks' cs' W h1 h2 => partsOf_any m q ks' cs' w W h1 h2)
  obtain ⟨o, ho⟩ : ∃ o, o = downT true t p := ⟨_, rfl⟩
  rw [← ho]
  have HO := Lib.hid ho
  obtain ⟨X, hX⟩ : ∃ X, X = (w.alloc (ptO t (.slice ka t.kids.length kc) (.slice ca cn cc))).alloc (partO 0 0 0 0 0 (.slice none 0 0) (.slice none 0 0) 0 0) := ⟨_, rfl⟩
  obtain ⟨hz, hbX, p0, p1⟩ := alloc2 hX
  have HBX := Lib.hid hbX
  have HP0 := Lib.hid p0
  have HP1 := Lib.hid p1
  have hpos : 0 < p.length := List.length_pos_iff.2 hne
  unfold ptO partO at hX
  unfold ptV
  have HXe := Lib.hid hX.symm
  have HZ := Lib.hid hz
  clear hta hp ho hX hbX p0 p1 hz hne
  go_enter Tryz.func17, Tryz.ntmps17
  go_upto_region 1 with fail
  rw [HXe.out]
  go_wp2_with fail
  go_step3
  go_wp2_with fail
  go_step3
  go_wp2_with fail
  go_loopg [6, 12] p.length (fun g zv jv wr => ∃ (j : Nat) (q : Tr) (z : Bool) (a a2 : Option Addr) (n c n2 c2 : Nat), j ≤ p.length ∧ g = p.length - j ∧ zv = .bool z ∧ jv = .int .i64 (j : Int) ∧ (0 < j → z = true) ∧
    Hid (tAt w q (ptV q (.slice a n c) (.slice a2 n2 c2))) ∧ Hid (wr.heap[w.heap.size]? = some (ptO q (.slice a n c) (.slice a2 n2 c2))) ∧ Hid (wr.heap[w.heap.size + 1]? = some (partO 0 0 0 0 0 (.slice none 0 0) (.slice none 0 0) 0 0)) ∧
    Hid (o = downT (decide (j = 0)) q (p.drop j)) ∧ Hid (Below w.heap.size w wr))
  case atStart => exact ⟨0, t, false, ka, ca, t.kids.length, kc, cn, cc, Nat.zero_le _, rfl, rfl, rfl, fun h => absurd h (Nat.lt_irrefl _), HTa.out, HP0.out, HP1.out, HO.out, HBX.out⟩
  case round =>
    clear HTa HP0 HP1 HO HXe
    obtain ⟨j, q, z, a, a2, n, c, n2, c2, hj, rfl, rfl, rfl, hz, HTq, HQ0, HQ1, HE, HB⟩ := hrel
    obtain ⟨q0, q1, q2, q3, q4, q5, q6, q7, q8⟩ := part_cells HQ0.out
    obtain ⟨y0, y1, y2, y3, y4, y5, y6, y7, y8⟩ := part_frozen HQ0.out
    obtain ⟨r0, r1, r2, r3, r4, r5, r6, r7, r8⟩ := part_cells HQ1.out
    obtain ⟨x0, x1, x2, x3, x4, x5, x6, x7, x8⟩ := part_frozen HQ1.out
    have hsz : w.heap.size + 1 < wr.heap.size := (Array.getElem?_eq_some_iff.1 HQ1.out).1
    by_cases hlt : j < p.length
    · obtain ⟨b, off, rfl, hb, hc⟩ := HP.out.at j (by simpa using hlt)
      have hcj : wr.cell? ⟨b, off + j, none⟩ = some (.int .i64 p[j]) := by
        refine (HB.out.cell (p := ⟨b, off + j, none⟩) hb).trans ?_
        rw [hc]
        simp [intV]
      have hdr : p.drop j = p[j] :: p.drop (j + 1) := List.drop_eq_getElem_cons hlt
      obtain ⟨m, hm⟩ : ∃ m, m = decide (j = 0) := ⟨_, rfl⟩
      have bj : ((j : Int) == 0) = m := by
        rw [hm]
        by_cases h0 : j = 0
        · subst h0; rfl
        · rw [beq_no (by omega), decide_eq_false h0]
      have HE1 : Hid (o = downT m q (p[j] :: p.drop (j + 1))) := by rw [hm, ← hdr]; exact HE.out
      obtain ⟨x, hx⟩ : ∃ x, x = p[j] := ⟨_, rfl⟩
      rw [← hx] at hcj HE1
      have HC := Lib.hid (HPa.out m q (.slice a n c) (.slice a2 n2 c2) wr HB.out HTq.out)
      obtain ⟨ts, hts⟩ : ∃ ts, ts = partsB m q := ⟨_, rfl⟩
      have HTs := Lib.hid hts
      rw [← hts] at HC
      unfold ptV rowPost at HC
      clear hc hdr hm hx hts HE r0 r1 r2 r3 r4 r5 r6 r7 r8 x0 x1 x2 x3 x4 x5 x6 x7 x8 y0 y1 y2 y3 y4 y5 y6 y7 y8
      go_wp2_with fail
      with_reducible refine HC.out.mono ?_
      rintro e w2 ⟨ka2, kc2, rfl, hq2, hb2⟩
      have HQ2 := Lib.hid hq2
      have HB2 := Lib.hid (HB.out.trans (hb2.mono HB.out.size))
      have HN0 := Lib.hid ((hb2.block w.heap.size (by omega)).trans HQ0.out)
      have HN1 := Lib.hid ((hb2.block (w.heap.size + 1) hsz).trans HQ1.out)
      obtain ⟨q0, q1, q2, q3, q4, q5, q6, q7, q8⟩ := part_cells HN0.out
      obtain ⟨y0, y1, y2, y3, y4, y5, y6, y7, y8⟩ := part_frozen HN0.out
      obtain ⟨r0, r1, r2, r3, r4, r5, r6, r7, r8⟩ := part_cells HN1.out
      obtain ⟨x0, x1, x2, x3, x4, x5, x6, x7, x8⟩ := part_frozen HN1.out
      clear hq2 hb2 HC HQ0 HQ1 HB hcj
      by_cases hx1 : x < 1
      · have HON : Hid (o = none) := by rw [HE1.out]; exact down_no (by rw [← HTs.out]; exact nth_low hx1)
        go_wp2_with fail
        show bodyPost _ _ _ Exit.ret _ _
        have h9 := row_set9 (a0 := .int .i64 (q.kind : Int)) (a1 := .int .i64 (q.hd.1 : Int)) (a2 := .int .i64 (q.hd.2 : Int)) (a3 := .int .i64 (q.bd.1 : Int)) (a4 := .int .i64 (q.bd.2 : Int)) (a5 := .slice a n c) (a6 := .slice a2 n2 c2) (a7 := .int .i64 (q.e.1 : Int)) (a8 := .int .i64 (q.e.2 : Int)) HN1.out
        obtain ⟨g0, g1, g2, g3, g4, g5, g6, g7, g8⟩ := part_cells (k := (q.kind : Int)) (a := (q.hd.1 : Int)) (b := (q.hd.2 : Int)) (c := (q.bd.1 : Int)) (d := (q.bd.2 : Int)) (ks := .slice a n c) (cs := .slice a2 n2 c2) (e := (q.e.1 : Int)) (f := (q.e.2 : Int)) h9
        refine bodyPost_ret (v := .tuple #[ptV q (.slice a n c) (.slice a2 n2 c2), .bool false]) (by simp [results, Tryz.results17, go_sem, ptV, g0, g1, g2, g3, g4, g5, g6, g7, g8]) rfl ?_
        unfold downPost
        rw [HON.out]
        exact ⟨q, a, n, c, a2, n2, c2, rfl, below_set9 HB2.out (Nat.le_succ _)⟩
      · by_cases hx2 : (ts.length : Int) < x
        · have HON : Hid (o = none) := by rw [HE1.out]; exact down_no (by rw [← HTs.out]; exact nth_high hx2)
          go_wp2_with fail
          show bodyPost _ _ _ Exit.ret _ _
          have h9 := row_set9 (a0 := .int .i64 (q.kind : Int)) (a1 := .int .i64 (q.hd.1 : Int)) (a2 := .int .i64 (q.hd.2 : Int)) (a3 := .int .i64 (q.bd.1 : Int)) (a4 := .int .i64 (q.bd.2 : Int)) (a5 := .slice a n c) (a6 := .slice a2 n2 c2) (a7 := .int .i64 (q.e.1 : Int)) (a8 := .int .i64 (q.e.2 : Int)) HN1.out
          obtain ⟨g0, g1, g2, g3, g4, g5, g6, g7, g8⟩ := part_cells (k := (q.kind : Int)) (a := (q.hd.1 : Int)) (b := (q.hd.2 : Int)) (c := (q.bd.1 : Int)) (d := (q.bd.2 : Int)) (ks := .slice a n c) (cs := .slice a2 n2 c2) (e := (q.e.1 : Int)) (f := (q.e.2 : Int)) h9
          refine bodyPost_ret (v := .tuple #[ptV q (.slice a n c) (.slice a2 n2 c2), .bool false]) (by simp [results, Tryz.results17, go_sem, ptV, g0, g1, g2, g3, g4, g5, g6, g7, g8]) rfl ?_
          unfold downPost
          rw [HON.out]
          exact ⟨q, a, n, c, a2, n2, c2, rfl, below_set9 HB2.out (Nat.le_succ _)⟩
        · obtain ⟨i, rfl⟩ : ∃ i : Nat, x = (i : Int) + 1 := ⟨(x - 1).toNat, by omega⟩
          have hi : i < ts.length := by omega
          have HEn : Hid (o = downT false ts[i] (p.drop (j + 1))) := by rw [HE1.out]; exact down_yes (by rw [← HTs.out]; exact nth_at hi)
          obtain ⟨hkc, hkm, hat⟩ := HQ2.out
          obtain ⟨g, ga, gn, gc, ga2, gn2, gc2, hka, hg, h9, htk⟩ := hat i hi
          subst hka
          obtain ⟨m0, m1, m2, m3, m4, m5, m6, m7, m8⟩ := h9
          have HTk := Lib.hid htk
          unfold maxLen at hkm
          have hib : (i : Int) ≤ 9223372036854775807 := by omega
          have hil : (i : Int) < (ts.length : Int) := by omega
          obtain ⟨y, hy⟩ : ∃ y, y = ts[i] := ⟨_, rfl⟩
          rw [← hy] at m0 m1 m2 m3 m4 m7 m8 HTk HEn
          clear hy htk hat
          go_wp2_with fail
          go_roundg (p.length - (j + 1))
          case measure => omega
          case rel =>
            have HW0 := Lib.hid (row_set9 (a0 := .int .i64 (y.kind : Int)) (a1 := .int .i64 (y.hd.1 : Int)) (a2 := .int .i64 (y.hd.2 : Int)) (a3 := .int .i64 (y.bd.1 : Int)) (a4 := .int .i64 (y.bd.2 : Int)) (a5 := .slice ga gn gc) (a6 := .slice ga2 gn2 gc2) (a7 := .int .i64 (y.e.1 : Int)) (a8 := .int .i64 (y.e.2 : Int)) HN0.out)
            have HW1 := Lib.hid ((heap_set9 (W := w2) (g := w.heap.size) (q := w.heap.size + 1) (a0 := .int .i64 (y.kind : Int)) (a1 := .int .i64 (y.hd.1 : Int)) (a2 := .int .i64 (y.hd.2 : Int)) (a3 := .int .i64 (y.bd.1 : Int)) (a4 := .int .i64 (y.bd.2 : Int)) (a5 := .slice ga gn gc) (a6 := .slice ga2 gn2 gc2) (a7 := .int .i64 (y.e.1 : Int)) (a8 := .int .i64 (y.e.2 : Int)) (by omega)).trans HN1.out)
            exact ⟨j + 1, y, true, ga, ga2, gn, gc, gn2, gc2, by omega, rfl, rfl, by go_num, fun _ => rfl, HTk.out, HW0.out, HW1.out, HEn.out, below_set9 HB2.out (Nat.le_refl _)⟩
    · obtain rfl : j = p.length := by omega
      obtain rfl := hz hpos
      have HOS : Hid (o = some q) := by
        unfold Hid
        rw [HE.out, List.drop_length]
        rfl
      clear HE
      go_wp2_with fail
      show bodyPost _ _ _ Exit.ret _ _
      have h9 := row_set9 (a0 := .int .i64 (q.kind : Int)) (a1 := .int .i64 (q.hd.1 : Int)) (a2 := .int .i64 (q.hd.2 : Int)) (a3 := .int .i64 (q.bd.1 : Int)) (a4 := .int .i64 (q.bd.2 : Int)) (a5 := .slice a n c) (a6 := .slice a2 n2 c2) (a7 := .int .i64 (q.e.1 : Int)) (a8 := .int .i64 (q.e.2 : Int)) HQ1.out
      obtain ⟨g0, g1, g2, g3, g4, g5, g6, g7, g8⟩ := part_cells (k := (q.kind : Int)) (a := (q.hd.1 : Int)) (b := (q.hd.2 : Int)) (c := (q.bd.1 : Int)) (d := (q.bd.2 : Int)) (ks := .slice a n c) (cs := .slice a2 n2 c2) (e := (q.e.1 : Int)) (f := (q.e.2 : Int)) h9
      refine bodyPost_ret (v := .tuple #[ptV q (.slice a n c) (.slice a2 n2 c2), .bool true]) (by simp [results, Tryz.results17, go_sem, ptV, g0, g1, g2, g3, g4, g5, g6, g7, g8]) rfl ?_
      unfold downPost
      rw [HOS.out]
      exact ⟨a, n, c, a2, n2, c2, rfl, HTq.out, below_set9 HB.out (Nat.le_succ _)⟩
end Go.Proofs.YtahmhakdpmcdoaaGreatDoor
