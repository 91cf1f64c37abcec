/- Contracts of package fetch: down. -/
import Derived.Test.YteallnjbpikhhaaGreatDoorGbFeE
namespace Go.Proofs.YteallnjbpikhhaaGreatDoor
open Go Go.RowKit

theorem partsOf_any (m : Bool) (t : Tr) (ks cs : Value) (w0 w : World) (hb0 : Below w0.heap.size w0 w) (hta : tAt w0 t (ptV t ks cs)) :
    Calls Tryz.prog 47 #[ptV t ks cs, .bool m] w (rowPost w0 (partsB m t) w) := by
  cases m with
  | true => exact partsOf_true t ks cs w0 w hb0 hta
  | false => exact partsOf_false t ks cs w0 w hb0 hta
def downPost (o : Option Tr) (w : World) (e : Ending) (w' : World) : Prop :=
  match o with
  | some q => ∃ a n c a2 n2 c2, e = .returned (.tuple #[ptV q (.slice a n c) (.slice a2 n2 c2), .bool true]) ∧ tAt w q (ptV q (.slice a n c) (.slice a2 n2 c2)) ∧ Below w.heap.size w w'
  | none => ∃ q a n c a2 n2 c2, e = .returned (.tuple #[ptV q (.slice a n c) (.slice a2 n2 c2), .bool false]) ∧ Below w.heap.size w w'
theorem down_no {m : Bool} {t : Tr} {n : Int} {r : List Int} (h : nthT (partsB m t) n = none) : downT m t (n :: r) = none := by
  unfold downT
  rw [h]
theorem down_yes {m : Bool} {t q : Tr} {n : Int} {r : List Int} (h : nthT (partsB m t) n = some q) : downT m t (n :: r) = downT false q r := by
  conv => lhs; unfold downT
  rw [h]
theorem nth_low {ts : List Tr} {n : Int} (h : n < 1) : nthT ts n = none := by unfold nthT; rw [if_pos h]
theorem nth_high {ts : List Tr} {n : Int} (h : (ts.length : Int) < n) : nthT ts n = none := by
  unfold nthT
  rw [if_neg (by omega), List.getElem?_eq_none (by omega)]
set_option maxRecDepth 100000 in
set_option maxHeartbeats 2000000 in
theorem down_any (t : Tr) (ks cs : Value) (p : List Int) (a1 : Option Addr) (c1 : Nat) (w : World) (hta : tAt w t (ptV t ks cs)) (hp : rowOf w (.slice a1 p.length c1) (p.map intV)) (hne : p ≠ []) (hpl : p.length ≤ 9223372036854775807) :
    Calls Tryz.prog 31 #[ptV t ks cs, .slice a1 p.length c1] w (downPost (downT true t p) w) := by
  obtain ⟨ka, kc, ca, cn, cc, rfl, rfl, _⟩ := hta.kids
  have HTa := Lib.hid hta
  have HP := Lib.hid hp
  have HPa := Lib.hid (fun (m : Bool) q ks' cs' W h1 h2 => partsOf_any m q ks' cs' w W h1 h2)
  obtain ⟨o, ho⟩ : ∃ o, o = downT true t p := ⟨_, rfl⟩
  rw [← ho]
  have HO := Lib.hid ho
  obtain ⟨X, hX⟩ : ∃ X, X = (w.alloc (ptO t (.slice ka t.kids.length kc) (.slice ca cn cc))).alloc (partO 0 0 0 0 0 (.slice none 0 0) (.slice none 0 0) 0 0) := ⟨_, rfl⟩
  obtain ⟨hz, hbX, p0, p1⟩ := alloc2 hX
  have HBX := Lib.hid hbX
  have HP0 := Lib.hid p0
  have HP1 := Lib.hid p1
  have hpos : 0 < p.length := List.length_pos_iff.2 hne
  unfold ptO partO at hX
  unfold ptV
  have HXe := Lib.hid hX.symm
  have HZ := Lib.hid hz
  clear hta hp ho hX hbX p0 p1 hz hne
  go_enter Tryz.func31, Tryz.ntmps31
  go_upto_region 1 with fail
  rw [HXe.out]
  go_wp2_with fail
  go_step3
  go_wp2_with fail
  go_step3
  go_wp2_with fail
  go_loopg [6, 12] p.length (fun g zv jv wr => ∃ (j : Nat) (q : Tr) (z : Bool) (a a2 : Option Addr) (n c n2 c2 : Nat), j ≤ p.length ∧ g = p.length - j ∧ zv = .bool z ∧ jv = .int .i64 (j : Int) ∧ (0 < j → z = true) ∧
    Hid (tAt w q (ptV q (.slice a n c) (.slice a2 n2 c2))) ∧ Hid (wr.heap[w.heap.size]? = some (ptO q (.slice a n c) (.slice a2 n2 c2))) ∧ Hid (wr.heap[w.heap.size + 1]? = some (partO 0 0 0 0 0 (.slice none 0 0) (.slice none 0 0) 0 0)) ∧
    Hid (o = downT (decide (j = 0)) q (p.drop j)) ∧ Hid (Below w.heap.size w wr))
  case atStart => exact ⟨0, t, false, ka, ca, t.kids.length, kc, cn, cc, Nat.zero_le _, rfl, rfl, rfl, fun h => absurd h (Nat.lt_irrefl _), HTa.out, HP0.out, HP1.out, HO.out, HBX.out⟩
  case round =>
    clear HTa HP0 HP1 HO HXe
    obtain ⟨j, q, z, a, a2, n, c, n2, c2, hj, rfl, rfl, rfl, hz, HTq, HQ0, HQ1, HE, HB⟩ := hrel
    obtain ⟨q0, q1, q2, q3, q4, q5, q6, q7, q8⟩ := part_cells HQ0.out
    obtain ⟨y0, y1, y2, y3, y4, y5, y6, y7, y8⟩ := part_frozen HQ0.out
    obtain ⟨r0, r1, r2, r3, r4, r5, r6, r7, r8⟩ := part_cells HQ1.out
    obtain ⟨x0, x1, x2, x3, x4, x5, x6, x7, x8⟩ := part_frozen HQ1.out
    have hsz : w.heap.size + 1 < wr.heap.size := (Array.getElem?_eq_some_iff.1 HQ1.out).1
    by_cases hlt : j < p.length
    · obtain ⟨b, off, rfl, hb, hc⟩ := HP.out.at j (by simpa using hlt)
      have hcj : wr.cell? ⟨b, off + j, none⟩ = some (.int .i64 p[j]) := by
        refine (HB.out.cell (p := ⟨b, off + j, none⟩) hb).trans ?_
        rw [hc]
        simp [intV]
      have hdr : p.drop j = p[j] :: p.drop (j + 1) := List.drop_eq_getElem_cons hlt
      obtain ⟨m, hm⟩ : ∃ m, m = decide (j = 0) := ⟨_, rfl⟩
      have bj : ((j : Int) == 0) = m := by
        rw [hm]
        by_cases h0 : j = 0
        · subst h0; rfl
        · rw [beq_no (by omega), decide_eq_false h0]
      have HE1 : Hid (o = downT m q (p[j] :: p.drop (j + 1))) := by rw [hm, ← hdr]; exact HE.out
      obtain ⟨x, hx⟩ : ∃ x, x = p[j] := ⟨_, rfl⟩
      rw [← hx] at hcj HE1
      have HC := Lib.hid (HPa.out m q (.slice a n c) (.slice a2 n2 c2) wr HB.out HTq.out)
      obtain ⟨ts, hts⟩ : ∃ ts, ts = partsB m q := ⟨_, rfl⟩
      have HTs := Lib.hid hts
      rw [← hts] at HC
      unfold ptV rowPost at HC
      clear hc hdr hm hx hts HE r0 r1 r2 r3 r4 r5 r6 r7 r8 x0 x1 x2 x3 x4 x5 x6 x7 x8 y0 y1 y2 y3 y4 y5 y6 y7 y8
      go_wp2_with fail
      with_reducible refine HC.out.mono ?_
      rintro e w2 ⟨ka2, kc2, rfl, hq2, hb2⟩
      have HQ2 := Lib.hid hq2
      have HB2 := Lib.hid (HB.out.trans (hb2.mono HB.out.size))
      have HN0 := Lib.hid ((hb2.block w.heap.size (by omega)).trans HQ0.out)
      have HN1 := Lib.hid ((hb2.block (w.heap.size + 1) hsz).trans HQ1.out)
      obtain ⟨q0, q1, q2, q3, q4, q5, q6, q7, q8⟩ := part_cells HN0.out
      obtain ⟨y0, y1, y2, y3, y4, y5, y6, y7, y8⟩ := part_frozen HN0.out
      obtain ⟨r0, r1, r2, r3, r4, r5, r6, r7, r8⟩ := part_cells HN1.out
      obtain ⟨x0, x1, x2, x3, x4, x5, x6, x7, x8⟩ := part_frozen HN1.out
      clear hq2 hb2 HC HQ0 HQ1 HB hcj
      by_cases hx1 : x < 1
      · have HON : Hid (o = none) := by rw [HE1.out]; exact down_no (by rw [← HTs.out]; exact nth_low hx1)
        go_wp2_with fail
        show bodyPost _ _ _ Exit.ret _ _
        have h9 := row_set9 (a0 := .int .i64 (q.kind : Int)) (a1 := .int .i64 (q.hd.1 : Int)) (a2 := .int .i64 (q.hd.2 : Int)) (a3 := .int .i64 (q.bd.1 : Int)) (a4 := .int .i64 (q.bd.2 : Int)) (a5 := .slice a n c) (a6 := .slice a2 n2 c2) (a7 := .int .i64 (q.e.1 : Int)) (a8 := .int .i64 (q.e.2 : Int)) HN1.out
        obtain ⟨g0, g1, g2, g3, g4, g5, g6, g7, g8⟩ := part_cells (k := (q.kind : Int)) (a := (q.hd.1 : Int)) (b := (q.hd.2 : Int)) (c := (q.bd.1 : Int)) (d := (q.bd.2 : Int)) (ks := .slice a n c) (cs := .slice a2 n2 c2) (e := (q.e.1 : Int)) (f := (q.e.2 : Int)) h9
        refine bodyPost_ret (v := .tuple #[ptV q (.slice a n c) (.slice a2 n2 c2), .bool false]) (by simp [results, Tryz.results31, go_sem, ptV, g0, g1, g2, g3, g4, g5, g6, g7, g8]) rfl ?_
        unfold downPost
        rw [HON.out]
        exact ⟨q, a, n, c, a2, n2, c2, rfl, below_set9 HB2.out (Nat.le_succ _)⟩
      · by_cases hx2 : (ts.length : Int) < x
        · have HON : Hid (o = none) := by rw [HE1.out]; exact down_no (by rw [← HTs.out]; exact nth_high hx2)
          go_wp2_with fail
          show bodyPost _ _ _ Exit.ret _ _
          have h9 := row_set9 (a0 := .int .i64 (q.kind : Int)) (a1 := .int .i64 (q.hd.1 : Int)) (a2 := .int .i64 (q.hd.2 : Int)) (a3 := .int .i64 (q.bd.1 : Int)) (a4 := .int .i64 (q.bd.2 : Int)) (a5 := .slice a n c) (a6 := .slice a2 n2 c2) (a7 := .int .i64 (q.e.1 : Int)) (a8 := .int .i64 (q.e.2 : Int)) HN1.out
          obtain ⟨g0, g1, g2, g3, g4, g5, g6, g7, g8⟩ := part_cells (k := (q.kind : Int)) (a := (q.hd.1 : Int)) (b := (q.hd.2 : Int)) (c := (q.bd.1 : Int)) (d := (q.bd.2 : Int)) (ks := .slice a n c) (cs := .slice a2 n2 c2) (e := (q.e.1 : Int)) (f := (q.e.2 : Int)) h9
          refine bodyPost_ret (v := .tuple #[ptV q (.slice a n c) (.slice a2 n2 c2), .bool false]) (by simp [results, Tryz.results31, go_sem, ptV, g0, g1, g2, g3, g4, g5, g6, g7, g8]) rfl ?_
          unfold downPost
          rw [HON.out]
          exact ⟨q, a, n, c, a2, n2, c2, rfl, below_set9 HB2.out (Nat.le_succ _)⟩
        · obtain ⟨i, rfl⟩ : ∃ i : Nat, x = (i : Int) + 1 := ⟨(x - 1).toNat, by omega⟩
          have hi : i < ts.length := by omega
          have HEn : Hid (o = downT false ts[i] (p.drop (j + 1))) := by rw [HE1.out]; exact down_yes (by rw [← HTs.out]; exact nth_at hi)
          obtain ⟨hkc, hkm, hat⟩ := HQ2.out
          obtain ⟨g, ga, gn, gc, ga2, gn2, gc2, hka, hg, h9, htk⟩ := hat i hi
          subst hka
          obtain ⟨m0, m1, m2, m3, m4, m5, m6, m7, m8⟩ := h9
          have HTk := Lib.hid htk
          unfold maxLen at hkm
          have hib : (i : Int) ≤ 9223372036854775807 := by omega
          have hil : (i : Int) < (ts.length : Int) := by omega
          obtain ⟨y, hy⟩ : ∃ y, y = ts[i] := ⟨_, rfl⟩
          rw [← hy] at m0 m1 m2 m3 m4 m7 m8 HTk HEn
          clear hy htk hat
          go_wp2_with fail
          go_roundg (p.length - (j + 1))
          case measure => omega
          case rel =>
            have HW0 := Lib.hid (row_set9 (a0 := .int .i64 (y.kind : Int)) (a1 := .int .i64 (y.hd.1 : Int)) (a2 := .int .i64 (y.hd.2 : Int)) (a3 := .int .i64 (y.bd.1 : Int)) (a4 := .int .i64 (y.bd.2 : Int)) (a5 := .slice ga gn gc) (a6 := .slice ga2 gn2 gc2) (a7 := .int .i64 (y.e.1 : Int)) (a8 := .int .i64 (y.e.2 : Int)) HN0.out)
            have HW1 := Lib.hid ((heap_set9 (W := w2) (g := w.heap.size) (q := w.heap.size + 1) (a0 := .int .i64 (y.kind : Int)) (a1 := .int .i64 (y.hd.1 : Int)) (a2 := .int .i64 (y.hd.2 : Int)) (a3 := .int .i64 (y.bd.1 : Int)) (a4 := .int .i64 (y.bd.2 : Int)) (a5 := .slice ga gn gc) (a6 := .slice ga2 gn2 gc2) (a7 := .int .i64 (y.e.1 : Int)) (a8 := .int .i64 (y.e.2 : Int)) (by omega)).trans HN1.out)
            exact ⟨j + 1, y, true, ga, ga2, gn, gc, gn2, gc2, by omega, rfl, rfl, by go_num, fun _ => rfl, HTk.out, HW0.out, HW1.out, HEn.out, below_set9 HB2.out (Nat.le_refl _)⟩
    · obtain rfl : j = p.length := by omega
      obtain rfl := hz hpos
      have HOS : Hid (o = some q) := by
        unfold Hid
        rw [HE.out, List.drop_length]
        rfl
      clear HE
      go_wp2_with fail
      show bodyPost _ _ _ Exit.ret _ _
      have h9 := row_set9 (a0 := .int .i64 (q.kind : Int)) (a1 := .int .i64 (q.hd.1 : Int)) (a2 := .int .i64 (q.hd.2 : Int)) (a3 := .int .i64 (q.bd.1 : Int)) (a4 := .int .i64 (q.bd.2 : Int)) (a5 := .slice a n c) (a6 := .slice a2 n2 c2) (a7 := .int .i64 (q.e.1 : Int)) (a8 := .int .i64 (q.e.2 : Int)) HQ1.out
      obtain ⟨g0, g1, g2, g3, g4, g5, g6, g7, g8⟩ := part_cells (k := (q.kind : Int)) (a := (q.hd.1 : Int)) (b := (q.hd.2 : Int)) (c := (q.bd.1 : Int)) (d := (q.bd.2 : Int)) (ks := .slice a n c) (cs := .slice a2 n2 c2) (e := (q.e.1 : Int)) (f := (q.e.2 : Int)) h9
      refine bodyPost_ret (v := .tuple #[ptV q (.slice a n c) (.slice a2 n2 c2), .bool true]) (by simp [results, Tryz.results31, go_sem, ptV, g0, g1, g2, g3, g4, g5, g6, g7, g8]) rfl ?_
      unfold downPost
      rw [HOS.out]
      exact ⟨a, n, c, a2, n2, c2, rfl, HTq.out, below_set9 HB.out (Nat.le_succ _)⟩
end Go.Proofs.YteallnjbpikhhaaGreatDoor

/- Contracts of package fetch: whole. -/
namespace Go.Proofs.YteallnjbpikhhaaGreatDoor
open Go Go.RowKit

theorem chk_path {s : Spc} (h : checkS s = true) : s.path.length ≤ 64 := by
  unfold checkS pathOk at h
  simp only [Bool.and_eq_true, decide_eq_true_eq] at h
  exact h.1.1
theorem part_cells' {W W' : World} {B : Nat} {o : Obj} (hb : W'.heap[B]? = W.heap[B]?) (h : W.heap[B]? = some o) : W'.heap[B]? = some o := hb.trans h
set_option maxRecDepth 100000 in
set_option maxHeartbeats 2000000 in
theorem whole_any (v : Value) (l : List UInt8) (t : Tr) (ks cs : Value) (s : Spc) (a1 a2 : Option Addr) (c1 c2 : Nat) (w : World) (hv : bytesArg w v l) (hl : l.length ≤ 100000) (ht : okT l.length t) (hta : tAt w t (ptV t ks cs)) (hs : SpF w s a1 a2 c1 c2) :
    Calls Tryz.prog 21 #[v, ptV t ks cs, spV s a1 a2 c1 c2] w (bytesPost (allL l t s) w) := by
  obtain ⟨ka, kc, ca, cn, cc, rfl, rfl, _⟩ := hta.kids
  have HV := Lib.hid hv
  obtain ⟨ao, cap, rfl, hc, hm, _⟩ := hv
  have HTa := Lib.hid hta
  have HSp := Lib.hid hs
  have HCk := Lib.hid (fun W h => check_any s a1 a2 c1 c2 W h)
  have HOm := Lib.hid (fun W h1 h2 => ofMessage_any (.slice ao l.length cap) l t (.slice ka t.kids.length kc) (.slice ca cn cc) s a1 a2 c1 c2 W h1 hl ht h2)
  have HOp := Lib.hid (fun q ks' cs' W h1 h2 h3 h4 => ofPart_any (.slice ao l.length cap) l q ks' cs' s a1 a2 c1 c2 W h1 hl h2 h3 h4)
  have HDn := Lib.hid (fun W h1 h2 h3 h4 => down_any t (.slice ka t.kids.length kc) (.slice ca cn cc) s.path a1 c1 W h1 h2 h3 h4)
  have HOk := Lib.hid ht
  have HA0 : Hid (checkS s = false → allL l t s = []) := fun h => by unfold allL; rw [if_neg (by rw [h]; decide)]
  have HA1 : Hid (checkS s = true → s.path = [] → allL l t s = msgL l t s) := fun h h2 => by unfold allL; rw [if_pos h, if_pos h2]
  have HA2 : Hid (checkS s = true → ¬ s.path = [] → downT true t s.path = none → allL l t s = []) := fun h h2 h3 => by unfold allL pathL; rw [if_pos h, if_neg h2, h3]
  have HA3 : Hid (checkS s = true → ¬ s.path = [] → ∀ q, downT true t s.path = some q → allL l t s = prtL l q s) := fun h h2 q h3 => by unfold allL pathL; rw [if_pos h, if_neg h2, h3]
  have HPl : Hid (checkS s = true → s.path.length ≤ 64) := fun h => chk_path h
  have HDo : Hid (∀ q, downT true t s.path = some q → okT l.length q) := fun q h => downT_ok _ _ _ _ ht h
  obtain ⟨r, hr⟩ : ∃ r, r = allL l t s := ⟨_, rfl⟩
  rw [← hr] at HA0 HA1 HA2 HA3 ⊢
  obtain ⟨ck, hck⟩ : ∃ ck, ck = checkS s := ⟨_, rfl⟩
  rw [← hck] at HCk HA0 HA1 HA2 HA3 HPl
  obtain ⟨o, ho⟩ : ∃ o, o = downT true t s.path := ⟨_, rfl⟩
  rw [← ho] at HDn HA2 HA3 HDo
  clear hr hck ho ht hta hs hc hm
  obtain ⟨p, q, ns, ct, x, y⟩ := s
  simp only at HDn HA1 HA2 HA3 HPl
  unfold bytesPost
  unfold bytesPost at HOm HOp
  unfold ptV at HOm HOp HDn ⊢
  unfold spV at HCk HOm HOp ⊢
  simp only at HCk HOm HOp ⊢
  obtain ⟨X, hX⟩ : ∃ X, X = (w.alloc (.cells #[.int .i64 (t.kind : Int), .int .i64 (t.hd.1 : Int), .int .i64 (t.hd.2 : Int), .int .i64 (t.bd.1 : Int), .int .i64 (t.bd.2 : Int), .slice ka t.kids.length kc, .slice ca cn cc, .int .i64 (t.e.1 : Int), .int .i64 (t.e.2 : Int)] 32)).alloc (.cells #[.slice a1 p.length c1, .int .i64 q, .slice a2 ns.length c2, .bool ct, .int .i64 x, .int .i64 y] 41) := ⟨_, rfl⟩
  obtain ⟨hz, hbX, p0, p1⟩ := alloc2 hX
  obtain ⟨s0, s1, s2, s3, s4, s5⟩ := sp_cells p1
  have HP0 := Lib.hid p0
  have HP1 := Lib.hid p1
  have HZ := Lib.hid hz
  have HBX := Lib.hid hbX
  have HXe := Lib.hid hX.symm
  have HSX := Lib.hid (HSp.out.below hbX)
  clear hX hz hbX p0 p1
  cases ck with
  | false =>
    have HR : Hid (r = []) := HA0.out rfl
    unfold errC at HCk
    simp only [Bool.false_eq_true, if_false] at HCk
    go_enter Tryz.func21, Tryz.ntmps21
    go_upto_region 1 with fail
    rw [HXe.out]
    go_wp2_with fail
    with_reducible refine (HCk.out X HSX.out.sp).mono ?_
    rintro e w2 ⟨rfl, hb⟩
    have HB2 : Hid (Below w.heap.size w w2) := HBX.out.trans (hb.mono HBX.out.size)
    clear hb
    go_wp2_with fail
    go_ret
    rw [HR.out]
    exact ⟨_, rfl, bytesArg_nil _, HB2.out⟩
  | true =>
    unfold errC at HCk
    simp only [if_true] at HCk
    have hpl := HPl.out rfl
    cases p with
    | nil =>
      have HR := Lib.hid (HA1.out rfl rfl)
      simp only [List.length_nil] at s0 HXe HCk HOm ⊢
      clear HA0 HA1 HA2 HA3 HDn HOp HDo
      go_enter Tryz.func21, Tryz.ntmps21
      go_upto_region 1 with fail
      rw [HXe.out]
      go_wp2_with fail
      with_reducible refine (HCk.out X HSX.out.sp).mono ?_
      rintro e w2 ⟨rfl, hb⟩
      have HB2 : Hid (Below w.heap.size w w2) := HBX.out.trans (hb.mono HBX.out.size)
      have q0 := (hb.block w.heap.size (by have := HZ.out; omega)).trans HP0.out
      have q1 := (hb.block (w.heap.size + 1) (by have := HZ.out; omega)).trans HP1.out
      obtain ⟨t0, t1, t2, t3, t4, t5, t6, t7, t8⟩ := part_cells q0
      obtain ⟨s0, s1, s2, s3, s4, s5⟩ := sp_cells q1
      clear hb q0 q1
      go_wp2_with fail
      with_reducible refine (HOm.out w2 ?k1 ?k2).mono ?_
      case k1 => exact bytesArg.below HV.out HB2.out
      case k2 => exact HSp.out.below HB2.out
      rintro e w3 ⟨u, rfl, hu, hb⟩
      have HU := Lib.hid hu
      have HB3 : Hid (Below w.heap.size w w3) := HB2.out.trans (hb.mono HB2.out.size)
      clear hu hb
      go_wp2_with fail
      go_ret
      rw [HR.out]
      exact ⟨u, rfl, HU.out, HB3.out⟩
    | cons n0 p =>
      have hlz : (((n0 :: p).length : Int) == 0) = false := beq_no (by simp; omega)
      obtain ⟨pp, hpp⟩ : ∃ pp, pp = n0 :: p := ⟨_, rfl⟩
      have HNe : Hid (¬ pp = []) := by rw [hpp]; exact List.cons_ne_nil _ _
      rw [← hpp] at hlz HSX HSp s0 HXe HCk HOm HOp HDn HA2 HA3 hpl HP1 ⊢
      clear hpp HA0 HA1 HOm
      go_enter Tryz.func21, Tryz.ntmps21
      go_upto_region 1 with fail
      rw [HXe.out]
      go_wp2_with fail
      with_reducible refine (HCk.out X HSX.out.sp).mono ?_
      rintro e w2 ⟨rfl, hb⟩
      have HB2 : Hid (Below w.heap.size w w2) := HBX.out.trans (hb.mono HBX.out.size)
      have q0 := (hb.block w.heap.size (by have := HZ.out; omega)).trans HP0.out
      have q1 := (hb.block (w.heap.size + 1) (by have := HZ.out; omega)).trans HP1.out
      obtain ⟨t0, t1, t2, t3, t4, t5, t6, t7, t8⟩ := part_cells q0
      obtain ⟨s0, s1, s2, s3, s4, s5⟩ := sp_cells q1
      have HQ1 := Lib.hid q1
      have hz2 : w.heap.size + 1 < w2.heap.size := (Array.getElem?_eq_some_iff.1 q1).1
      clear hb q0 q1
      go_wp2_with fail
      with_reducible refine (HDn.out w2 ?k1 ?k2 ?k3 ?k4).mono ?_
      case k1 => exact HTa.out.below HB2.out
      case k2 => exact (HSp.out.below HB2.out).sp.rp
      case k3 => exact HNe.out
      case k4 => omega
      cases o with
      | none =>
        have HR := Lib.hid (HA2.out (by trivial) HNe.out (by trivial))
        rintro e w3 ⟨qq, b1, b2, b3, b4, b5, b6, rfl, hb⟩
        have HB3 : Hid (Below w.heap.size w w3) := HB2.out.trans (hb.mono HB2.out.size)
        clear hb
        unfold ptV
        go_wp2_with fail
        go_ret
        rw [HR.out]
        exact ⟨_, rfl, bytesArg_nil _, HB3.out.alloc HB3.out.size _⟩
      | some qq =>
        have HR := Lib.hid (HA3.out (by trivial) HNe.out qq rfl)
        have HOq := Lib.hid (HDo.out qq rfl)
        rintro e w3 ⟨b1, b2, b3, b4, b5, b6, rfl, hta, hb⟩
        have HB3 : Hid (Below w.heap.size w w3) := HB2.out.trans (hb.mono HB2.out.size)
        have HT3 : Hid (tAt w3 qq (ptV qq (.slice b1 b2 b3) (.slice b4 b5 b6))) := hta.below hb
        replace s0 := (hb.cell (p := ⟨w.heap.size + 1, 0, none⟩) hz2).trans s0
        replace s1 := (hb.cell (p := ⟨w.heap.size + 1, 1, none⟩) hz2).trans s1
        replace s2 := (hb.cell (p := ⟨w.heap.size + 1, 2, none⟩) hz2).trans s2
        replace s3 := (hb.cell (p := ⟨w.heap.size + 1, 3, none⟩) hz2).trans s3
        replace s4 := (hb.cell (p := ⟨w.heap.size + 1, 4, none⟩) hz2).trans s4
        replace s5 := (hb.cell (p := ⟨w.heap.size + 1, 5, none⟩) hz2).trans s5
        have hz3 : w.heap.size + 1 < w3.heap.size := Nat.lt_of_lt_of_le hz2 hb.size
        clear hb hta t0 t1 t2 t3 t4 t5 t6 t7 t8
        unfold ptV
        go_wp2_with fail
        have HB4 := Lib.hid (HB3.out.alloc HB3.out.size (.cells #[.int .i64 (qq.kind : Int), .int .i64 (qq.hd.1 : Int), .int .i64 (qq.hd.2 : Int), .int .i64 (qq.bd.1 : Int), .int .i64 (qq.bd.2 : Int), .slice b1 b2 b3, .slice b4 b5 b6, .int .i64 (qq.e.1 : Int), .int .i64 (qq.e.2 : Int)] 32))
        have HT4 : Hid (tAt (w3.alloc (.cells #[.int .i64 (qq.kind : Int), .int .i64 (qq.hd.1 : Int), .int .i64 (qq.hd.2 : Int), .int .i64 (qq.bd.1 : Int), .int .i64 (qq.bd.2 : Int), .slice b1 b2 b3, .slice b4 b5 b6, .int .i64 (qq.e.1 : Int), .int .i64 (qq.e.2 : Int)] 32)) qq (ptV qq (.slice b1 b2 b3) (.slice b4 b5 b6))) := HT3.out.below ((Below.refl _ _).alloc (Nat.le_refl _) _)
        with_reducible refine (HOp.out qq (.slice b1 b2 b3) (.slice b4 b5 b6) _ ?k5 ?k6 ?k7 ?k8).mono ?_
        case k5 => exact bytesArg.below HV.out HB4.out
        case k6 => exact HOq.out
        case k7 => exact HT4.out
        case k8 => exact HSp.out.below HB4.out
        rintro e w5 ⟨u, rfl, hu, hb⟩
        have HU := Lib.hid hu
        have HB5 : Hid (Below w.heap.size w w5) := HB4.out.trans (hb.mono HB4.out.size)
        clear hu hb
        go_wp2_with fail
        go_ret
        rw [HR.out]
        exact ⟨u, rfl, HU.out, HB5.out⟩
end Go.Proofs.YteallnjbpikhhaaGreatDoor

/- Contracts of package fetch: Get, Size, Find of no part. -/
namespace Go.Proofs.YteallnjbpikhhaaGreatDoor
open Go Go.RowKit

set_option maxRecDepth 100000 in
set_option maxHeartbeats 2000000 in
theorem fget_any (v : Value) (l : List UInt8) (t : Tr) (ks cs : Value) (s : Spc) (a1 a2 : Option Addr) (c1 c2 : Nat) (w : World) (hv : bytesArg w v l) (hl : l.length ≤ 100000) (ht : okT l.length t) (hta : tAt w t (ptV t ks cs)) (hs : SpF w s a1 a2 c1 c2) :
    Calls Tryz.prog 10 #[v, ptV t ks cs, spV s a1 a2 c1 c2] w (bytesPost (getL l t s) w) := by
  obtain ⟨ka, kc, ca, cn, cc, rfl, rfl, _⟩ := hta.kids
  have HV := Lib.hid hv
  obtain ⟨ao, cap, rfl, hc, hm, _⟩ := hv
  have HTa := Lib.hid hta
  have HSp := Lib.hid hs
  have hal := allL_len s ht
  have HWh := Lib.hid (fun W h1 h2 h3 => whole_any (.slice ao l.length cap) l t (.slice ka t.kids.length kc) (.slice ca cn cc) s a1 a2 c1 c2 W h1 hl ht h2 h3)
  have HG1 : Hid (s.cut = true → getL l t s = cut16 (allL l t s) s.frm s.many) := fun h => by unfold getL; rw [if_pos h]
  have HG0 : Hid (s.cut = false → getL l t s = allL l t s) := fun h => by unfold getL; rw [if_neg (by rw [h]; decide)]
  obtain ⟨r, hr⟩ : ∃ r, r = getL l t s := ⟨_, rfl⟩
  obtain ⟨d, hd⟩ : ∃ d, d = allL l t s := ⟨_, rfl⟩
  rw [← hr, ← hd] at HG1 HG0
  rw [← hr]
  rw [← hd] at HWh hal
  have hdl : d.length ≤ 1000000 := by omega
  clear hr hd ht hta hs hc hm hal
  obtain ⟨p, q, ns, ct, x, y⟩ := s
  simp only at HG1 HG0
  unfold bytesPost
  unfold bytesPost at HWh
  unfold ptV at HWh ⊢
  unfold spV at HWh ⊢
  simp only at HWh ⊢
  have HCu := Lib.hid (fun u W h => cut16_any u d x y W h hdl)
  have HCl := Lib.hid (fun u W h => clone_any u d W h hdl)
  unfold bytesPost at HCu HCl
  obtain ⟨X, hX⟩ : ∃ X, X = (w.alloc (.cells #[.int .i64 (t.kind : Int), .int .i64 (t.hd.1 : Int), .int .i64 (t.hd.2 : Int), .int .i64 (t.bd.1 : Int), .int .i64 (t.bd.2 : Int), .slice ka t.kids.length kc, .slice ca cn cc, .int .i64 (t.e.1 : Int), .int .i64 (t.e.2 : Int)] 32)).alloc (.cells #[.slice a1 p.length c1, .int .i64 q, .slice a2 ns.length c2, .bool ct, .int .i64 x, .int .i64 y] 41) := ⟨_, rfl⟩
  obtain ⟨hz, hbX, p0, p1⟩ := alloc2 hX
  obtain ⟨t0, t1, t2, t3, t4, t5, t6, t7, t8⟩ := part_cells p0
  obtain ⟨s0, s1, s2, s3, s4, s5⟩ := sp_cells p1
  have HP1 := Lib.hid p1
  have HZ := Lib.hid hz
  have HBX := Lib.hid hbX
  have HXe := Lib.hid hX.symm
  clear hX hz hbX p0 p1
  cases ct with
  | true =>
    have HR := Lib.hid (HG1.out rfl)
    clear HG1 HG0 HCl
    go_enter Tryz.func10, Tryz.ntmps10
    go_upto_region 1 with fail
    rw [HXe.out]
    go_wp2_with fail
    with_reducible refine (HWh.out X ?k1 ?k2 ?k3).mono ?_
    case k1 => exact bytesArg.below HV.out HBX.out
    case k2 => exact HTa.out.below HBX.out
    case k3 => exact HSp.out.below HBX.out
    rintro e w2 ⟨u, rfl, hu, hb⟩
    have HU := Lib.hid hu
    have HB2 : Hid (Below w.heap.size w w2) := HBX.out.trans (hb.mono HBX.out.size)
    have q1 := (hb.block (w.heap.size + 1) (by have := HZ.out; omega)).trans HP1.out
    obtain ⟨s0, s1, s2, s3, s4, s5⟩ := sp_cells q1
    clear hu hb q1 t0 t1 t2 t3 t4 t5 t6 t7 t8
    obtain ⟨uo, uc, rfl, _, _, _⟩ := HU.out
    go_wp2_with fail
    with_reducible refine (HCu.out _ _ HU.out).mono ?_
    rintro e w3 ⟨u3, rfl, hu, hb⟩
    have HU3 := Lib.hid hu
    have HB3 : Hid (Below w.heap.size w w3) := HB2.out.trans (hb.mono HB2.out.size)
    clear hu hb
    go_wp2_with fail
    go_ret
    rw [HR.out]
    exact ⟨u3, rfl, HU3.out, HB3.out⟩
  | false =>
    have HR := Lib.hid (HG0.out rfl)
    clear HG1 HG0 HCu
    go_enter Tryz.func10, Tryz.ntmps10
    go_upto_region 1 with fail
    rw [HXe.out]
    go_wp2_with fail
    with_reducible refine (HWh.out X ?k1 ?k2 ?k3).mono ?_
    case k1 => exact bytesArg.below HV.out HBX.out
    case k2 => exact HTa.out.below HBX.out
    case k3 => exact HSp.out.below HBX.out
    rintro e w2 ⟨u, rfl, hu, hb⟩
    have HU := Lib.hid hu
    have HB2 : Hid (Below w.heap.size w w2) := HBX.out.trans (hb.mono HBX.out.size)
    have q1 := (hb.block (w.heap.size + 1) (by have := HZ.out; omega)).trans HP1.out
    obtain ⟨s0, s1, s2, s3, s4, s5⟩ := sp_cells q1
    clear hu hb q1 t0 t1 t2 t3 t4 t5 t6 t7 t8
    obtain ⟨uo, uc, rfl, _, _, _⟩ := HU.out
    go_wp2_with fail
    with_reducible refine (HCl.out _ _ HU.out).mono ?_
    rintro e w3 ⟨u3, rfl, hu, hb⟩
    have HU3 := Lib.hid hu
    have HB3 : Hid (Below w.heap.size w w3) := HB2.out.trans (hb.mono HB2.out.size)
    clear hu hb
    go_wp2_with fail
    go_ret
    rw [HR.out]
    exact ⟨u3, rfl, HU3.out, HB3.out⟩
set_option maxRecDepth 100000 in
set_option maxHeartbeats 2000000 in
theorem ffind_none (t : Tr) (ks cs : Value) (p : List Int) (a1 : Option Addr) (c1 : Nat) (w : World) (hta : tAt w t (ptV t ks cs)) (hp : rowOf w (.slice a1 p.length c1) (p.map intV)) (hne : p ≠ []) (hpl : p.length ≤ 9223372036854775807) (hn : downT true t p = none) :
    Calls Tryz.prog 19 #[ptV t ks cs, .slice a1 p.length c1] w fun e w' => e = .returned (.tuple #[.agg #[.int .i64 0, .int .i64 0, .int .i64 0, .int .i64 0, .int .i64 0, .slice none 0 0, .slice none 0 0, .int .i64 0, .int .i64 0], .bool false]) ∧ Below w.heap.size w w' := by
  obtain ⟨ka, kc, ca, cn, cc, rfl, rfl, _⟩ := hta.kids
  have HTa := Lib.hid hta
  have HP := Lib.hid hp
  have HDn := Lib.hid (fun W h1 h2 => down_any t (.slice ka t.kids.length kc) (.slice ca cn cc) p a1 c1 W h1 h2 hne hpl)
  rw [hn] at HDn
  unfold downPost at HDn
  simp only at HDn
  unfold ptV at HDn ⊢
  obtain ⟨X, hX⟩ : ∃ X, X = (w.alloc (.cells #[.int .i64 (t.kind : Int), .int .i64 (t.hd.1 : Int), .int .i64 (t.hd.2 : Int), .int .i64 (t.bd.1 : Int), .int .i64 (t.bd.2 : Int), .slice ka t.kids.length kc, .slice ca cn cc, .int .i64 (t.e.1 : Int), .int .i64 (t.e.2 : Int)] 32)).alloc (.cells #[.int .i64 0, .int .i64 0, .int .i64 0, .int .i64 0, .int .i64 0, .slice none 0 0, .slice none 0 0, .int .i64 0, .int .i64 0] 32) := ⟨_, rfl⟩
  obtain ⟨hz, hbX, p0, p1⟩ := alloc2 hX
  obtain ⟨t0, t1, t2, t3, t4, t5, t6, t7, t8⟩ := part_cells p0
  have HP1 := Lib.hid p1
  have HBX := Lib.hid hbX
  have HXe := Lib.hid hX.symm
  clear hX hz hbX p0 p1 hta hp hn
  go_enter Tryz.func19, Tryz.ntmps19
  go_upto_region 1 with fail
  rw [HXe.out]
  go_wp2_with fail
  with_reducible refine (HDn.out X ?k1 ?k2).mono ?_
  case k1 => exact HTa.out.below HBX.out
  case k2 => exact HP.out.below HBX.out
  rintro e w2 ⟨qq, b1, b2, b3, b4, b5, b6, rfl, hb⟩
  have HB2 : Hid (Below w.heap.size w w2) := HBX.out.trans (hb.mono HBX.out.size)
  have q1 := (hb.block (w.heap.size + 1) (Array.getElem?_eq_some_iff.1 HP1.out).1).trans HP1.out
  obtain ⟨r0, r1, r2, r3, r4, r5, r6, r7, r8⟩ := part_cells q1
  obtain ⟨x0, x1, x2, x3, x4, x5, x6, x7, x8⟩ := part_frozen q1
  have HQ1 := Lib.hid q1
  have hz1 : w.heap.size + 1 < w2.heap.size := (Array.getElem?_eq_some_iff.1 q1).1
  clear hb q1 t0 t1 t2 t3 t4 t5 t6 t7 t8
  go_wp2_with fail
  have h9 := row_set9 (a0 := .int .i64 0) (a1 := .int .i64 0) (a2 := .int .i64 0) (a3 := .int .i64 0) (a4 := .int .i64 0) (a5 := .slice none 0 0) (a6 := .slice none 0 0) (a7 := .int .i64 0) (a8 := .int .i64 0) HQ1.out
  have h10 := (Below.heap_alloc _ (.cells #[.int .i64 (qq.kind : Int), .int .i64 (qq.hd.1 : Int), .int .i64 (qq.hd.2 : Int), .int .i64 (qq.bd.1 : Int), .int .i64 (qq.bd.2 : Int), .slice b1 b2 b3, .slice b4 b5 b6, .int .i64 (qq.e.1 : Int), .int .i64 (qq.e.2 : Int)] 32) (w.heap.size + 1) (Array.getElem?_eq_some_iff.1 h9).1).trans h9
  obtain ⟨g0, g1, g2, g3, g4, g5, g6, g7, g8⟩ := part_cells (k := 0) (a := 0) (b := 0) (c := 0) (d := 0) (ks := .slice none 0 0) (cs := .slice none 0 0) (e := 0) (f := 0) h10
  refine bodyPost_ret (v := .tuple #[.agg #[.int .i64 0, .int .i64 0, .int .i64 0, .int .i64 0, .int .i64 0, .slice none 0 0, .slice none 0 0, .int .i64 0, .int .i64 0], .bool false]) (by simp [results, Tryz.results19, go_sem, g0, g1, g2, g3, g4, g5, g6, g7, g8]) rfl ?_
  have hb9 := below_set9 (g := w.heap.size + 1) (a0 := .int .i64 0) (a1 := .int .i64 0) (a2 := .int .i64 0) (a3 := .int .i64 0) (a4 := .int .i64 0) (a5 := .slice none 0 0) (a6 := .slice none 0 0) (a7 := .int .i64 0) (a8 := .int .i64 0) HB2.out (Nat.le_succ _)
  exact ⟨rfl, hb9.alloc hb9.size _⟩
end Go.Proofs.YteallnjbpikhhaaGreatDoor
