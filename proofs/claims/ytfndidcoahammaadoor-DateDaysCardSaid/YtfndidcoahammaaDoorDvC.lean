/- DateZones: a moment told in another zone is the same moment; with blanks for strokes a header's form reads it. -/
import Derived.Test.YtfndidcoahammaaDoorDvB
namespace Go.Proofs.YtfndidcoahammaaDoor
open Go Go.RowKit

theorem conv_row {P : Program} (w : World) (src dst e : TypeId) (s : ByteArray) (hsz : s.size ≤ maxLen) (hs : P.underlying src = some .string) (hd : P.underlying dst = some (.slice e)) (he : P.underlying e = some (.int .u8)) :
    ∃ W1 cap, (convert src dst (.string s)).run P w = .ok (.slice (some ⟨w.heap.size, 0, none⟩) s.size cap) W1 ∧ rowAt W1 w.heap.size e (s.data.toList.map byteV) ∧ Below w.heap.size w W1 ∧ s.size ≤ cap ∧ cap ≤ maxLen :=
  ⟨_, _, run_bytes_of_string (P := P) w src dst e s hs hd he, rowAt_bytes w.drew s _ e _, (Below.refl _ _).drew.alloc (Nat.le_refl _) _, grownCap_ge _ _ _ _, grownCap_le_maxLen _ _ _ _ hsz⟩
/-- Bytes with blanks for strokes, from a place on, so many. -/
def repAt (o i : Nat) (l : List UInt8) : List UInt8 := l.mapIdx (fun j c => if o ≤ j ∧ j < o + i ∧ c = 45 then 32 else c)
theorem repAt_len (o i : Nat) (l : List UInt8) : (repAt o i l).length = l.length := by simp [repAt]
theorem repAt_get (o i : Nat) (l : List UInt8) (j : Nat) (h : j < l.length) : (repAt o i l)[j]'(by rw [repAt_len]; exact h) = if o ≤ j ∧ j < o + i ∧ l[j] = 45 then 32 else l[j] := by
  simp [repAt]
theorem repAt_zero (o : Nat) (l : List UInt8) : repAt o 0 l = l := by
  apply List.ext_getElem (repAt_len _ _ _)
  intro j h1 h2
  rw [repAt_get o 0 l j h2, if_neg (by omega)]
theorem repAt_yes {o i : Nat} {l : List UInt8} (h : o + i < l.length) (hc : l[o + i] = 45) : repAt o (i + 1) l = (repAt o i l).set (o + i) 32 := by
  apply List.ext_getElem
  · rw [List.length_set, repAt_len, repAt_len]
  · intro j h1 h2
    rw [repAt_len] at h1
    rw [repAt_get o (i + 1) l j h1, List.getElem_set]
    by_cases e : o + i = j
    · subst e
      rw [if_pos ⟨by omega, by omega, hc⟩, if_pos rfl]
    · rw [if_neg e, repAt_get o i l j h1]
      by_cases hh : o ≤ j ∧ j < o + i ∧ l[j] = 45
      · rw [if_pos hh, if_pos ⟨hh.1, by omega, hh.2.2⟩]
      · rw [if_neg hh, if_neg (fun g => hh ⟨g.1, by omega, g.2.2⟩)]
theorem repAt_no {o i : Nat} {l : List UInt8} (h : o + i < l.length) (hc : l[o + i] ≠ 45) : repAt o (i + 1) l = repAt o i l := by
  apply List.ext_getElem
  · rw [repAt_len, repAt_len]
  · intro j h1 h2
    rw [repAt_len] at h1
    rw [repAt_get o (i + 1) l j h1, repAt_get o i l j h1]
    by_cases hh : o ≤ j ∧ j < o + i ∧ l[j] = 45
    · rw [if_pos hh, if_pos ⟨hh.1, by omega, hh.2.2⟩]
    · rw [if_neg hh]
      rw [if_neg]
      intro g
      by_cases e : j = o + i
      · subst e
        exact hc g.2.2
      · exact hh ⟨g.1, by omega, g.2.2⟩
theorem dgt_45 (n : Nat) : dgt n ≠ 45 := by
  intro e
  have := congrArg UInt8.toNat e
  rw [dgt_nat] at this
  have e45 : (45 : UInt8).toNat = 45 := rfl
  omega
theorem dgt_32 (n : Nat) : dgt n ≠ 32 := by
  intro e
  have := congrArg UInt8.toNat e
  rw [dgt_nat] at this
  have e32 : (32 : UInt8).toNat = 32 := rfl
  omega
/-- The bytes between the quotes, and what becomes of them. -/
theorem text_rep {y m d x zh zm : Nat} {sg : UInt8} (hy : y < 10000) (hm : m < 12) (hd : d < 100) (hx : x < 86400) (hzh : zh < 100) (hzm : zm < 100) :
    ∃ L, ((intT0 y m d x zh zm sg).drop 1).take 26 = L ∧ L.length = 26 ∧ (d < 10 → L[0]? = some 32 ∧ (repAt 1 7 L).drop 1 = headT y m d x zh zm sg) ∧ (¬ d < 10 → (∃ c, L[0]? = some c ∧ c ≠ 32) ∧ (repAt 0 7 L).drop 0 = headT y m d x zh zm sg) := by
  obtain ⟨a, b, c, hmn, hmi, hmx⟩ := mon_cons m hm
  obtain ⟨d1, d2, hd2, hL⟩ := intT_is (x := x) (zh := zh) (zm := zm) (sg := sg) hy hd hx hzh hzm hmn
  have ha := (hmx a (by simp)).1
  have hb := (hmx b (by simp)).1
  have hc := (hmx c (by simp)).1
  rw [hL]
  refine ⟨_, rfl, rfl, ?_, ?_⟩
  · intro h
    unfold day2 at hd2
    rw [if_pos h] at hd2
    simp only [List.cons.injEq, and_true] at hd2
    obtain ⟨rfl, rfl⟩ := hd2
    refine ⟨rfl, ?_⟩
    unfold headT dayD
    rw [if_pos h, hmn]
    simp [repAt, ha, hb, hc, dgt_45]
  · intro h
    unfold day2 at hd2
    rw [if_neg h] at hd2
    simp only [List.cons.injEq, and_true] at hd2
    obtain ⟨rfl, rfl⟩ := hd2
    refine ⟨⟨_, rfl, dgt_32 _⟩, ?_⟩
    unfold headT dayD
    rw [if_neg h, hmn]
    simp [repAt, ha, hb, hc, dgt_45]

/-- A moment in a block. -/
def TimeAt (W : World) (B : Nat) (s z : Int) : Prop := W.cell? ⟨B, 0, none⟩ = some (.int .i64 s) ∧ W.cell? ⟨B, 1, none⟩ = some (.int .i64 z) ∧ B < W.heap.size
theorem TimeAt.below {W W' : World} {B : Nat} {s z : Int} (h : TimeAt W B s z) (hb : Below W.heap.size W W') : TimeAt W' B s z :=
  ⟨(hb.cell (p := ⟨B, 0, none⟩) h.2.2).trans h.1, (hb.cell (p := ⟨B, 1, none⟩) h.2.2).trans h.2.1, Nat.lt_of_lt_of_le h.2.2 hb.size⟩
theorem timeAt_new (w : World) (s z : Int) : TimeAt (w.alloc (.cells #[.int .i64 s, .int .i64 z] 24)) w.heap.size s z := by
  obtain ⟨a, b⟩ := cells2 w 24 (.int .i64 s) (.int .i64 z)
  exact ⟨a, b, by rw [size_alloc']; exact Nat.lt_succ_self _⟩
def Off4 (G a b c d : Nat) : Prop := a < G ∧ b < G ∧ c < G ∧ d < G
theorem repl_step (W : World) (G : Nat) (o i : Nat) (L : List UInt8) (h : rowAt W G 5 ((repAt o i L).map byteV)) (hi : o + i < L.length) (hc : L[o + i] = 45) :
    rowAt (W.setCell ⟨G, o + i, none⟩ (.int .u8 32)) G 5 ((repAt o (i + 1) L).map byteV) := by
  have h1 := h.set (o + i) (.int .u8 32)
  rw [repAt_yes hi hc, List.map_set]
  exact h1
theorem row_sliceAt {W : World} {G : Nat} {e : TypeId} {l : List UInt8} (h : rowAt W G e (l.map byteV)) (o : Nat) : sliceAt W (some ⟨G, o, none⟩) (l.drop o) := by
  refine .inr ⟨G, o, rfl, h.lt, fun j hj => ?_⟩
  rw [List.length_drop] at hj
  have := h.cell (o + j) (by simp; omega)
  rw [this]
  simp
theorem repl_cell {W : World} {G : Nat} {o i : Nat} {L : List UInt8} (h : rowAt W G 5 ((repAt o i L).map byteV)) (hi : o + i < L.length) : W.cell? ⟨G, o + i, none⟩ = some (.int .u8 (L[o + i].toNat : Int)) ∧ W.frozen? ⟨G, o + i, none⟩ = false := by
  have h1 := h.cell (o + i) (by rw [List.length_map, repAt_len]; exact hi)
  have h2 := h.frozen (o + i) (by rw [List.length_map, repAt_len]; exact hi)
  refine ⟨?_, h2⟩
  rw [h1, List.getElem_map, repAt_get o i L (o + i) hi, if_neg (by omega)]
  rfl
theorem TimeAt.under {W W' : World} {B k : Nat} {s z : Int} (h : TimeAt W B s z) (hb : Below k W W') (hk : B < k) : TimeAt W' B s z :=
  ⟨(hb.cell (p := ⟨B, 0, none⟩) hk).trans h.1, (hb.cell (p := ⟨B, 1, none⟩) hk).trans h.2.1, Nat.lt_of_lt_of_le h.2.2 hb.size⟩
set_option maxRecDepth 100000 in
set_option maxHeartbeats 8000000 in
theorem dateZones_of (HI : IntOk) (n : Nat) (hn : n ≤ 4294967295) (a b : Int) (ha0 : -32768 ≤ a) (ha1 : a ≤ 32767) (hb0 : -32768 ≤ b) (hb1 : b ≤ 32767) (w : World) (hE : envD w) :
    Calls Tryd.prog 6 #[.int .u32 (n : Int), .int .i16 a, .int .i16 b] w fun e w' => e = .returned (.bool true) ∧ Below w.heap.size w w' := by
  have HAw := Lib.hid (fun w h => awake_any HI w h)
  have HEn := Lib.hid hE
  obtain ⟨za, hza⟩ : ∃ z, a.tmod 1440 = z := ⟨_, rfl⟩
  obtain ⟨zb, hzb⟩ : ∃ z, b.tmod 1440 = z := ⟨_, rfl⟩
  have za1 : -1440 < za ∧ za < 1440 := by
    rw [← hza]
    have h1 := Int.tmod_lt_of_pos a (show (0 : Int) < 1440 by omega)
    have h2 := Int.lt_tmod_of_pos a (show (0 : Int) < 1440 by omega)
    omega
  have zb1 : -1440 < zb ∧ zb < 1440 := by
    rw [← hzb]
    have h1 := Int.tmod_lt_of_pos b (show (0 : Int) < 1440 by omega)
    have h2 := Int.lt_tmod_of_pos b (show (0 : Int) < 1440 by omega)
    omega
  have inA : inQ (n : Int) za := ⟨za1.1, za1.2, by omega, by omega⟩
  have inB : inQ (n : Int) zb := ⟨zb1.1, zb1.2, by omega, by omega⟩
  have dA : 0 ≤ dayN (n : Int) za + 719162 ∧ dayN (n : Int) za + 719162 < 3652059 := by unfold dayN; omega
  have dB : 0 ≤ dayN (n : Int) zb + 719162 ∧ dayN (n : Int) zb + 719162 < 3652059 := by unfold dayN; omega
  obtain ⟨y, m, d, N, r, _, _, _, _, _, _, hm12, _, _, _, _, hnum⟩ := number_ex (dayN (n : Int) za) dA.1 dA.2
  obtain ⟨y', m', d', N', r', _, _, _, _, _, _, hm12', _, _, _, _, hnum'⟩ := number_ex (dayN (n : Int) zb) dB.1 dB.2
  obtain ⟨hy, hdd⟩ := numberK_small hnum
  obtain ⟨hy', hdd'⟩ := numberK_small hnum'
  have HI1 := Lib.hid (fun w h => internal_at HI (n : Int) za w inA hnum hm12 h)
  have HI2 := Lib.hid (fun w h => internal_at HI (n : Int) zb w inB hnum' hm12' h)
  obtain ⟨x1, x2⟩ := secQ_lt (n : Int) za
  obtain ⟨x1', x2'⟩ := secQ_lt (n : Int) zb
  have bA := back_is (n : Int) za inA hnum hm12
  have bB := back_is (n : Int) zb inB hnum' hm12'
  have hPK := parseK_back (x := secQ (n : Int) za) (zh := za.natAbs / 60) (zm := za.natAbs % 60) hy hm12 hdd x1 (sg_is za) (by omega) (by omega)
  rw [moment_is hnum x1, zoneMin_is, x2] at hPK
  have hse : dayN (n : Int) za * 86400 + ((n : Int) + 60 * za - 86400 * dayN (n : Int) za) - 60 * za = (n : Int) := by omega
  rw [hse] at hPK
  obtain ⟨L, hL1, hL2, hL3, hL4⟩ := text_rep (x := secQ (n : Int) za) (zh := za.natAbs / 60) (zm := za.natAbs % 60) (sg := if za < 0 then 45 else 43) hy hm12 hdd x1 (by omega) (by omega)
  obtain ⟨tl, _⟩ := text_mid (x := secQ (n : Int) za) (zh := za.natAbs / 60) (zm := za.natAbs % 60) (sg := if za < 0 then 45 else 43) hy hm12 hdd x1 (by omega) (by omega)
  obtain ⟨tl', _⟩ := text_mid (x := secQ (n : Int) zb) (zh := zb.natAbs / 60) (zm := zb.natAbs % 60) (sg := if zb < 0 then 45 else 43) hy' hm12' hdd' x1' (by omega) (by omega)
  obtain ⟨S1, hS1⟩ : ∃ T : ByteArray, T = ⟨(intT0 y m d (secQ (n : Int) za) (za.natAbs / 60) (za.natAbs % 60) (if za < 0 then 45 else 43)).toArray⟩ := ⟨_, rfl⟩
  obtain ⟨S2, hS2⟩ : ∃ T : ByteArray, T = ⟨(intT0 y' m' d' (secQ (n : Int) zb) (zb.natAbs / 60) (zb.natAbs % 60) (if zb < 0 then 45 else 43)).toArray⟩ := ⟨_, rfl⟩
  have s1 : S1.size = 28 := by rw [← len_toList, hS1]; exact tl
  have s2 : S2.size = 28 := by rw [← len_toList, hS2]; exact tl'
  have l1 : S1.data.toList = intT0 y m d (secQ (n : Int) za) (za.natAbs / 60) (za.natAbs % 60) (if za < 0 then 45 else 43) := by rw [hS1]
  have l2 : S2.data.toList = intT0 y' m' d' (secQ (n : Int) zb) (zb.natAbs / 60) (zb.natAbs % 60) (if zb < 0 then 45 else 43) := by rw [hS2]
  rw [← hS1] at HI1
  rw [← hS2] at HI2
  have HQ1 := Lib.hid (fun w h => parseInternal_any S1 w (by omega) h)
  have HQ2 := Lib.hid (fun w h => parseInternal_any S2 w (by omega) h)
  rw [l1, bA] at HQ1
  rw [l2, bB] at HQ2
  obtain ⟨E, hEx⟩ : ∃ E, S1.extract 1 27 = E := ⟨_, rfl⟩
  have hEl : E.data.toList = L := by
    rw [← hEx, extract_toList, l1]
    exact hL1
  have hEs : E.size = 26 := by rw [← hEx]; exact extract_size' S1 1 27 (by omega)
  have HPa := Lib.hid (show ∀ (U : ByteArray), U.data.toList = headT y m d (secQ (n : Int) za) (za.natAbs / 60) (za.natAbs % 60) (if za < 0 then 45 else 43) → ∀ w, envD w → Calls Tryd.prog 8 #[.string U] w fun e w' => e = .returned (momV (some ((n : Int), za))) ∧ Below w.heap.size w w' from fun U hU w h => by
    have hx := parse_any U w (by
      rw [← len_toList, hU]
      unfold headT dayD
      obtain ⟨p, q, r2, hmn, _⟩ := mon_cons m hm12
      rw [hmn]
      split <;> simp) h
    rw [hU, hPK] at hx
    exact hx)
  obtain ⟨HT, hHT⟩ : ∃ HT, HT = headT y m d (secQ (n : Int) za) (za.natAbs / 60) (za.natAbs % 60) (if za < 0 then 45 else 43) := ⟨_, rfl⟩
  rw [← hHT] at HPa hL3 hL4
  have i1 : ((S1.size : Int) != 28) = false := bne_no (by omega)
  have i2 : ((S2.size : Int) != 28) = false := bne_no (by omega)
  have q1 : ((n : Int) == (n : Int)) = true := beq_yes rfl
  have q2 : (za == za) = true := beq_yes rfl
  have q3 : (zb == zb) = true := beq_yes rfl
  have HL3 := Lib.hid hL3
  have HL4 := Lib.hid hL4
  have HEl := Lib.hid hEl
  have HL2 := Lib.hid hL2
  unfold momV at HQ1 HQ2 HPa
  clear hse bA bB hPK inA inB dA dB hnum hnum' x1 x2 x1' x2' tl tl' hS1 hS2 l1 l2 hHT hL1 hL3 hL4 hEl hy hy' hdd hdd' hm12 hm12' hE HI hL2
  obtain ⟨za2, za3⟩ := za1
  obtain ⟨zb2, zb3⟩ := zb1
  go_enter Tryd.func6, Tryd.ntmps6
  go_wp2_with fail
  with_reducible refine (HAw.out _ HEn.out).mono ?_
  rintro e w1 ⟨rfl, hb⟩
  have HB := Lib.hid hb
  clear hb
  go_wp2_with fail
  obtain ⟨X, hX⟩ : ∃ X, X = (w1.alloc (.cells #[.int .i64 (n : Int), .int .i64 za] 24)).alloc (.cells #[.int .i64 (n : Int), .int .i64 zb] 24) := ⟨_, rfl⟩
  obtain ⟨B1, hB1⟩ : ∃ B, B = w1.heap.size := ⟨_, rfl⟩
  obtain ⟨B2, hB2⟩ : ∃ B, B = w1.heap.size + 1 := ⟨_, rfl⟩
  have hTim : Hid (TimeAt X B1 (n : Int) za ∧ TimeAt X B2 (n : Int) zb) := by
    rw [hX, hB1, hB2]
    refine ⟨(timeAt_new w1 _ _).below ((Below.refl _ _).alloc (Nat.le_refl _) _), ?_⟩
    have := timeAt_new (w1.alloc (.cells #[.int .i64 (n : Int), .int .i64 za] 24)) (n : Int) zb
    rwa [size_alloc'] at this
  replace HB := Lib.hid (show Below w.heap.size w X by rw [hX]; exact (HB.out.alloc HB.out.size _).alloc (Nat.le_trans HB.out.size (by rw [size_alloc']; omega)) _)
  rw [← hX, ← hB2, ← hB1]
  clear hX hB1 hB2
  with_reducible refine (HI1.out _ (HEn.out.below HB.out)).mono ?_
  rintro e w2 ⟨rfl, hb⟩
  replace hTim := Lib.hid (And.intro (hTim.out.1.below hb) (hTim.out.2.below hb))
  replace HB := Lib.hid (HB.out.trans (hb.mono HB.out.size))
  clear hb
  obtain ⟨t0, t1, t2⟩ := hTim.out.2
  go_wp2_with fail
  with_reducible refine (HI2.out _ (HEn.out.below HB.out)).mono ?_
  rintro e w3 ⟨rfl, hb⟩
  replace hTim := Lib.hid (And.intro (hTim.out.1.below hb) (hTim.out.2.below hb))
  replace HB := Lib.hid (HB.out.trans (hb.mono HB.out.size))
  clear hb t0 t1 t2
  go_wp2_with fail
  with_reducible refine (HQ1.out _ (HEn.out.below HB.out)).mono ?_
  rintro e w4 ⟨rfl, hb⟩
  replace hTim := Lib.hid (And.intro (hTim.out.1.below hb) (hTim.out.2.below hb))
  replace HB := Lib.hid (HB.out.trans (hb.mono HB.out.size))
  clear hb
  obtain ⟨X4, hX⟩ : ∃ X, X = w4.alloc (.cells #[.int .i64 (n : Int), .int .i64 za] 24) := ⟨_, rfl⟩
  obtain ⟨B3, hB3⟩ : ∃ B, B = w4.heap.size := ⟨_, rfl⟩
  have hb : Below w4.heap.size w4 X4 := by rw [hX]; exact (Below.refl _ _).alloc (Nat.le_refl _) _
  have hTi3 : Hid (TimeAt X4 B3 (n : Int) za) := by rw [hX, hB3]; exact timeAt_new w4 _ _
  replace hTim := Lib.hid (And.intro (hTim.out.1.below hb) (hTim.out.2.below hb))
  replace HB := Lib.hid (HB.out.trans (hb.mono HB.out.size))
  clear hb
  go_wp2_with fail
  rw [← hX, ← hB3]
  clear hX hB3
  with_reducible refine (HQ2.out _ (HEn.out.below HB.out)).mono ?_
  rintro e w5 ⟨rfl, hb⟩
  replace hTim := Lib.hid (And.intro (hTim.out.1.below hb) (hTim.out.2.below hb))
  replace hTi3 := Lib.hid (hTi3.out.below hb)
  replace HB := Lib.hid (HB.out.trans (hb.mono HB.out.size))
  clear hb
  obtain ⟨X5, hX⟩ : ∃ X, X = w5.alloc (.cells #[.int .i64 (n : Int), .int .i64 zb] 24) := ⟨_, rfl⟩
  obtain ⟨B4, hB4⟩ : ∃ B, B = w5.heap.size := ⟨_, rfl⟩
  have hb : Below w5.heap.size w5 X5 := by rw [hX]; exact (Below.refl _ _).alloc (Nat.le_refl _) _
  have hTi4 : Hid (TimeAt X5 B4 (n : Int) zb) := by rw [hX, hB4]; exact timeAt_new w5 _ _
  replace hTim := Lib.hid (And.intro (hTim.out.1.below hb) (hTim.out.2.below hb))
  replace hTi3 := Lib.hid (hTi3.out.below hb)
  replace HB := Lib.hid (HB.out.trans (hb.mono HB.out.size))
  clear hb
  have HGt := Lib.hid (show Off4 X5.heap.size B1 B2 B3 B4 from ⟨hTim.out.1.2.2, hTim.out.2.2.2, hTi3.out.2.2, hTi4.out.2.2⟩)
  obtain ⟨X6, cap, hcv, hrow, hbc, hc1, hc2⟩ := conv_row (P := Tryd.prog) X5 9 41 5 E (by unfold maxLen; omega) Tryd.underlying9 Tryd.underlying41 Tryd.underlying5
  obtain ⟨G, hG⟩ : ∃ G, X5.heap.size = G := ⟨_, rfl⟩
  rw [hG] at hcv hrow
  rw [HEl.out] at hrow
  rw [hEs] at hcv hc1
  replace hTim := Lib.hid (And.intro (hTim.out.1.below hbc) (hTim.out.2.below hbc))
  replace hTi3 := Lib.hid (hTi3.out.below hbc)
  replace hTi4 := Lib.hid (hTi4.out.below hbc)
  have HG : Hid (w.heap.size ≤ G) := by rw [← hG]; exact HB.out.size
  rw [hG] at HGt
  replace HB := Lib.hid (HB.out.trans (hbc.mono HB.out.size))
  have HRow := Lib.hid hrow
  unfold maxLen at hc2
  clear hbc hrow hG
  go_upto_region 12 with fail
  rw [← hX, ← hB4]
  clear hX hB4
  go_upto_region 13 with fail
  have hl := HL2.out
  have hcl0 : ∀ c, L[0]? = some c → X6.cell? ⟨G, 0, none⟩ = some (.int .u8 (c.toNat : Int)) := fun c hc => by
    rw [HRow.out.cell 0 (by rw [List.length_map]; omega), List.getElem_map]
    rw [List.getElem?_eq_getElem (by omega)] at hc
    rw [Option.some.inj hc]
    rfl
  by_cases hd10 : d < 10
  · obtain ⟨h32, hU⟩ := HL3.out hd10
    have hcell := hcl0 _ h32
    rw [show (((32 : UInt8).toNat : Nat) : Int) = 32 from rfl] at hcell
    have HU := Lib.hid hU
    clear hU h32 hcl0 HL3 HL4 hd10
    go_wp2_with fail
    go_loopg [17] 7 (fun q xi wr => ∃ i : Nat, i ≤ 7 ∧ q = 7 - i ∧ xi = .int .i64 (i : Int) ∧ Hid (rowAt wr G 5 ((repAt 1 i L).map byteV)) ∧ Hid (Below w.heap.size w wr) ∧ Hid (TimeAt wr B1 (n : Int) za ∧ TimeAt wr B2 (n : Int) zb) ∧ Hid (TimeAt wr B3 (n : Int) za) ∧ Hid (TimeAt wr B4 (n : Int) zb))
    case atStart => exact ⟨0, by omega, by omega, by go_num, by unfold Hid; rw [repAt_zero]; exact HRow.out, HB.out, hTim.out, hTi3.out, hTi4.out⟩
    case round =>
      clear HRow HB hTim hTi3 hTi4
      obtain ⟨i, hi, rfl, rfl, HR, HB, hTim, hTi3, hTi4⟩ := hrel
      by_cases hlt : i < 7
      · have hil : 1 + i < L.length := by omega
        obtain ⟨hcell, hfr⟩ := repl_cell HR.out hil
        have g1 : ((i : Int) < 25) := by omega
        have g2 : ((i : Int) < 7) := by omega
        obtain ⟨c, hcc⟩ : ∃ c, L[1 + i] = c := ⟨_, rfl⟩
        rw [hcc] at hcell
        have HC := Lib.hid hcc
        clear hcc
        have hb : Below G wr (wr.setCell ⟨G, 1 + i, none⟩ (.int .u8 32)) := (Below.refl G wr).setCell (show G ≤ (⟨G, 1 + i, none⟩ : Addr).block from Nat.le_refl _) _
        have HF : Hid (c = 45 → rowAt (wr.setCell ⟨G, 1 + i, none⟩ (.int .u8 32)) G 5 ((repAt 1 (i + 1) L).map byteV) ∧ Below w.heap.size w (wr.setCell ⟨G, 1 + i, none⟩ (.int .u8 32)) ∧ (TimeAt (wr.setCell ⟨G, 1 + i, none⟩ (.int .u8 32)) B1 (n : Int) za ∧ TimeAt (wr.setCell ⟨G, 1 + i, none⟩ (.int .u8 32)) B2 (n : Int) zb) ∧ TimeAt (wr.setCell ⟨G, 1 + i, none⟩ (.int .u8 32)) B3 (n : Int) za ∧ TimeAt (wr.setCell ⟨G, 1 + i, none⟩ (.int .u8 32)) B4 (n : Int) zb) := fun h => ⟨repl_step wr G 1 i L HR.out hil (HC.out.trans h), HB.out.setCell HG.out _, ⟨hTim.out.1.under hb HGt.out.1, hTim.out.2.under hb HGt.out.2.1⟩, hTi3.out.under hb HGt.out.2.2.1, hTi4.out.under hb HGt.out.2.2.2⟩
        have HN := Lib.hid (fun h : ¬ c = 45 => repAt_no hil (show L[1 + i] ≠ 45 by rw [HC.out]; exact h))
        clear hb
        skip
        clear hil HC
        by_cases h45 : c = 45
        · have hF := HF.out h45
          clear HF HN HR HB hTim hTi3 hTi4
          have HFF := Lib.hid hF
          clear hF
          subst h45
          rw [show (((45 : UInt8).toNat : Nat) : Int) = 45 from rfl] at hcell
          go_wp2_with fail
          go_roundg (7 - (i + 1))
          case measure => omega
          case rel => exact ⟨i + 1, by omega, rfl, by go_num, HFF.out.1, HFF.out.2.1, HFF.out.2.2.1, HFF.out.2.2.2.1, HFF.out.2.2.2.2⟩
        · have hn45 : ((c.toNat : Int) == 45) = false := beq_no (fun e => h45 (UInt8.toNat_inj.1 (by have := Int.ofNat_inj.1 e; rw [this]; rfl)))
          have hR := HN.out h45
          clear HF HN
          go_wp2_with fail
          go_roundg (7 - (i + 1))
          case measure => omega
          case rel => exact ⟨i + 1, by omega, rfl, by go_num, by unfold Hid; rw [hR]; exact HR.out, HB.out, hTim.out, hTi3.out, hTi4.out⟩
      · obtain rfl : i = 7 := by omega
        have hv : sliceAt wr (some ⟨G, 1, none⟩) HT := by
          have := row_sliceAt HR.out 1
          rwa [HU.out] at this
        have hht : HT.length = 25 := by rw [← HU.out, List.length_drop, repAt_len]; omega
        have hcv := bytesArg_string (hv.arg (cap := cap - 1) (by omega) (by unfold maxLen; omega))
        rw [hht] at hcv
        clear hv
        go_wp2_with fail
        with_reducible refine (HPa.out ⟨HT.toArray⟩ rfl _ (HEn.out.below HB.out)).mono ?_
        rintro e w7 ⟨rfl, hb⟩
        replace hTim := Lib.hid (And.intro (hTim.out.1.below hb) (hTim.out.2.below hb))
        replace hTi3 := Lib.hid (hTi3.out.below hb)
        replace hTi4 := Lib.hid (hTi4.out.below hb)
        replace HB := Lib.hid (HB.out.trans (hb.mono HB.out.size))
        clear hb hcv HR
        obtain ⟨X8, hX⟩ : ∃ X, X = w7.alloc (.cells #[.int .i64 (n : Int), .int .i64 za] 24) := ⟨_, rfl⟩
        obtain ⟨B5, hB5⟩ : ∃ B, B = w7.heap.size := ⟨_, rfl⟩
        have hb : Below w7.heap.size w7 X8 := by rw [hX]; exact (Below.refl _ _).alloc (Nat.le_refl _) _
        have hTi5 : TimeAt X8 B5 (n : Int) za := by rw [hX, hB5]; exact timeAt_new w7 _ _
        replace hTim := Lib.hid (And.intro (hTim.out.1.below hb) (hTim.out.2.below hb))
        replace hTi3 := Lib.hid (hTi3.out.below hb)
        replace hTi4 := Lib.hid (hTi4.out.below hb)
        replace HB := Lib.hid (HB.out.trans (hb.mono HB.out.size))
        clear hb
        go_upto_region 21 with fail
        rw [← hX, ← hB5]
        clear hX hB5
        obtain ⟨a1, a2, _⟩ := hTim.out.1
        obtain ⟨b1, b2, _⟩ := hTim.out.2
        obtain ⟨c1, c2, _⟩ := hTi3.out
        obtain ⟨e1, e2, _⟩ := hTi4.out
        obtain ⟨f1, f2, _⟩ := hTi5
        go_wp2
        go_ret
        exact ⟨rfl, HB.out⟩
  · obtain ⟨⟨c, hc, hne⟩, hU⟩ := HL4.out hd10
    have hcell := hcl0 _ hc
    have hn32 : ((c.toNat : Int) == 32) = false := beq_no (fun e => hne (UInt8.toNat_inj.1 (by have := Int.ofNat_inj.1 e; rw [this]; rfl)))
    have HU := Lib.hid hU
    clear hU hc hne hcl0 HL3 HL4 hd10
    go_wp2_with fail
    clear hcell hn32
    go_loopg [17] 7 (fun q xi wr => ∃ i : Nat, i ≤ 7 ∧ q = 7 - i ∧ xi = .int .i64 (i : Int) ∧ Hid (rowAt wr G 5 ((repAt 0 i L).map byteV)) ∧ Hid (Below w.heap.size w wr) ∧ Hid (TimeAt wr B1 (n : Int) za ∧ TimeAt wr B2 (n : Int) zb) ∧ Hid (TimeAt wr B3 (n : Int) za) ∧ Hid (TimeAt wr B4 (n : Int) zb))
    case atStart => exact ⟨0, by omega, by omega, by go_num, by unfold Hid; rw [repAt_zero]; exact HRow.out, HB.out, hTim.out, hTi3.out, hTi4.out⟩
    case round =>
      clear HRow HB hTim hTi3 hTi4
      obtain ⟨i, hi, rfl, rfl, HR, HB, hTim, hTi3, hTi4⟩ := hrel
      by_cases hlt : i < 7
      · have hil : 0 + i < L.length := by omega
        obtain ⟨hcell, hfr⟩ := repl_cell HR.out hil
        have g1 : ((i : Int) < 26) := by omega
        have g2 : ((i : Int) < 7) := by omega
        obtain ⟨c, hcc⟩ : ∃ c, L[0 + i] = c := ⟨_, rfl⟩
        rw [hcc] at hcell
        have HC := Lib.hid hcc
        clear hcc
        have hb : Below G wr (wr.setCell ⟨G, 0 + i, none⟩ (.int .u8 32)) := (Below.refl G wr).setCell (show G ≤ (⟨G, 0 + i, none⟩ : Addr).block from Nat.le_refl _) _
        have HF : Hid (c = 45 → rowAt (wr.setCell ⟨G, 0 + i, none⟩ (.int .u8 32)) G 5 ((repAt 0 (i + 1) L).map byteV) ∧ Below w.heap.size w (wr.setCell ⟨G, 0 + i, none⟩ (.int .u8 32)) ∧ (TimeAt (wr.setCell ⟨G, 0 + i, none⟩ (.int .u8 32)) B1 (n : Int) za ∧ TimeAt (wr.setCell ⟨G, 0 + i, none⟩ (.int .u8 32)) B2 (n : Int) zb) ∧ TimeAt (wr.setCell ⟨G, 0 + i, none⟩ (.int .u8 32)) B3 (n : Int) za ∧ TimeAt (wr.setCell ⟨G, 0 + i, none⟩ (.int .u8 32)) B4 (n : Int) zb) := fun h => ⟨repl_step wr G 0 i L HR.out hil (HC.out.trans h), HB.out.setCell HG.out _, ⟨hTim.out.1.under hb HGt.out.1, hTim.out.2.under hb HGt.out.2.1⟩, hTi3.out.under hb HGt.out.2.2.1, hTi4.out.under hb HGt.out.2.2.2⟩
        have HN := Lib.hid (fun h : ¬ c = 45 => repAt_no hil (show L[0 + i] ≠ 45 by rw [HC.out]; exact h))
        clear hb
        rw [Nat.zero_add] at hcell hfr HF
        clear hil HC
        by_cases h45 : c = 45
        · have hF := HF.out h45
          clear HF HN HR HB hTim hTi3 hTi4
          have HFF := Lib.hid hF
          clear hF
          subst h45
          rw [show (((45 : UInt8).toNat : Nat) : Int) = 45 from rfl] at hcell
          go_wp2_with fail
          go_roundg (7 - (i + 1))
          case measure => omega
          case rel => exact ⟨i + 1, by omega, rfl, by go_num, HFF.out.1, HFF.out.2.1, HFF.out.2.2.1, HFF.out.2.2.2.1, HFF.out.2.2.2.2⟩
        · have hn45 : ((c.toNat : Int) == 45) = false := beq_no (fun e => h45 (UInt8.toNat_inj.1 (by have := Int.ofNat_inj.1 e; rw [this]; rfl)))
          have hR := HN.out h45
          clear HF HN
          go_wp2_with fail
          go_roundg (7 - (i + 1))
          case measure => omega
          case rel => exact ⟨i + 1, by omega, rfl, by go_num, by unfold Hid; rw [hR]; exact HR.out, HB.out, hTim.out, hTi3.out, hTi4.out⟩
      · obtain rfl : i = 7 := by omega
        have hv : sliceAt wr (some ⟨G, 0, none⟩) HT := by
          have := row_sliceAt HR.out 0
          rwa [HU.out] at this
        have hht : HT.length = 26 := by rw [← HU.out, List.length_drop, repAt_len]; omega
        have hcv := bytesArg_string (hv.arg (cap := cap) (by omega) (by unfold maxLen; omega))
        rw [hht] at hcv
        clear hv
        go_wp2_with fail
        with_reducible refine (HPa.out ⟨HT.toArray⟩ rfl _ (HEn.out.below HB.out)).mono ?_
        rintro e w7 ⟨rfl, hb⟩
        replace hTim := Lib.hid (And.intro (hTim.out.1.below hb) (hTim.out.2.below hb))
        replace hTi3 := Lib.hid (hTi3.out.below hb)
        replace hTi4 := Lib.hid (hTi4.out.below hb)
        replace HB := Lib.hid (HB.out.trans (hb.mono HB.out.size))
        clear hb hcv HR
        obtain ⟨X8, hX⟩ : ∃ X, X = w7.alloc (.cells #[.int .i64 (n : Int), .int .i64 za] 24) := ⟨_, rfl⟩
        obtain ⟨B5, hB5⟩ : ∃ B, B = w7.heap.size := ⟨_, rfl⟩
        have hb : Below w7.heap.size w7 X8 := by rw [hX]; exact (Below.refl _ _).alloc (Nat.le_refl _) _
        have hTi5 : TimeAt X8 B5 (n : Int) za := by rw [hX, hB5]; exact timeAt_new w7 _ _
        replace hTim := Lib.hid (And.intro (hTim.out.1.below hb) (hTim.out.2.below hb))
        replace hTi3 := Lib.hid (hTi3.out.below hb)
        replace hTi4 := Lib.hid (hTi4.out.below hb)
        replace HB := Lib.hid (HB.out.trans (hb.mono HB.out.size))
        clear hb
        go_upto_region 21 with fail
        rw [← hX, ← hB5]
        clear hX hB5
        obtain ⟨a1, a2, _⟩ := hTim.out.1
        obtain ⟨b1, b2, _⟩ := hTim.out.2
        obtain ⟨c1, c2, _⟩ := hTi3.out
        obtain ⟨e1, e2, _⟩ := hTi4.out
        obtain ⟨f1, f2, _⟩ := hTi5
        go_wp2
        go_ret
        exact ⟨rfl, HB.out⟩
end Go.Proofs.YtfndidcoahammaaDoor
