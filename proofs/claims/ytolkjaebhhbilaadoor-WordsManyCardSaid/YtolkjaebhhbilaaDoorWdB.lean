/- Contracts of package words: quoted. -/
import Derived.Test.YtolkjaebhhbilaaDoorWdA
import Derived.Deep.DeepCutAuto
import Derived.Deep.CutBlock
namespace Go.Proofs.YtolkjaebhhbilaaDoor
open Go Go.RowKit

/-- Bytes, and whether they are whole. -/
def gotQ (o : Option (List UInt8)) (w : World) (e : Ending) (w' : World) : Prop :=
  (match o with | some t => ∃ u, e = .returned (.tuple #[u, .bool true]) ∧ bytesArg w' u t | none => ∃ u, e = .returned (.tuple #[u, .bool false])) ∧ Below w.heap.size w w'
theorem gotQ_no {o : Option (List UInt8)} {w w' : World} {u : Value} (h : o = none) (hb : Below w.heap.size w w') : gotQ o w (.returned (.tuple #[u, .bool false])) w' := by
  subst h
  exact ⟨⟨u, rfl⟩, hb⟩
theorem gotQ_yes {o : Option (List UInt8)} {w w' : World} {u : Value} {t : List UInt8} (h : o = some t) (hu : bytesArg w' u t) (hb : Below w.heap.size w w') : gotQ o w (.returned (.tuple #[u, .bool true])) w' := by
  subst h
  exact ⟨⟨u, rfl, hu⟩, hb⟩
theorem codeQ_yes {r : List UInt8} {n : Nat} (h : codeQ r = some n) : ∃ a b r2, r = a :: b :: r2 ∧ n < 256 ∧ qL (61 :: r) = (qL r2).map (byteN n :: ·) := by
  match r, h with
  | [], h => cases h
  | [_], h => cases h
  | a :: b :: r2, h => exact ⟨a, b, r2, rfl, hexs_lt a b n h, qL_code r2 h⟩
theorem codeQ_no {r : List UInt8} (h : codeQ r = none) : qL (61 :: r) = none := by
  match r, h with
  | [], _ => rfl
  | [_], _ => rfl
  | a :: b :: r2, h => exact qL_no r2 h
theorem map_app {o : Option (List UInt8)} {x : UInt8} {out : List UInt8} : (o.map (x :: ·)).map (out ++ ·) = o.map ((out ++ [x]) ++ ·) := by
  cases o <;> simp

set_option maxRecDepth 100000 in
set_option maxHeartbeats 4000000 in
theorem quoted_any (v : Value) (l : List UInt8) (w : World) (hv : bytesArg w v l) (hl : l.length ≤ 100000) (he : errAt w) :
    Calls Tryd.prog 26 #[v] w (gotQ (qL l) w) := by
  obtain ⟨i0, hi, hz0, hz1, hz2⟩ := info_parts Tryd.infoB
  obtain ⟨ao, cap, rfl, hc, hm, hs⟩ := hv
  unfold maxLen at hm
  have HS := Lib.hid hs
  have HEr := Lib.hid he
  have HBy := Lib.hid (fun A (k : Nat) (r : List UInt8) (W : World) (h1 : sliceAt W A r) (h2 : r.length ≤ k) (h3 : k ≤ 9223372036854775807) h4 => byteOf_any A r.length k r W rfl h1 h2 (by unfold maxLen; omega) h4)
  clear hs he
  go_enter Tryd.func26, Tryd.ntmps26
  go_wp2
  go_loopg [0, 4, 5, 6, 7] l.length (fun g t o x5 x6 x7 wr => ∃ (r out : List UInt8) (ar : Option Addr) (cr : Nat), r.length ≤ l.length ∧ g = r.length ∧ t = .slice ar r.length cr ∧ r.length ≤ cr ∧ cr ≤ 9223372036854775807 ∧ Hid (sliceAt w ar r) ∧ out.length + r.length ≤ l.length ∧ Hid (wr.ownsRow w.heap.size 5 1 o out.length (out.map byteV)) ∧ Hid (qL l = (qL r).map (out ++ ·)) ∧ Hid (Below w.heap.size w wr))
  case atStart => exact ⟨l, [], ao, cap, by omega, rfl, rfl, hc, by omega, HS, by simp, World.ownsRow_nil _ _ _ _, by unfold Hid; simp, Below.refl _ _⟩
  case round =>
    obtain ⟨r, out, ar, cr, hrl, rfl, rfl, hrc, hcr, HR, hout, HO, HE, HB⟩ := hrel
    by_cases h0 : 0 < r.length
    · obtain ⟨c, r', rfl⟩ : ∃ c r', r = c :: r' := by
        match r, h0 with
        | c :: r', _ => exact ⟨c, r', rfl⟩
      rcases HR.out with e | ⟨b, off, rfl, hb, hcell⟩
      · cases e
      have hc0 : wr.cell? ⟨b, off, none⟩ = some (.int .u8 (c.toNat : Int)) := (HB.out.cell (p := ⟨b, off, none⟩) hb).trans (hcell 0 (by simp))
      clear hcell
      simp only [List.length_cons] at hrl hrc hout h0 ⊢
      obtain ⟨N, hN⟩ : ∃ N, N = r'.length := ⟨_, rfl⟩
      rw [← hN] at hrl hrc hout h0 ⊢
      have HN := Lib.hid hN
      clear hN
      go_upto_region 5 with fail
      go_cut [0, 5, 16] (fun s0 s5 s16 wx => (∃ A k, s0 = .slice A N k ∧ N ≤ k ∧ k ≤ 9223372036854775807 ∧ Hid (sliceAt w A r')) ∧ s5 = .int .u8 (c.toNat : Int) ∧ s16 = .int .u8 (c.toNat : Int) ∧ wr = wx)
      case first =>
        by_cases hcap : cr = 1
        · subst hcap
          obtain rfl : N = 0 := by omega
          have HR0 : Hid (r' = []) := List.eq_nil_of_length_eq_zero HN.out.symm
          go_wp2_with fail
          go_meet
          exact ⟨⟨_, _, rfl, by omega, by omega, .inl HR0.out⟩, rfl, rfl, rfl⟩
        · have HD : Hid (sliceAt w (some ⟨b, off + 1, none⟩) r') := sliceAt.drop (k := 1) HR.out
          go_wp2_with fail
          go_meet
          exact ⟨⟨some ⟨b, off + 1, none⟩, cr - 1, by go_num, by omega, by omega, HD.out⟩, rfl, rfl, rfl⟩
      case rest =>
        obtain ⟨⟨A, k, rfl, hk1, hk2, HA⟩, rfl, rfl, rfl⟩ := hcut
        clear hc0
        obtain ⟨out2, hout2⟩ : ∃ out2, out2 = out := ⟨_, rfl⟩
        go_upto_block 2 with fail
        go_cut [0, 5] (fun s0 s5 wx => (∃ A2 k2 r2 x, s0 = .slice A2 r2.length k2 ∧ r2.length ≤ k2 ∧ k2 ≤ 9223372036854775807 ∧ r2.length ≤ N ∧ s5 = .int .u8 ((x : UInt8).toNat : Int) ∧ Hid (sliceAt w A2 r2) ∧ Hid (qL (c :: r') = (qL r2).map (x :: ·))) ∧ Hid (wx.ownsRow w.heap.size 5 1 u4 out.length (out.map byteV)) ∧ Hid (Below w.heap.size w wx))
        case first =>
          by_cases q95 : c.toNat = 95
          · have hc95 : c = 95 := toNat_eq q95
            subst hc95
            have HQ : Hid (qL (95 :: r') = (qL r').map ((32 : UInt8) :: ·)) := qL_byte r' (by decide)
            have HN1 := HN.out
            subst HN1
            clear q95
            go_wp2
            go_meet
            exact ⟨⟨A, k, r', 32, rfl, hk1, hk2, Nat.le_refl _, rfl, HA, HQ⟩, HO, HB⟩
          · have t95 : ((c.toNat : Int) == 95) = false := beq_no (by omega)
            by_cases q61 : c.toNat = 61
            · have hc61 : c = 61 := toNat_eq q61
              subst hc61
              have HC := Lib.hid (HBy.out A k r' wr (sliceAt.below HA.out HB.out) (by rw [← HN.out]; exact hk1) hk2 (HEr.out.below HB.out))
              rw [← HN.out] at HC
              cases hx : codeQ r' with
              | some n =>
                obtain ⟨a, b2, r2, e2, hn, hq⟩ := codeQ_yes hx
                rw [hx] at HC
                have HQ := Lib.hid hq
                have HR2 : Hid (N = r2.length + 2) := by unfold Hid; rw [HN.out, e2]; rfl
                have HE2 := Lib.hid e2
                have hx8 : ((byteN n).toNat : Int) = (n : Int) := by rw [byteN_toNat n hn]
                have HX8 := Lib.hid hx8
                clear hx hq e2 q95 q61 hx8
                go_wp2_with fail
                with_reducible refine HC.out.mono ?_
                rintro e w1 ⟨hcv, hb1⟩
                unfold codeV at hcv
                subst hcv
                have HB1 := Lib.hid (HB.out.trans (hb1.mono HB.out.size))
                have HO1 := Lib.hid (ownsRow_below HO.out hb1)
                clear hb1
                have hNn := HR2.out
                by_cases hk3 : k = 2
                · subst hk3
                  have hr20 : r2 = [] := List.eq_nil_of_length_eq_zero (by omega)
                  subst hr20
                  obtain rfl : N = 2 := by simpa using hNn
                  clear hNn
                  go_wp2_with fail
                  go_meet
                  exact ⟨⟨_, _, [], byteN n, rfl, by simp, by omega, by simp, by rw [HX8.out], .inl rfl, HQ⟩, HO1, HB1⟩
                · have hk4 : 2 < k := by omega
                  rcases HA.out with e | ⟨ba, oa, rfl, hba, _⟩
                  · rw [HE2.out] at e; cases e
                  have HS2 : Hid (sliceAt w (some ⟨ba, oa + 2, none⟩) r2) := by
                    have := sliceAt.drop (k := 2) HA.out
                    rw [HE2.out] at this
                    exact this
                  subst hNn
                  go_wp2_with fail
                  go_meet
                  exact ⟨⟨some ⟨ba, oa + 2, none⟩, k - 2, r2, byteN n, by go_num, by omega, by omega, by omega, by rw [HX8.out], HS2, HQ⟩, HO1, HB1⟩
              | none =>
                rw [hx] at HC
                have HX : Hid (qL l = none) := by
                  unfold Hid
                  rw [HE.out, codeQ_no hx]
                  rfl
                clear hx q95 q61
                go_wp2_with fail
                with_reducible refine HC.out.mono ?_
                rintro e w1 ⟨hcv, hb1⟩
                unfold codeV at hcv
                obtain ⟨xv, rfl⟩ := hcv
                have HB1 := Lib.hid (HB.out.trans (hb1.mono HB.out.size))
                clear hb1
                go_wp2_with fail
                go_ret2
                exact gotQ_no HX.out HB1.out
            · have t61 : ((c.toNat : Int) == 61) = false := beq_no (by omega)
              have HQ : Hid (qL (c :: r') = (qL r').map (c :: ·)) := by
                unfold Hid
                rw [qL_byte r' (fun e => q61 (by rw [e]; rfl))]
                have : unders c = c := by unfold unders; rw [if_neg (fun e => q95 (by rw [e]; rfl))]
                rw [this]
              have HN1 := HN.out
              subst HN1
              clear q95 q61
              go_wp2
              go_meet
              exact ⟨⟨A, k, r', c, rfl, hk1, hk2, Nat.le_refl _, rfl, HA, HQ⟩, HO, HB⟩
        case rest =>
          obtain ⟨⟨A2, k2, r2, x, rfl, hk3, hk4, hk5, rfl, HA2, HQ⟩, HO2, HB2⟩ := hcut
          go_wp2_with (at_builtin; refine wpList_append_own _ rfl _ _ 26 rfl w.heap.size 5 i0 (.int .u8 0) 1 1 Tryd.underlying26 hi hz0 hz1 hz2 rfl (by decide) _ _ _ rfl (HO2.out.alloc _) ⟨wc.heap.size, 0, none⟩ 1 1 [byteV x] rfl rfl ?c1 ?c2 ?c3 ?c4 ?c5 ?_)
          case c1 => exact (sliceAt_new wc _ _ #[.int .u8 (x.toNat : Int)] [x] rfl).news
          case c2 => exact news_one [x]
          case c3 => unfold maxLen; omega
          case c4 => omega
          case c5 => simp; have := HB2.out.size; omega
          intro v3 w3 hown3 hgrow3 _
          have HO3 := Lib.hid hown3
          have HB3 : Hid (Below w.heap.size w w3) := (HB2.out.alloc (by have := HB2.out.size; omega) _).grown hgrow3 (by have := HB2.out.size; simp; omega) (fun q hq => (HO2.out.lt q hq).1)
          clear hown3 hgrow3
          go_wp2
          go_roundg r2.length
          case measure => simp; have := HN.out; omega
          case rel =>
            refine ⟨r2, out ++ [x], A2, k2, by omega, rfl, rfl, hk3, hk4, HA2, by simp; omega, ?_, ?_, HB3⟩
            · exact own_cast HO3.out (by simp) (by simp)
            · unfold Hid
              rw [HE.out, HQ.out, map_app]
    · have hr0 : r = [] := List.eq_nil_of_length_eq_zero (by omega)
      have HX : Hid (qL l = some out) := by
        unfold Hid
        rw [HE.out, hr0]
        simp [qL]
      clear hr0
      go_wp2
      go_ret2
      exact gotQ_yes HX.out (bytesArg_owned HO.out) HB.out
end Go.Proofs.YtolkjaebhhbilaaDoor
