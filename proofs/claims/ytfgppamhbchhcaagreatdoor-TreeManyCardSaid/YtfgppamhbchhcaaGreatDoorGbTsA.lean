/- The law TreeMany. -/
import Derived.Test.YtfgppamhbchhcaaGreatDoorGbTrJ
import Derived.Test.YtfgppamhbchhcaaGreatDoorGbTrZ
import Derived.Lib.AppendStr
namespace Go.Proofs.YtfgppamhbchhcaaGreatDoor
open Go Go.RowKit

theorem repQ_snoc (cr : Bool) (tx : List UInt8) : ∀ k, repQ cr tx (k + 1) = repQ cr tx k ++ partQ cr tx
  | 0 => by simp [repQ]
  | k + 1 => by
    have ih := repQ_snoc cr tx k
    show partQ cr tx ++ repQ cr tx (k + 1) = partQ cr tx ++ repQ cr tx k ++ partQ cr tx
    rw [ih, List.append_assoc]
def endB (feed : Bool) : ByteArray := ⟨(eL (!feed)).toArray⟩
theorem endB_list (feed : Bool) : (endB feed).data.toList = eL (!feed) := rfl
theorem endB_size (feed : Bool) : (endB feed).size = eK (!feed) := by cases feed <;> rfl
theorem strCells_map (s : ByteArray) : Lib.strCells s = s.data.toList.map byteV := rfl
def mhB : ByteArray := ⟨#[99, 111, 110, 116, 101, 110, 116, 45, 116, 121, 112, 101, 58, 32, 109, 117, 108, 116, 105, 112, 97, 114, 116, 47, 120, 59, 32, 98, 111, 117, 110, 100, 97, 114, 121, 61, 34, 113, 34]⟩
theorem mhB_list : mhB.data.toList = mhT := rfl
/-- A row of bytes, with a text behind it. -/
theorem row_text {w : World} {base n : Nat} {v : Value} {a : List UInt8} {s : ByteArray} (h : w.ownsRow base 5 1 v (a.length + s.size) (a.map byteV ++ Lib.strCells s)) {b : List UInt8} (hb : b = a ++ s.data.toList) (hn : n = b.length) : w.ownsRow base 5 1 v n (b.map byteV) := by
  subst hb hn
  refine own_cast h ?_ ?_
  · rw [List.length_append, len_toList]
  · rw [List.map_append, strCells_map]
theorem treeAt_keepB {S : Nat → Prop} {w w' : World} {t : Tr} {u : Value} (h : treeAt S w t u) (hb : Below w.heap.size w w') : treeAt S w' t u := treeAt.keep (fun q hS hq => ⟨hb.block q hq, hS⟩) _ _ h
theorem below_new (W : World) (o : Obj) : Below W.heap.size W (W.alloc o) := (Below.refl _ _).alloc (Nat.le_refl _) _
set_option maxRecDepth 100000 in
set_option maxHeartbeats 8000000 in
theorem treeMany_any (n : Nat) (s : ByteArray) (feed : Bool) (w : World) (hn : n ≤ 65535) (hs : s.size ≤ 9223372036854775807) (he : env w) :
    Calls Tryz.prog 3 #[.int .u16 (n : Int), .string s, .bool feed] w fun e w' => e = .returned (.bool true) ∧ Below w.heap.size w w' := by
  have HE := Lib.hid he
  have HAw := Lib.hid (awake_any w he)
  clear he
  obtain ⟨i0, hi, hz0, hz1, hz2⟩ := info_parts Tryz.infoU8
  have HI0 := Lib.hid hi
  have HZ0 := Lib.hid hz0
  have HZ1 := Lib.hid hz1
  have HZ2 := Lib.hid hz2
  clear hi hz0 hz1 hz2
  obtain ⟨K, hK, hK2⟩ : ∃ K, n % 1100 = K ∧ K < 1100 := ⟨_, rfl, Nat.mod_lt _ (by decide)⟩
  have m1 : (n : Int) % 1100 = (K : Int) := by omega
  have m2 : (n : Int).tmod 1100 = (K : Int) := by rw [Int.tmod_eq_emod_of_nonneg (by omega)]; exact m1
  clear hK
  by_cases h1 : 8 < s.size
  · go_enter Tryz.func3, Tryz.ntmps3
    go_wp2_with fail
    with_reducible refine HAw.out.mono ?_
    rintro e w1 ⟨rfl, hb1⟩
    have HB1 := Lib.hid hb1
    clear hb1
    go_wp2_with fail
    go_ret
    exact ⟨rfl, HB1.out⟩
  · go_enter Tryz.func3, Tryz.ntmps3
    go_wp2_with fail
    with_reducible refine HAw.out.mono ?_
    rintro e w1 ⟨rfl, hb1⟩
    have HB1 := Lib.hid hb1
    have HE1 := Lib.hid (HE.out.below hb1)
    clear hb1 HAw HE
    go_wp2_with fail
    go_loopg [9] s.size (fun q iv wr => ∃ (i : Nat), i ≤ s.size ∧ q = s.size - i ∧ iv = .int .i64 i ∧ Hid (∀ j, (h : j < s.size) → j < i → 97 ≤ s[j].toNat ∧ s[j].toNat ≤ 122) ∧ w1 = wr)
    case atStart => exact ⟨0, by omega, rfl, rfl, fun j _ h => by omega, rfl⟩
    case round =>
      obtain ⟨i, hi, rfl, rfl, HLt, rfl⟩ := hrel
      by_cases hlt : i < s.size
      · obtain ⟨c, hc⟩ : ∃ c, c = s[i] := ⟨_, rfl⟩
        have hct := c.toNat_lt
        by_cases h3 : c.toNat < 97
        · rw [hc] at h3
          go_wp2_with fail
          go_ret
          exact ⟨rfl, HB1.out⟩
        · by_cases h4 : 122 < c.toNat
          · rw [hc] at h3 h4
            go_wp2_with fail
            go_ret
            exact ⟨rfl, HB1.out⟩
          · rw [hc] at h3 h4
            have HL2 : Hid (∀ j, (h : j < s.size) → j < i + 1 → 97 ≤ s[j].toNat ∧ s[j].toNat ≤ 122) := fun j h hj => by
              rcases Nat.lt_or_ge j i with h5 | h5
              · exact HLt.out j h h5
              · obtain rfl : j = i := by omega
                exact ⟨by omega, by omega⟩
            go_wp2_with fail
            go_roundg (s.size - (i + 1))
            case measure => omega
            case rel => exact ⟨i + 1, by omega, rfl, by go_num, HL2, rfl⟩
      · obtain ⟨tx, htx⟩ : ∃ tx, tx = s.data.toList := ⟨_, rfl⟩
        have hlet : letQ tx := fun c hc => by
          rw [htx] at hc
          obtain ⟨j, hj, rfl⟩ := List.getElem_of_mem hc
          have hj' : j < s.size := by rw [len_toList] at hj; exact hj
          exact HLt.out j hj' (by omega)
        have htl : tx.length = s.size := by rw [htx, len_toList]
        have HLet := Lib.hid hlet
        have HTx := Lib.hid htx
        have HTl := Lib.hid htl
        clear hlet htx htl HLt
        go_upto_if 44 with fail
        go_cut [10] (fun v wx => v = .string (endB feed) ∧ w1 = wx)
        case first =>
          cases feed
          · go_wp2_with fail
            go_meet
            exact ⟨rfl, rfl⟩
          · go_wp2_with fail
            go_meet
            exact ⟨rfl, rfl⟩
        case rest =>
          obtain ⟨rfl, rfl⟩ := hcut
          have hEs : (endB feed).size ≤ 2 := by rw [endB_size]; exact (eK_two _).1
          obtain ⟨E, hE⟩ : ∃ E, E = endB feed := ⟨_, rfl⟩
          have hEl : E.data.toList = eL (!feed) := by rw [hE]; rfl
          rw [← hE] at hEs ⊢
          obtain ⟨cr, hcr⟩ : ∃ cr, cr = !feed := ⟨_, rfl⟩
          rw [← hcr] at hEl
          obtain ⟨Pt, hPt⟩ : ∃ Pt : ByteArray, Pt = ⟨#[45, 45, 113]⟩ ++ E ++ E ++ s ++ E := ⟨_, rfl⟩
          have hPl : Pt.data.toList = partQ cr tx := by
            rw [hPt, cat_toList, cat_toList, cat_toList, cat_toList, hEl, ← HTx.out]
            unfold partQ
            simp only [List.append_assoc]
            rfl
          have hNb : partN cr tx ≤ 17 := by
            have h2 := (eK_two cr).1
            have h3 := HTl.out
            unfold partN
            omega
          have hs8 : s.size ≤ 8 := by omega
          have hPs : Pt.size ≤ 17 := by rw [← len_toList, hPl, partQ_len]; exact hNb
          have HPt := Lib.hid hPt
          have HPl := Lib.hid hPl
          have HEl := Lib.hid hEl
          clear hE hcr hPt hPl hEl
          go_upto_region 16 with fail
          rw [← HPt.out]
          go_upto_region 17 with fail
          go_wp2_with (at_builtin; refine Lib.wpList_append_own_string _ rfl _ _ 24 9 rfl w1.heap.size 5 i0 Tryz.underlying24 Tryz.underlying9 HI0.out HZ0.out HZ1.out HZ2.out _ _ _ rfl (World.ownsRow_nil _ _ _ _) (mhB) rfl ?a1 ?b1 ?c1 ?_)
          case a1 => unfold maxLen; show 0 + 39 ≤ _; omega
          case b1 => show 0 + 39 ≤ _; omega
          case c1 => exact Nat.le_refl _
          intro v2 w2 hown2 hgrow2 _
          obtain ⟨A2, hA2⟩ : ∃ A2, A2 = mhT := ⟨_, rfl⟩
          have HO2 : Hid (w2.ownsRow w1.heap.size 5 1 v2 A2.length (A2.map byteV)) := row_text (a := []) hown2 (by rw [mhB_list, hA2]; rfl) rfl
          have hm1 : A2.length ≤ 39 := by rw [hA2]; exact Nat.le_refl _
          have HB2 : Hid (Below w1.heap.size w1 w2) := (Below.refl _ _).grown hgrow2 (Nat.le_refl _) (fun q hq => by cases hq)
          clear hown2 hgrow2
          have HA2 := Lib.hid hA2
          clear hA2
          go_wp2_with (at_builtin; refine Lib.wpList_append_own_string _ rfl _ _ 24 9 rfl w1.heap.size 5 i0 Tryz.underlying24 Tryz.underlying9 HI0.out HZ0.out HZ1.out HZ2.out _ _ _ rfl (HO2.out) (E) rfl ?a2 ?b2 ?c2 ?_)
          case a2 => unfold maxLen; omega
          case b2 => omega
          case c2 => exact HB2.out.size
          intro v3 w3 hown3 hgrow3 _
          obtain ⟨A3, hA3⟩ : ∃ A3, A3 = mhT ++ eL cr := ⟨_, rfl⟩
          have HO3 : Hid (w3.ownsRow w1.heap.size 5 1 v3 A3.length (A3.map byteV)) := row_text (a := A2) hown3 (by rw [HEl.out, HA2.out, hA3]) rfl
          have HB3 : Hid (Below w1.heap.size w1 w3) := HB2.out.grown hgrow3 HB2.out.size (fun q hq => (HO2.out.lt q hq).1)
          clear hown3 hgrow3
          have hm2 : A3.length ≤ 41 := by rw [hA3, List.length_append, eL_len]; have h2 := (eK_two cr).1; have h3 : mhT.length = 39 := rfl; omega
          have HA3 := Lib.hid hA3
          clear hA3
          go_wp2_with (at_builtin; refine Lib.wpList_append_own_string _ rfl _ _ 24 9 rfl w1.heap.size 5 i0 Tryz.underlying24 Tryz.underlying9 HI0.out HZ0.out HZ1.out HZ2.out _ _ _ rfl (HO3.out) (E) rfl ?a3 ?b3 ?c3 ?_)
          case a3 => unfold maxLen; omega
          case b3 => omega
          case c3 => exact HB3.out.size
          intro v4 w4 hown4 hgrow4 _
          obtain ⟨A4, hA4⟩ : ∃ A4, A4 = mhH cr ++ repQ cr tx 0 := ⟨_, rfl⟩
          have HO4 : Hid (w4.ownsRow w1.heap.size 5 1 v4 A4.length (A4.map byteV)) := row_text (a := A3) hown4 (by rw [HEl.out, HA3.out, hA4]; simp [mhH, repQ]) rfl
          have HA4 := Lib.hid hA4
          clear hA4
          have HB4 : Hid (Below w1.heap.size w1 w4) := HB3.out.grown hgrow4 HB3.out.size (fun q hq => (HO3.out.lt q hq).1)
          clear hown4 hgrow4 hm1 hm2
          have HRl : Hid (∀ i, i ≤ 1100 → (mhH cr ++ repQ cr tx i).length ≤ 20000) := fun i hi => by
            rw [List.length_append, mhH_len, repQ_len]
            have h2 := (eK_two cr).1
            have h3 : i * partN cr tx ≤ 1100 * 17 := Nat.mul_le_mul hi hNb
            omega
          go_wp2_with fail
          go_loopg [12, 13] (K + 1) (fun q x12 x13 wr => ∃ (i : Nat) (B : List UInt8), i ≤ K + 1 ∧ q = K + 1 - i ∧ x13 = .int .i64 (i : Int) ∧ Hid (B = mhH cr ++ repQ cr tx i) ∧ Hid (wr.ownsRow w1.heap.size 5 1 x12 B.length (B.map byteV)) ∧ Hid (Below w1.heap.size w1 wr))
          case atStart => exact ⟨0, A4, by omega, rfl, rfl, HA4.out, HO4.out, HB4.out⟩
          case round =>
            obtain ⟨i, B, hi, rfl, rfl, HBl, HO, HB⟩ := hrel
            by_cases hlt2 : i < K + 1
            · have hll : B.length ≤ 20000 := by rw [HBl.out]; exact HRl.out i (by omega)
              have hlti : (i : Int) < (K : Int) + 1 := by omega
              go_wp2_with (at_builtin; refine Lib.wpList_append_own_string _ rfl _ _ 24 9 rfl w1.heap.size 5 i0 Tryz.underlying24 Tryz.underlying9 HI0.out HZ0.out HZ1.out HZ2.out _ _ _ rfl (HO.out) (Pt) rfl ?a5 ?b5 ?c5 ?_)
              case a5 => unfold maxLen; omega
              case b5 => omega
              case c5 => exact HB.out.size
              intro v5 w5 hown5 hgrow5 _
              obtain ⟨B5, hB5⟩ : ∃ B5, B5 = mhH cr ++ repQ cr tx (i + 1) := ⟨_, rfl⟩
              have HO5 : Hid (w5.ownsRow w1.heap.size 5 1 v5 B5.length (B5.map byteV)) := row_text (a := B) hown5 (by rw [HPl.out, HBl.out, hB5, repQ_snoc, List.append_assoc]) rfl
              have HB5l := Lib.hid hB5
              clear hB5
              have HB5 : Hid (Below w1.heap.size w1 w5) := HB.out.grown hgrow5 HB.out.size (fun q hq => (HO.out.lt q hq).1)
              clear hown5 hgrow5
              go_wp2_with fail
              go_roundg (K + 1 - (i + 1))
              case measure => omega
              case rel => exact ⟨i + 1, B5, by omega, rfl, by go_num, HB5l.out, HO5, HB5⟩
            · obtain rfl : i = K + 1 := by omega
              have hll : B.length ≤ 20000 := by rw [HBl.out]; exact HRl.out (K + 1) (by omega)
              have hlti : ¬ (((K + 1 : Nat) : Int) < (K : Int) + 1) := by omega
              go_wp2_with (at_builtin; refine Lib.wpList_append_own_string _ rfl _ _ 24 9 rfl w1.heap.size 5 i0 Tryz.underlying24 Tryz.underlying9 HI0.out HZ0.out HZ1.out HZ2.out _ _ _ rfl (HO.out) (⟨#[45, 45, 113, 45, 45]⟩) rfl ?a6 ?b6 ?c6 ?_)
              case a6 => unfold maxLen; omega
              case b6 => omega
              case c6 => exact HB.out.size
              intro v6 w6 hown6 hgrow6 _
              obtain ⟨l, hl⟩ : ∃ l, l = mhH cr ++ (repQ cr tx (K + 1) ++ clQ) := ⟨_, rfl⟩
              have HO6 : Hid (w6.ownsRow w1.heap.size 5 1 v6 l.length (l.map byteV)) := row_text (a := B) hown6 (by rw [hl, HBl.out, List.append_assoc]; rfl) rfl
              have HB6 : Hid (Below w1.heap.size w1 w6) := HB.out.grown hgrow6 HB.out.size (fun q hq => (HO.out.lt q hq).1)
              have hlb : l.length ≤ 20005 := by rw [hl, ← List.append_assoc, ← HBl.out, List.length_append]; show _ + 5 ≤ _; omega
              have htr := many_tree cr tx HLet.out (K + 1) (by omega) l hl
              have HAg := Lib.hid (bytesArg_owned HO6.out)
              have HL := Lib.hid hl
              clear hown6 hgrow6 hl hll HO HB
              have HE6 := Lib.hid (HE1.out.below HB6.out)
              have HPa := Lib.hid (fun W v h1 h2 => treeParse_any v l W h1 (by omega) h2)
              unfold treePost at HPa
              obtain ⟨H, hH⟩ : ∃ H, H = 39 + 2 * eK cr := ⟨_, rfl⟩
              rw [← hH] at htr
              have HH := Lib.hid hH
              clear hH
              by_cases h9 : 999 < K + 1
              · rw [if_pos h9] at htr
                rw [htr] at HPa
                have h9i : (999 : Int) < (K : Int) + 1 := by omega
                have HPb : Hid (∀ W v, bytesArg W v l → env W → Calls Tryz.prog 9 #[v] W fun e w' => ∃ ka kc ca cc, e = .returned (.tuple #[.agg #[.int .i64 0, .int .i64 0, .int .i64 (H : Int), .int .i64 (H : Int), .int .i64 (l.length : Int), .slice ka 0 kc, .slice ca 0 cc, .int .i64 0, .int .i64 0], .int .i64 0]) ∧ Below W.heap.size W w') := fun W v h1 h2 => by
                  refine (HPa.out W v h1 h2).mono ?_
                  rintro e w' ⟨ka, kn, kc, ca, cn, cc, he, ht, hb⟩
                  obtain rfl : kn = 0 := kids_len ht
                  obtain ⟨ka', kn', kc', ca', cn', cc', us, hu, hcu, ho, hk⟩ := treeAt_open ht
                  simp only [Value.agg.injEq, Array.mk.injEq, List.cons.injEq, Value.slice.injEq] at hu
                  obtain ⟨_, _, _, _, _, ⟨rfl, rfl, rfl⟩, ⟨rfl, rfl, rfl⟩, _⟩ := hu
                  obtain rfl : cn = 0 := own_len hcu
                  exact ⟨ka, kc, ca, cc, he, hb⟩
                have HAg2 := HAg.out
                obtain ⟨ao, cap, rfl, hcp, hmx, _⟩ := HAg2
                clear HPa htr
                go_wp2_with fail
                with_reducible refine (HPb.out _ _ HAg.out HE6.out).mono ?_
                rintro e w8 ⟨ka, kc, ca, cc, rfl, hb8⟩
                have HB8 := Lib.hid (HB6.out.trans (hb8.mono HB6.out.size))
                clear hb8 HPb
                go_wp2_with fail
                go_ret
                exact ⟨rfl, HB1.out.trans ((HB8.out.trans ((below_new w8 (.cells #[.int .i64 0, .int .i64 0, .int .i64 (H : Int), .int .i64 (H : Int), .int .i64 (l.length : Int), .slice ka 0 kc, .slice ca 0 cc, .int .i64 0, .int .i64 0] 30)).mono HB8.out.size)).mono HB1.out.size)⟩
              · rw [if_neg h9] at htr
                rw [htr] at HPa
                have h9i : ¬ (999 : Int) < (K : Int) + 1 := by omega
                obtain ⟨T, hT⟩ : ∃ T, T = Tr.mk 1 (0, H) (H, l.length) (leavesQ cr tx (K + 1) H) (cutsQ cr tx (K + 1) H H) (endQ cr tx (K + 1) H H l.length) := ⟨_, rfl⟩
                have hTk : T.kids = leavesQ cr tx (K + 1) H := by rw [hT]; rfl
                have hTl : T.kids.length = K + 1 := by rw [hTk, leavesQ_len]
                have hTc : countT T = K + 2 := by rw [countT_eq, hTk, leavesQ_count]; omega
                have hTe : T.e.2 = l.length := by rw [hT]; exact endQ_first cr tx (K + 1) H H l.length
                have hT0 : T.kind = 1 ∧ T.hd = (0, H) ∧ T.bd = (H, l.length) := by rw [hT]; exact ⟨rfl, rfl, rfl⟩
                rw [← hT] at HPa
                rw [hT0.1, hT0.2.1, hT0.2.2, hTe] at HPa
                obtain ⟨e1, he1⟩ : ∃ e1, e1 = T.e.1 := ⟨_, rfl⟩
                rw [← he1] at HPa
                have HPb : Hid (∀ W v, bytesArg W v l → env W → Calls Tryz.prog 9 #[v] W fun e w' => ∃ ka kc ca cn cc, e = .returned (.tuple #[.agg #[.int .i64 1, .int .i64 0, .int .i64 (H : Int), .int .i64 (H : Int), .int .i64 (l.length : Int), .slice ka (K + 1) kc, .slice ca cn cc, .int .i64 (e1 : Int), .int .i64 (l.length : Int)], .int .i64 0]) ∧ treeAt (fun k => W.heap.size ≤ k) w' T (.agg #[.int .i64 1, .int .i64 0, .int .i64 (H : Int), .int .i64 (H : Int), .int .i64 (l.length : Int), .slice ka (K + 1) kc, .slice ca cn cc, .int .i64 (e1 : Int), .int .i64 (l.length : Int)]) ∧ Below W.heap.size W w') := fun W v h1 h2 => by
                  refine (HPa.out W v h1 h2).mono ?_
                  rintro e w' ⟨ka, kn, kc, ca, cn, cc, he, ht, hb⟩
                  have hkn := kids_len ht
                  rw [hTl] at hkn
                  subst hkn
                  exact ⟨ka, kc, ca, cn, cc, he, ht, hb⟩
                have HAg2 := HAg.out
                obtain ⟨ao, cap, rfl, hcp, hmx, _⟩ := HAg2
                have HTk := Lib.hid hTk
                clear HPa htr hT hTk hT0 hTe he1
                go_wp2_with fail
                with_reducible refine (HPb.out _ _ HAg.out HE6.out).mono ?_
                rintro e w8 ⟨ka, kc, ca, cn, cc, rfl, ht, hb8⟩
                have HB8 := Lib.hid (HB6.out.trans (hb8.mono HB6.out.size))
                have hbX := below_new w8 (.cells #[.int .i64 1, .int .i64 0, .int .i64 (H : Int), .int .i64 (H : Int), .int .i64 (l.length : Int), .slice ka (K + 1) kc, .slice ca cn cc, .int .i64 (e1 : Int), .int .i64 (l.length : Int)] 30)
                have HCn := Lib.hid (count_any _ T (Nat.le_refl _) _ (w8.alloc (.cells #[.int .i64 1, .int .i64 0, .int .i64 (H : Int), .int .i64 (H : Int), .int .i64 (l.length : Int), .slice ka (K + 1) kc, .slice ca cn cc, .int .i64 (e1 : Int), .int .i64 (l.length : Int)] 30)) _ (treeAt_keepB ht hbX) (by omega))
                rw [hTc] at HCn
                have HLl := Lib.hid (heap_alloc_new w8 (.cells #[.int .i64 1, .int .i64 0, .int .i64 (H : Int), .int .i64 (H : Int), .int .i64 (l.length : Int), .slice ka (K + 1) kc, .slice ca cn cc, .int .i64 (e1 : Int), .int .i64 (l.length : Int)] 30))
                have HB9 := Lib.hid hbX
                have HAg8 := Lib.hid (HAg.out.below hb8)
                obtain ⟨ka', kn', kc', ca', cn', cc', us, hu, hcu, ho, hk⟩ := treeAt_open ht
                simp only [Value.agg.injEq, Array.mk.injEq, List.cons.injEq, Value.slice.injEq] at hu
                obtain ⟨-, -, -, -, -, ⟨rfl, rfl, rfl⟩, -⟩ := hu
                have hkat := (kids_at ho hk).2.2.2
                have hkm := (kids_at ho hk).2.2.1
                rw [HTk.out] at hkat
                have HKt := Lib.hid hkat
                unfold maxLen at hkm
                have t1 : ((1 : Int) != 1) = false := by decide
                have t2 : (((K : Int) + 1) != ((K : Int) + 1)) = false := bne_no rfl
                have t2' : (((K + 1 : Nat) : Int) != ((K : Int) + 1)) = false := bne_no (by omega)
                have t3 : ((l.length : Int) != (l.length : Int)) = false := bne_no rfl
                have t4 : (((K + 2 : Nat) : Int) != ((K : Int) + 1 + 1)) = false := bne_no (by omega)
                have t4' : ((K : Int) + 2 != ((K : Int) + 1 + 1)) = false := bne_no (by omega)
                have t4'' : ((K : Int) + 2 != ((K : Int) + 2)) = false := bne_no rfl
                clear ht hb8 hbX hcu ho hk hkat hTl hTc HPb
                go_wp2_with fail
                with_reducible refine (HCn.out).mono ?_
                rintro e w10 ⟨rfl, hb10⟩
                have HB10 := Lib.hid (HB9.out.trans (hb10.mono HB9.out.size))
                have HL10 : Hid (w10.heap[w8.heap.size]? = some (.cells #[.int .i64 1, .int .i64 0, .int .i64 (H : Int), .int .i64 (H : Int), .int .i64 (l.length : Int), .slice ka (K + 1) kc, .slice ca cn cc, .int .i64 (e1 : Int), .int .i64 (l.length : Int)] 30 (0, 0))) := (hb10.block _ (Array.getElem?_eq_some_iff.1 HLl.out).1).trans HLl.out
                have HLt10 : Hid (w8.heap.size < w10.heap.size) := (Array.getElem?_eq_some_iff.1 HL10.out).1
                clear hb10 HCn
                go_wp2_with fail
                go_loopg [16] (K + 1) (fun q x16 wr => ∃ i : Nat, i ≤ K + 1 ∧ q = K + 1 - i ∧ x16 = .int .i64 (i : Int) ∧ Hid (Below w10.heap.size w10 wr))
                case atStart => exact ⟨0, by omega, rfl, rfl, Below.refl _ _⟩
                case round =>
                  clear t1 t2 t2' t3 t4 t4' t4''
                  obtain ⟨i, hi, rfl, rfl, HBr⟩ := hrel
                  have hlr : wr.heap[w8.heap.size]? = some (.cells #[.int .i64 1, .int .i64 0, .int .i64 (H : Int), .int .i64 (H : Int), .int .i64 (l.length : Int), .slice ka (K + 1) kc, .slice ca cn cc, .int .i64 (e1 : Int), .int .i64 (l.length : Int)] 30 (0, 0)) := (HBr.out.block _ HLt10.out).trans HL10.out
                  have c5 : wr.cell? ⟨w8.heap.size, 5, none⟩ = some (.slice ka (K + 1) kc) := by simp [World.cell?, hlr]
                  clear hlr
                  by_cases hlt3 : i < K + 1
                  · have hlti : (i : Int) < (K : Int) + 1 := by omega
                    have hii : i < (leavesQ cr tx (K + 1) H).length := by rw [leavesQ_len]; exact hlt3
                    obtain ⟨g, ga, gn, gc, ga2, gn2, gc2, rfl, hg, _, h9', _⟩ := HKt.out i hii
                    obtain ⟨bb, q1, q2, q3⟩ := many_kid cr tx (K + 1) (mhH cr) l i HL.out (by rw [mhH_len, ← HH.out]; exact hii)
                    simp only [mhH_len, ← HH.out] at q1
                    have HB8r := HB10.out.trans (HBr.out.mono HB10.out.size)
                    obtain ⟨_, _, _, p3, p4, _⟩ := h9'.block (HB8r.block g hg)
                    rw [q1] at p3 p4
                    have hbx := HB8r.alloc HB8r.size (.cells #[.int .i64 (bb : Int), .int .i64 ((bb + tx.length : Nat) : Int)] 26)
                    have HBx := Lib.hid (HBr.out.alloc HBr.out.size (.cells #[.int .i64 (bb : Int), .int .i64 ((bb + tx.length : Nat) : Int)] 26))
                    obtain ⟨ao', cap', hv', hcp', hmx', hsl⟩ := HAg8.out.below hbx
                    obtain ⟨rfl, _, rfl⟩ := Value.slice.inj hv'
                    have hsl2 : sliceAt (wr.alloc (.cells #[.int .i64 (bb : Int), .int .i64 ((bb + tx.length : Nat) : Int)] 26)) ao l := hsl
                    have hq3 : (⟨(partS l bb (bb + tx.length)).toArray⟩ : ByteArray) = s := by
                      rw [q3, HTx.out]
                    obtain ⟨tb, htb⟩ : ∃ tb, tb = bb + tx.length := ⟨_, rfl⟩
                    rw [← htb] at p4 q2 HBx hsl2 hq3
                    have hbt : bb ≤ tb := by omega
                    have hss : (s.toList != s.toList) = false := by simp
                    have n1 : decide ((bb : Int) < 0) = false := decide_eq_false (by omega)
                    have n2 : decide ((tb : Int) < (bb : Int)) = false := decide_eq_false (by omega)
                    have n3 : decide ((l.length : Int) < (tb : Int)) = false := decide_eq_false (by omega)
                    have n2' : decide (tb < bb) = false := decide_eq_false (by omega)
                    have n3' : decide (l.length < tb) = false := decide_eq_false (by omega)
                    clear h9' q1 q3 hbx hsl hv' HB8r htb hcp' hmx'
                    by_cases hcF : cap = bb
                    · have hcv := cut_string0 (W := wr.alloc (.cells #[.int .i64 (bb : Int), .int .i64 (tb : Int)] 26)) (ao := ao) hbt q2 (by omega)
                      rw [hq3] at hcv
                      subst hcF
                      clear hq3 hsl2
                      go_wp2_with fail
                      go_roundg (K + 1 - (i + 1))
                      case measure => omega
                      case rel => exact ⟨i + 1, by omega, rfl, by go_num, HBx.out⟩
                    · have hcv := cut_string hsl2 hbt q2 hcp hmx
                      rw [hq3] at hcv
                      unfold maxLen at hmx
                      clear hq3 hsl2
                      go_wp2_with fail
                      go_roundg (K + 1 - (i + 1))
                      case measure => omega
                      case rel => exact ⟨i + 1, by omega, rfl, by go_num, HBx.out⟩
                  · obtain rfl : i = K + 1 := by omega
                    have hlti : ¬ (((K + 1 : Nat) : Int) < (K : Int) + 1) := by omega
                    go_wp2_with fail
                    go_ret
                    exact ⟨rfl, HB1.out.trans ((HB8.out.trans ((HB10.out.trans (HBr.out.mono HB10.out.size)).mono HB8.out.size)).mono HB1.out.size)⟩
end Go.Proofs.YtfgppamhbchhcaaGreatDoor
