/- Contracts of package section: names, cut. -/
import Derived.Test.YthcleaflhljdlaaGreatDoorSeE
namespace Go.Proofs.YthcleaflhljdlaaGreatDoor
open Go Go.RowKit

def NmsIs (B S : Nat) (s : ByteArray) (vp : Value) (q : Int) (w : World) (o : Option (List (List UInt8) × List UInt8)) (e : Ending) (w' : World) : Prop :=
  match o with
  | some (ns, r) => e = .returned (.bool true) ∧ ∃ (k' : Nat) (vn : Value), Rd w' B s k' ∧ k' ≤ s.size ∧ s.data.toList.drop k' = r ∧ Box w' S vp q vn false 0 0 ∧ w'.ownsRow w.heap.size 9 1 vn ns.length (ns.map strV) ∧ G2 B S w w'
  | none => e = .returned (.bool false) ∧ ∃ (k' : Nat) (ao : Option Addr) (n cap : Nat), Rd w' B s k' ∧ k' ≤ s.size ∧ Box w' S vp q (.slice ao n cap) false 0 0 ∧ G2 B S w w'
theorem nmsL_bad {n : Nat} {l : List UInt8} {acc : List (List UInt8)} (h : nameL l = none) : nmsL (n + 1) l acc = none := by
  unfold nmsL
  rw [h]
theorem nmsL_more {n : Nat} {l a r r' : List UInt8} {acc : List (List UInt8)} (h : nameL l = some (a, r)) (h1 : takeP [32] r = some r') : nmsL (n + 1) l acc = nmsL n r' (acc ++ [a]) := by
  conv => lhs; unfold nmsL
  rw [h]
  simp only
  rw [h1]
theorem nmsL_last {n : Nat} {l a r r' : List UInt8} {acc : List (List UInt8)} (h : nameL l = some (a, r)) (h1 : takeP [32] r = none) (h2 : takeP [41] r = some r') : nmsL (n + 1) l acc = some (acc ++ [a], r') := by
  unfold nmsL
  rw [h]
  simp only
  rw [h1]
  simp only
  rw [h2]
theorem nmsL_off {n : Nat} {l a r : List UInt8} {acc : List (List UInt8)} (h : nameL l = some (a, r)) (h1 : takeP [32] r = none) (h2 : takeP [41] r = none) : nmsL (n + 1) l acc = none := by
  unfold nmsL
  rw [h]
  simp only
  rw [h1]
  simp only
  rw [h2]
theorem nameTx_pos {t a : List UInt8} (h : NameTx t a) : 0 < t.length := by
  cases h with
  | atom _ h _ => exact List.length_pos_iff.2 h
  | quo => simp [quoteL]
theorem Tryz.infoStrS : (Tryz.prog.info? 9).map (fun i => (i.zero, i.size, i.bytes)) = some (some (.string ⟨#[]⟩), 1, 16) := by kernel_rfl

set_option maxRecDepth 100000 in
set_option maxHeartbeats 4000000 in
theorem names_any (B S : Nat) (s : ByteArray) (k : Nat) (vp : Value) (q : Int) (w : World) (hr : Rd w B s k) (hx : Box w S vp q nilV false 0 0) (hBS : B ≠ S) (hl : s.size ≤ 1000000000) (hk : k ≤ s.size) :
    Calls Tryz.prog 34 #[.pointer (some ⟨B, 0, none⟩), .pointer (some ⟨S, 0, none⟩)] w (NmsIs B S s vp q w (namesL (s.data.toList.drop k))) := by
  obtain ⟨i0, hi, hz⟩ := Option.map_eq_some_iff.1 Tryz.infoStrS
  simp only [Prod.mk.injEq] at hz
  obtain ⟨hz0, hz1, hz2⟩ := hz
  have hBw := hr.lt
  have hSw := hx.lt
  have HX := Lib.hid hx
  have HNm := Lib.hid (fun j W hr hk => name_sec B s j W hr hl hk)
  unfold QuoIs at HNm
  have HTy := Lib.hid (fun j l p q r W hq hp hd h hr hk => takes_yes B s j l p q r W hq hp hd h hr hl hk)
  have HTn := Lib.hid (fun j l p q W hq hp hd h hr hk => takes_no B s j l p q W hq hp hd h hr hl hk)
  cases h0 : takeP [32, 40] (s.data.toList.drop k) with
  | none =>
    have HT0 := Lib.hid (HTn.out k _ [32, 40] ⟨#[32, 40]⟩ w rfl (by decide) rfl h0 hr hk)
    have HE : Hid (namesL (s.data.toList.drop k) = some ([], s.data.toList.drop k)) := by unfold Hid namesL; rw [h0]
    clear hr hx h0
    go_enter Tryz.func34, Tryz.ntmps34
    go_wp2_with fail
    go_step3
    go_wp2_with fail
    with_reducible refine HT0.out.mono ?_
    rintro e w1 ⟨rfl, hR1, hG1⟩
    go_wp2_with fail
    go_ret
    rw [HE.out]
    exact ⟨rfl, k, nilV, hR1, hk, rfl, HX.out.gr hG1 hBS.symm, ⟨rfl, .inl ⟨rfl, rfl⟩⟩, (G2.refl _ _ _).gr hG1⟩
  | some r0 =>
    have HT0 := Lib.hid (HTy.out k _ [32, 40] ⟨#[32, 40]⟩ r0 w rfl (by decide) rfl h0 hr hk)
    have HE : Hid (namesL (s.data.toList.drop k) = nmsL (r0.length + 1) r0 []) := by unfold Hid namesL; rw [h0]
    clear hr hx h0
    go_enter Tryz.func34, Tryz.ntmps34
    go_wp2_with fail
    go_step3
    go_wp2_with fail
    with_reducible refine HT0.out.mono ?_
    rintro e w0 ⟨rfl, k0, hR0, hk0, hD0, hG0⟩
    have HR0 := Lib.hid hR0
    have HX0 := Lib.hid (HX.out.gr hG0 hBS.symm)
    have HG0 := Lib.hid ((G2.refl B S w).gr hG0)
    have HD0 := Lib.hid hD0
    clear hR0 hG0 hD0 HT0 HX
    go_wp2_with fail
    go_step3
    go_wp2_with fail
    go_loopg [] (s.size - k0) (fun g wr => ∃ (j n : Nat) (acc : List (List UInt8)) (vn : Value), g = s.size - j ∧ j ≤ s.size ∧ acc.length ≤ j ∧ (s.data.toList.drop j).length < n ∧ Hid (Rd wr B s j) ∧ Hid (Box wr S vp q vn false 0 0) ∧ Hid (wr.ownsRow w.heap.size 9 1 vn acc.length (acc.map strV)) ∧ Hid (G2 B S w wr) ∧
      Hid (namesL (s.data.toList.drop k) = nmsL n (s.data.toList.drop j) acc))
    case atStart => exact ⟨k0, _, [], nilV, rfl, hk0, by simp, Nat.lt_succ_self _, HR0.out, HX0.out, ⟨rfl, .inl ⟨rfl, rfl⟩⟩, HG0.out, by unfold Hid; rw [HE.out, HD0.out]⟩
    case round =>
      obtain ⟨j, n, acc, vn, rfl, hj, hal, hn, HRj, HBx, HO, HG, HS⟩ := hrel
      obtain ⟨n, rfl⟩ : ∃ m, n = m + 1 := ⟨n - 1, by omega⟩
      have HNL := Lib.hid hn
      clear hn
      have HN1 := HNm.out j wr HRj.out hj
      cases h1 : nameL (s.data.toList.drop j) with
      | none =>
        rw [h1] at HN1
        have HN1 := Lib.hid HN1
        have HA1 := Lib.hid (nmsL_bad (n := n) (acc := acc) h1)
        clear h1
        go_wp2_with fail
        with_reducible refine HN1.out.mono ?_
        rintro e w1 ⟨T, j1, rfl, hR1, hj1, hG1⟩
        have HR1 := Lib.hid hR1
        have HG1 := Lib.hid (HG.out.gr hG1)
        have HBx1 := Lib.hid (HBx.out.gr hG1 hBS.symm)
        clear hR1 hG1
        go_wp2_with fail
        rw [Exit.noGoto_ret]
        go_ret
        rw [HS.out, HA1.out]
        obtain ⟨ao, cap, hvn⟩ := own_slice HO.out
        have hb := HBx1.out
        rw [hvn] at hb
        exact ⟨rfl, j1, _, _, _, HR1.out, hj1, hb, HG1.out⟩
      | some ar =>
        obtain ⟨an, r1⟩ := ar
        rw [h1] at HN1
        have HN1 := Lib.hid HN1
        simp only at HN1
        have HN0 := Lib.hid h1
        have HT0 := Lib.hid (nameL_sound h1)
        clear h1
        go_wp2_with fail
        with_reducible refine HN1.out.mono ?_
        rintro e w1 ⟨T, j1, rfl, hT, hTs, hR1, hj1, hD1, hG1⟩
        obtain rfl : T = ⟨an.toArray⟩ := bytes_eq (by rw [hT])
        have HR1 := Lib.hid hR1
        have HG1 := Lib.hid (HG.out.gr hG1)
        have HBx1 := Lib.hid (HBx.out.gr hG1 hBS.symm)
        have HO1 := Lib.hid (own_gr HO.out hG1 hBw)
        have HD1 := Lib.hid hD1
        have hlt : j + 1 ≤ j1 := by
          obtain ⟨t, e1, e2⟩ := HT0.out
          have e3 := drop_len hj hj1 (by rw [e1, hD1])
          have e4 := nameTx_pos e2
          omega
        have HZ1 : Hid (w.heap.size ≤ w1.heap.size) := HG1.out.size
        have c0 := HBx1.out.c.2.2.1
        have f0 := HBx1.out.f 2
        have hSW := HBx1.out.lt
        have e0 : (w1.alloc (.cells #[.string ⟨an.toArray⟩] 9)).cell? ⟨S, 2, none⟩ = some vn := ((Below.refl w1.heap.size w1).alloc (Nat.le_refl _) _).cell (p := ⟨S, 2, none⟩) hSW |>.trans c0
        clear hT hTs hR1 hG1 hD1 HN1 HG HBx HO HRj
        go_wp2_with (at_builtin; refine wpList_append_own _ rfl _ _ 24 rfl w.heap.size 9 i0 (.string ⟨#[]⟩) 1 16 Tryz.underlying24 hi hz0 hz1 hz2 rfl (by decide) _ _ _ rfl (HO1.out.alloc _) ⟨w1.heap.size, 0, none⟩ 1 1 [.string ⟨an.toArray⟩] rfl rfl ?c1 ?c2 ?c3 ?c4 ?c5 ?_)
        case c1 => exact cell_one_new w1 _ _
        case c2 => intro u hu; simp at hu; subst hu; rfl
        case c3 => unfold maxLen; omega
        case c4 => omega
        case c5 => have := HZ1.out; simp; omega
        intro v' w2 hown2 hgrow2 _
        obtain ⟨gv, cv, hv', _⟩ := ownsRow_slice hown2 (by omega)
        subst hv'
        have hge := own_ge HO1.out
        have HA := Lib.hid ((Below.refl w1.heap.size w1).alloc (Nat.le_refl _) (.cells #[.string ⟨an.toArray⟩] 9))
        have HBx2 := Lib.hid (grown_box (HBx1.out.below HA.out) hgrow2 hge hSw)
        have HR2 := Lib.hid (grown_rd (HR1.out.below HA.out) hgrow2 hge hBw)
        have HG2 := Lib.hid ((HG1.out.below HA.out).own hgrow2 hge)
        have HO2 := Lib.hid hown2
        have f0' := HBx2.out.f 2
        have c0' := HBx2.out.c.2.2.1
        have HR3 := Lib.hid (HR2.out.other 2 (.slice (some ⟨gv, 0, none⟩) (acc.length + 1) cv) hBS)
        have HBx3 := Lib.hid (HBx2.out.set2 (.slice (some ⟨gv, 0, none⟩) (acc.length + 1) cv))
        have HO3 := Lib.hid (own_set (j := 2) (u := .slice (some ⟨gv, 0, none⟩) (acc.length + 1) cv) HO2.out hSw)
        have HG3 := Lib.hid (HG2.out.set 2 (.slice (some ⟨gv, 0, none⟩) (acc.length + 1) cv))
        have HMap : Hid (acc.map strV ++ [.string ⟨an.toArray⟩] = (acc ++ [an]).map strV) := by unfold Hid; simp [strV]
        rw [HMap.out] at HO3
        clear hown2 hgrow2 hge HA HBx1 HR1 HG1 HO1 HBx2 HR2 HG2 HO2 c0 f0 e0
        cases h2 : takeP [32] (s.data.toList.drop j1) with
        | some r =>
          have HT := Lib.hid (fun W hr => HTy.out j1 _ [32] ⟨#[32]⟩ r W rfl (by decide) rfl h2 hr hj1)
          have HT2 := Lib.hid ((takeP_iff _ _ _).1 h2)
          rw [HD1.out] at h2
          have HA1 := Lib.hid (nmsL_more (n := n) (acc := acc) HN0.out h2)
          clear h2
          go_wp2_with fail
          with_reducible refine (HT.out _ HR3.out).mono ?_
          rintro e w4 ⟨rfl, j4, hR4, hj4, hD4, hG4⟩
          have hj14 : j4 = j1 + 1 := drop_len (a := [32]) hj1 hj4 (by rw [HT2.out, hD4])
          have HJ := Lib.hid hj14
          have HR4 := Lib.hid hR4
          have HD4 := Lib.hid hD4
          have HBx4 := Lib.hid (HBx3.out.gr hG4 hBS.symm)
          have HO4 := Lib.hid (own_gr HO3.out hG4 hBw)
          have HG4 := Lib.hid (HG3.out.gr hG4)
          clear hR4 hG4 hD4 hj14
          go_wp2_with fail
          go_roundg (s.size - j4)
          case measure => have := HJ.out; omega
          case rel =>
            refine ⟨j4, n, acc ++ [an], _, rfl, hj4, by have := HJ.out; simp; omega, ?_, HR4.out, HBx4.out, wsCast HO4.out (by simp) rfl, HG4.out, ?_⟩
            · have h1 := HNL.out
              have h2 := HJ.out
              simp only [List.length_drop, len_toList] at h1 ⊢
              omega
            · unfold Hid
              rw [HS.out, HA1.out, HD4.out]
        | none =>
          have HT := Lib.hid (fun W hr => HTn.out j1 _ [32] ⟨#[32]⟩ W rfl (by decide) rfl h2 hr hj1)
          rw [HD1.out] at h2
          have H2 := Lib.hid h2
          clear h2
          cases h3 : takeP [41] (s.data.toList.drop j1) with
          | some r =>
            have HT3 := Lib.hid (fun W hr => HTy.out j1 _ [41] ⟨#[41]⟩ r W rfl (by decide) rfl h3 hr hj1)
            rw [HD1.out] at h3
            have HA1 := Lib.hid (nmsL_last (n := n) (acc := acc) HN0.out H2.out h3)
            clear h3
            go_wp2_with fail
            with_reducible refine (HT.out _ HR3.out).mono ?_
            rintro e w4 ⟨rfl, hR4, hG4⟩
            have HT4 := Lib.hid (HT3.out w4 hR4)
            have HBx4 := Lib.hid (HBx3.out.gr hG4 hBS.symm)
            have HO4 := Lib.hid (own_gr HO3.out hG4 hBw)
            have HG4 := Lib.hid (HG3.out.gr hG4)
            clear hR4 hG4
            go_wp2_with fail
            with_reducible refine HT4.out.mono ?_
            rintro e w5 ⟨rfl, j5, hR5, hj5, hD5, hG5⟩
            have HR5 := Lib.hid hR5
            have HD5 := Lib.hid hD5
            have HBx5 := Lib.hid (HBx4.out.gr hG5 hBS.symm)
            have HO5 := Lib.hid (own_gr HO4.out hG5 hBw)
            have HG5 := Lib.hid (HG4.out.gr hG5)
            clear hR5 hG5 hD5
            go_wp2_with fail
            rw [Exit.noGoto_ret]
            go_ret
            rw [HS.out, HA1.out]
            exact ⟨rfl, j5, _, HR5.out, hj5, HD5.out, HBx5.out, wsCast HO5.out (by simp) rfl, HG5.out⟩
          | none =>
            have HT3 := Lib.hid (fun W hr => HTn.out j1 _ [41] ⟨#[41]⟩ W rfl (by decide) rfl h3 hr hj1)
            rw [HD1.out] at h3
            have HA1 := Lib.hid (nmsL_off (n := n) (acc := acc) HN0.out H2.out h3)
            clear h3
            go_wp2_with fail
            with_reducible refine (HT.out _ HR3.out).mono ?_
            rintro e w4 ⟨rfl, hR4, hG4⟩
            have HT4 := Lib.hid (HT3.out w4 hR4)
            have HBx4 := Lib.hid (HBx3.out.gr hG4 hBS.symm)
            have HG4 := Lib.hid (HG3.out.gr hG4)
            clear hR4 hG4
            go_wp2_with fail
            with_reducible refine HT4.out.mono ?_
            rintro e w5 ⟨rfl, hR5, hG5⟩
            have HR5 := Lib.hid hR5
            have HBx5 := Lib.hid (HBx4.out.gr hG5 hBS.symm)
            have HG5 := Lib.hid (HG4.out.gr hG5)
            clear hR5 hG5
            go_wp2_with fail
            rw [Exit.noGoto_ret]
            go_ret
            rw [HS.out, HA1.out]
            exact ⟨rfl, j1, _, _, _, HR5.out, hj1, HBx5.out, HG5.out⟩
end Go.Proofs.YthcleaflhljdlaaGreatDoor
