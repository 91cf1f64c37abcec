/- Contracts of package addr: a box; words ahead of one. -/
import Derived.Test.YtjlcphofkepajaaGreatAdI
namespace Go.Proofs.YtjlcphofkepajaaGreat
open Go Go.RowKit

theorem Does.kp {base B : Nat} {s : ByteArray} {b : Bool} {al0 : List Adr} {w w1 : World} {r : Res} {e : Ending} {w' : World} (h : Does base B s b al0 w1 r e w') (k : Kp B w w1) : Does base B s b al0 w r e w' := ⟨h.1, h.2.1, k.trans h.2.2⟩
set_option maxRecDepth 100000 in
set_option maxHeartbeats 2000000 in
theorem box_any (base B : Nat) (s : ByteArray) (ts : List Tok) (b : Bool) (al0 : List Adr) (v : Value) (ws : List (List UInt8)) (w : World) (h : St w base B s ts b al0) (hv : Ws w B v ws) (hw : wsW ws ≤ 4000000000) (hl : s.size ≤ 1000000000) (hn : al0.length ≤ 1000000000000) :
    Calls Tryz.prog 25 #[.pointer (some ⟨B, 0, none⟩), v] w (Does base B s b al0 w (boxT ws ts)) := by
  obtain ⟨ao, cap, rfl⟩ := hv.shape
  have HT := Lib.hid (takesS_any base B s ts b al0 60 60 rfl w h hl)
  have HV := Lib.hid hv
  clear h hv
  rcases hx : takesT 60 ts with ⟨b1, t1⟩
  rw [hx] at HT
  cases b1 with
  | false =>
    have HP : Hid (boxT ws ts = if ws.isEmpty then (true, t1, []) else placeT [] ws t1) := by unfold Hid boxT; rw [hx]
    have HPl := Lib.hid (fun W h hv => place_any base B s t1 b al0 [] (.slice ao ws.length cap) ws W h hv hw hl hn)
    clear hx
    rcases Bool.eq_false_or_eq_true ws.isEmpty with he | he
    · rw [he] at HP
      have bN : ((ws.length : Int) == 0) = true := by rw [len_zero, he]
      clear he
      go_enter Tryz.func25, Tryz.ntmps25
      go_wp2_with fail
      with_reducible refine HT.out.mono ?_
      rintro e w1 ⟨rfl, hs1, hk1⟩
      have HS1 := Lib.hid hs1
      have HK1 := Lib.hid hk1
      clear hs1 hk1 HT
      go_wp2_with fail
      go_ret
      rw [HP.out]
      exact ⟨rfl, by simpa using HS1.out, HK1.out⟩
    · rw [he] at HP
      have bN : ((ws.length : Int) == 0) = false := by rw [len_zero, he]
      clear he
      go_enter Tryz.func25, Tryz.ntmps25
      go_wp2_with fail
      with_reducible refine HT.out.mono ?_
      rintro e w1 ⟨rfl, hs1, hk1⟩
      have HK1 := Lib.hid hk1
      have HX := Lib.hid (HPl.out w1 hs1 (HV.out.kp hk1))
      clear hs1 hk1 HT
      go_wp2_with fail
      with_reducible refine HX.out.mono ?_
      rintro e w2 hd
      obtain ⟨rfl, hs2, hk2⟩ := hd
      have HS2 := Lib.hid hs2
      have HK2 := Lib.hid (HK1.out.trans hk2)
      clear hs2 hk2
      go_wp2_with fail
      go_ret
      rw [HP.out]
      exact ⟨rfl, HS2.out, HK2.out⟩
  | true =>
    have HWay := Lib.hid (fun W h => way_any base B s t1 b al0 W h hl)
    rcases hy : wayT t1 with ⟨b2, t2⟩
    rw [hy] at HWay
    cases b2 with
    | false =>
      have HP : Hid (boxT ws ts = (false, t2, [])) := by unfold Hid boxT; rw [hx]; simp only [hy]
      clear hx hy
      go_enter Tryz.func25, Tryz.ntmps25
      go_wp2_with fail
      with_reducible refine HT.out.mono ?_
      rintro e w1 ⟨rfl, hs1, hk1⟩
      have HK1 := Lib.hid hk1
      have HX := Lib.hid (HWay.out w1 hs1)
      clear hs1 hk1 HT
      go_wp2_with fail
      with_reducible refine HX.out.mono ?_
      rintro e w2 ⟨rfl, hs2, hk2⟩
      have HS2 := Lib.hid hs2
      have HK2 := Lib.hid (HK1.out.trans hk2)
      clear hs2 hk2
      go_wp2_with fail
      go_ret
      rw [HP.out]
      exact ⟨rfl, by rw [List.append_nil]; exact HS2.out, HK2.out⟩
    | true =>
      have HNm := Lib.hid (fun W (h : Ws W B (.slice ao ws.length cap) ws) => named_any _ ws 0 W h.1 hw)
      have HWs := Lib.hid (fun W h => wordsS_any base B s t2 b al0 W h hl)
      have HWt := Lib.hid (wordsT_wt t2)
      rcases hz : wordsT t2 with ⟨us, t3⟩
      rw [hz] at HWs HWt
      have HPl := Lib.hid (fun v W h hv hu => place_any base B s t3 b al0 (Lib.join ws [32]) v us W h hv hu hl hn)
      have HTk := Lib.hid (fun l0 t0 W h => takesS_any base B s t0 b l0 62 62 rfl W h hl)
      rcases hp : placeT (Lib.join ws [32]) us t3 with ⟨b3, t4, l⟩
      rw [hp] at HPl
      cases b3 with
      | false =>
        have HP : Hid (boxT ws ts = (false, t4, l)) := by unfold Hid boxT; rw [hx]; simp only [hy, hz, hp]
        clear hx hy hz hp
        go_enter Tryz.func25, Tryz.ntmps25
        go_wp2_with fail
        with_reducible refine HT.out.mono ?_
        rintro e w1 ⟨rfl, hs1, hk1⟩
        have HK1 := Lib.hid hk1
        have HX := Lib.hid (HWay.out w1 hs1)
        have HV1 := Lib.hid (HV.out.kp hk1)
        clear hs1 hk1 HT
        go_wp2_with fail
        with_reducible refine HX.out.mono ?_
        rintro e w2 ⟨rfl, hs2, hk2⟩
        have HS2 := Lib.hid hs2
        have HK2 := Lib.hid (HK1.out.trans hk2)
        have HNm2 := Lib.hid (HNm.out w2 (HV1.out.kp hk2))
        clear hs2 hk2
        go_wp2_with fail
        with_reducible refine HNm2.out.mono ?_
        rintro e w3 ⟨rfl, hb3⟩
        have HS3 := Lib.hid (HS2.out.grow hb3)
        have HK3 := Lib.hid (HK2.out.trans (Kp.grow hb3 HS2.out.lt))
        have HX3 := Lib.hid (HWs.out w3 HS3.out)
        clear hb3
        go_wp2_with fail
        with_reducible refine HX3.out.mono ?_
        rintro e w4 ⟨v4, rfl, hv4, hs4, hk4⟩
        have HK4 := Lib.hid (HK3.out.trans hk4)
        have hu : wsW us ≤ 4000000000 := by have h1 : wsW us + wt t3 = wt t2 := HWt.out; have := HS3.out.wt; omega
        have HX4 := Lib.hid (HPl.out v4 w4 hs4 hv4 hu)
        clear hs4 hk4 hv4
        go_wp2_with fail
        with_reducible refine HX4.out.mono ?_
        rintro e w5 hd
        obtain ⟨rfl, hs5, hk5⟩ := hd
        have HS5 := Lib.hid hs5
        have HK5 := Lib.hid (HK4.out.trans hk5)
        clear hs5 hk5
        go_wp2_with fail
        go_ret
        rw [HP.out]
        exact ⟨rfl, HS5.out, HK5.out⟩
      | true =>
        have HP : Hid (boxT ws ts = ((takesT 62 t4).1, (takesT 62 t4).2, l)) := by unfold Hid boxT; rw [hx]; simp only [hy, hz, hp]
        clear hx hy hz hp
        go_enter Tryz.func25, Tryz.ntmps25
        go_wp2_with fail
        with_reducible refine HT.out.mono ?_
        rintro e w1 ⟨rfl, hs1, hk1⟩
        have HK1 := Lib.hid hk1
        have HX := Lib.hid (HWay.out w1 hs1)
        have HV1 := Lib.hid (HV.out.kp hk1)
        clear hs1 hk1 HT
        go_wp2_with fail
        with_reducible refine HX.out.mono ?_
        rintro e w2 ⟨rfl, hs2, hk2⟩
        have HS2 := Lib.hid hs2
        have HK2 := Lib.hid (HK1.out.trans hk2)
        have HNm2 := Lib.hid (HNm.out w2 (HV1.out.kp hk2))
        clear hs2 hk2
        go_wp2_with fail
        with_reducible refine HNm2.out.mono ?_
        rintro e w3 ⟨rfl, hb3⟩
        have HS3 := Lib.hid (HS2.out.grow hb3)
        have HK3 := Lib.hid (HK2.out.trans (Kp.grow hb3 HS2.out.lt))
        have HX3 := Lib.hid (HWs.out w3 HS3.out)
        clear hb3
        go_wp2_with fail
        with_reducible refine HX3.out.mono ?_
        rintro e w4 ⟨v4, rfl, hv4, hs4, hk4⟩
        have HK4 := Lib.hid (HK3.out.trans hk4)
        have hu : wsW us ≤ 4000000000 := by have h1 : wsW us + wt t3 = wt t2 := HWt.out; have := HS3.out.wt; omega
        have HX4 := Lib.hid (HPl.out v4 w4 hs4 hv4 hu)
        clear hs4 hk4 hv4
        go_wp2_with fail
        with_reducible refine HX4.out.mono ?_
        rintro e w5 hd
        obtain ⟨rfl, hs5, hk5⟩ := hd
        have HK5 := Lib.hid (HK4.out.trans hk5)
        have HX5 := Lib.hid (HTk.out _ _ w5 hs5)
        clear hs5 hk5
        go_wp2_with fail
        with_reducible refine HX5.out.mono ?_
        rintro e w6 ⟨rfl, hs6, hk6⟩
        have HS6 := Lib.hid hs6
        have HK6 := Lib.hid (HK5.out.trans hk6)
        clear hs6 hk6
        go_wp2_with fail
        go_ret
        rw [HP.out]
        exact ⟨rfl, HS6.out, HK6.out⟩
end Go.Proofs.YtjlcphofkepajaaGreat
