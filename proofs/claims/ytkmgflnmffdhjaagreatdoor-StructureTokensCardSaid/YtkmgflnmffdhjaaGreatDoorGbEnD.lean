/- Contracts of package addr: a box; words ahead of one. -/
import Derived.Test.YtkmgflnmffdhjaaGreatDoorGbAdI
import Derived.Test.YtkmgflnmffdhjaaGreatDoorGbEnC
namespace Go.Proofs.YtkmgflnmffdhjaaGreatDoor
open Go Go.RowKit

set_option maxRecDepth 100000 in
set_option maxHeartbeats 2000000 in
theorem box_any (base B : Nat) (s : ByteArray) (ts : List Tok) (b : Bool) (al0 : List Adr) (v : Value) (ws : List (List UInt8)) (w : World) (h : St w base B s ts b al0) (hv : Ws w B v ws) (hw : wsW ws ≤ 4000000000) (hl : s.size ≤ 1000000000) (hn : al0.length ≤ 1000000000000) :
    Calls Tryz.prog 175 #[.pointer (some ⟨B, 0, none⟩), v] w (Does base B s b al0 w (boxT ws ts)) := by
  obtain ⟨ao, cap, rfl⟩ := hv.shape
  have HT := Lib.hid (takesS_any base B s ts b al0 60 60 rfl w h hl)
  have HV := Lib.hid hv
  clear h hv
  rcases hx : takesT 60 ts with ⟨b1, t1⟩
  rw [hx] at HT
  cases b1 with
  | false =>
    have HP : Hid (boxT ws ts = if ws.isEmpty then (true, t1, []) else placeT [] ws t1) := by unfold Hid boxT; rw [hx]
    have HPl := Lib.hid (fun W h hv => place_any base B s t1 b al0 [] (.slice ao ws.length cap) ws W h hv hw hl hn)
    clear hx
    rcases Bool.eq_false_or_eq_true ws.isEmpty with he | he
    · rw [he] at HP
      have bN : ((ws.length : Int) == 0) = true := by rw [len_zero, he]
      clear he
      go_enter Tryz.func175, Tryz.ntmps175
      go_wp2_with fail
      with_reducible refine HT.out.mono ?_
      rintro e w1 ⟨rfl, hs1, hk1⟩
      have HS1 := Lib.hid hs1
      have HK1 := Lib.hid hk1
      clear hs1 hk1 HT
      go_wp2_with fail
      go_ret
      rw [HP.out]
      exact ⟨rfl, by simpa using HS1.out, HK1.out⟩
    · rw [he] at HP
      have bN : ((ws.length : Int) == 0) = false := by rw [len_zero, he]
      clear he
      go_enter Tryz.func175, Tryz.ntmps175
      go_wp2_with fail
      with_reducible refine HT.out.mono ?_
      rintro e w1 ⟨rfl, hs1, hk1⟩
      have HK1 := Lib.hid hk1
      have HX := Lib.hid (HPl.out w1 hs1 (HV.out.kp hk1))
      clear hs1 hk1 HT
      go_wp2_with fail
      with_reducible refine HX.out.mono ?_
      rintro e w2 hd
      obtain ⟨rfl, hs2, hk2⟩ := hd
      have HS2 := Lib.hid hs2
      have HK2 := Lib.hid (HK1.out.trans hk2)
      clear hs2 hk2
      go_wp2_with fail
      go_ret
      rw [HP.out]
      exact ⟨rfl, HS2.out, HK2.out⟩
  | true =>
    have HWay := Lib.hid (fun W h => way_any base B s t1 b al0 W h hl)
    rcases hy : wayT t1 with ⟨b2, t2⟩
    rw [hy] at HWay
    cases b2 with
    | false =>
      have HP : Hid (boxT ws ts = (false, t2, [])) := by unfold Hid boxT; rw [hx]; simp only [hy]
      clear hx hy
      go_enter Tryz.func175, Tryz.ntmps175
      go_wp2_with fail
      with_reducible refine HT.out.mono ?_
      rintro e w1 ⟨rfl, hs1, hk1⟩
      have HK1 := Lib.hid hk1
      have HX := Lib.hid (HWay.out w1 hs1)
      clear hs1 hk1 HT
      go_wp2_with fail
      with_reducible refine HX.out.mono ?_
      rintro e w2 ⟨rfl, hs2, hk2⟩
      have HS2 := Lib.hid hs2
      have HK2 := Lib.hid (HK1.out.trans hk2)
      clear hs2 hk2
      go_wp2_with fail
      go_ret
      rw [HP.out]
      exact ⟨rfl, by rw [List.append_nil]; exact HS2.out, HK2.out⟩
    | true =>
      have HNm := Lib.hid (fun W (h : Ws W B (.slice ao ws.length cap) ws) => named_anyA _ ws 0 W h.1 hw)
      have HWs := Lib.hid (fun W h => wordsS_any base B s t2 b al0 W h hl)
      have HWt := Lib.hid (wordsT_wt t2)
      rcases hz : wordsT t2 with ⟨us, t3⟩
      rw [hz] at HWs HWt
      have HPl := Lib.hid (fun v W h hv hu => place_any base B s t3 b al0 (Lib.join ws [32]) v us W h hv hu hl hn)
      have HTk := Lib.hid (fun l0 t0 W h => takesS_any base B s t0 b l0 62 62 rfl W h hl)
      rcases hp : placeT (Lib.join ws [32]) us t3 with ⟨b3, t4, l⟩
      rw [hp] at HPl
      cases b3 with
      | false =>
        have HP : Hid (boxT ws ts = (false, t4, l)) := by unfold Hid boxT; rw [hx]; simp only [hy, hz, hp]
        clear hx hy hz hp
        go_enter Tryz.func175, Tryz.ntmps175
        go_wp2_with fail
        with_reducible refine HT.out.mono ?_
        rintro e w1 ⟨rfl, hs1, hk1⟩
        have HK1 := Lib.hid hk1
        have HX := Lib.hid (HWay.out w1 hs1)
        have HV1 := Lib.hid (HV.out.kp hk1)
        clear hs1 hk1 HT
        go_wp2_with fail
        with_reducible refine HX.out.mono ?_
        rintro e w2 ⟨rfl, hs2, hk2⟩
        have HS2 := Lib.hid hs2
        have HK2 := Lib.hid (HK1.out.trans hk2)
        have HNm2 := Lib.hid (HNm.out w2 (HV1.out.kp hk2))
        clear hs2 hk2
        go_wp2_with fail
        with_reducible refine HNm2.out.mono ?_
        rintro e w3 ⟨rfl, hb3⟩
        have HS3 := Lib.hid (HS2.out.grow hb3)
        have HK3 := Lib.hid (HK2.out.trans (Kp.grow hb3 HS2.out.lt))
        have HX3 := Lib.hid (HWs.out w3 HS3.out)
        clear hb3
        go_wp2_with fail
        with_reducible refine HX3.out.mono ?_
        rintro e w4 ⟨v4, rfl, hv4, hs4, hk4⟩
        have HK4 := Lib.hid (HK3.out.trans hk4)
        have hu : wsW us ≤ 4000000000 := by have h1 : wsW us + wt t3 = wt t2 := HWt.out; have := HS3.out.wt; omega
        have HX4 := Lib.hid (HPl.out v4 w4 hs4 hv4 hu)
        clear hs4 hk4 hv4
        go_wp2_with fail
        with_reducible refine HX4.out.mono ?_
        rintro e w5 hd
        obtain ⟨rfl, hs5, hk5⟩ := hd
        have HS5 := Lib.hid hs5
        have HK5 := Lib.hid (HK4.out.trans hk5)
        clear hs5 hk5
        go_wp2_with fail
        go_ret
        rw [HP.out]
        exact ⟨rfl, HS5.out, HK5.out⟩
      | true =>
        have HP : Hid (boxT ws ts = ((takesT 62 t4).1, (takesT 62 t4).2, l)) := by unfold Hid boxT; rw [hx]; simp only [hy, hz, hp]
        clear hx hy hz hp
        go_enter Tryz.func175, Tryz.ntmps175
        go_wp2_with fail
        with_reducible refine HT.out.mono ?_
        rintro e w1 ⟨rfl, hs1, hk1⟩
        have HK1 := Lib.hid hk1
        have HX := Lib.hid (HWay.out w1 hs1)
        have HV1 := Lib.hid (HV.out.kp hk1)
        clear hs1 hk1 HT
        go_wp2_with fail
        with_reducible refine HX.out.mono ?_
        rintro e w2 ⟨rfl, hs2, hk2⟩
        have HS2 := Lib.hid hs2
        have HK2 := Lib.hid (HK1.out.trans hk2)
        have HNm2 := Lib.hid (HNm.out w2 (HV1.out.kp hk2))
        clear hs2 hk2
        go_wp2_with fail
        with_reducible refine HNm2.out.mono ?_
        rintro e w3 ⟨rfl, hb3⟩
        have HS3 := Lib.hid (HS2.out.grow hb3)
        have HK3 := Lib.hid (HK2.out.trans (Kp.grow hb3 HS2.out.lt))
        have HX3 := Lib.hid (HWs.out w3 HS3.out)
        clear hb3
        go_wp2_with fail
        with_reducible refine HX3.out.mono ?_
        rintro e w4 ⟨v4, rfl, hv4, hs4, hk4⟩
        have HK4 := Lib.hid (HK3.out.trans hk4)
        have hu : wsW us ≤ 4000000000 := by have h1 : wsW us + wt t3 = wt t2 := HWt.out; have := HS3.out.wt; omega
        have HX4 := Lib.hid (HPl.out v4 w4 hs4 hv4 hu)
        clear hs4 hk4 hv4
        go_wp2_with fail
        with_reducible refine HX4.out.mono ?_
        rintro e w5 hd
        obtain ⟨rfl, hs5, hk5⟩ := hd
        have HK5 := Lib.hid (HK4.out.trans hk5)
        have HX5 := Lib.hid (HTk.out _ _ w5 hs5)
        clear hs5 hk5
        go_wp2_with fail
        with_reducible refine HX5.out.mono ?_
        rintro e w6 ⟨rfl, hs6, hk6⟩
        have HS6 := Lib.hid hs6
        have HK6 := Lib.hid (HK5.out.trans hk6)
        clear hs6 hk6
        go_wp2_with fail
        go_ret
        rw [HP.out]
        exact ⟨rfl, HS6.out, HK6.out⟩
end Go.Proofs.YtkmgflnmffdhjaaGreatDoor

/- Contracts of package addr: a group's items; a group. -/
namespace Go.Proofs.YtkmgflnmffdhjaaGreatDoor
open Go Go.RowKit

theorem Kp.cell {B A : Nat} {W W' : World} {u : Value} (k : Kp B W W') (h : W.cell? ⟨A, 0, none⟩ = some u) (hn : ¬ ownR B W A) : W'.cell? ⟨A, 0, none⟩ = some u ∧ ¬ ownR B W' A := by
  obtain ⟨e1, e2⟩ := k.kept A (World.block_lt_of_cell? _ _ h) hn
  exact ⟨(World.cell?_of_block (a := ⟨A, 0, none⟩) e1).trans h, e2⟩
set_option maxRecDepth 100000 in
set_option maxHeartbeats 2000000 in
theorem group1_any (base A B : Nat) (s : ByteArray) (ts : List Tok) (b : Bool) (al0 : List Adr) (w : World) (h : St w base B s ts b al0) (hA : w.cell? ⟨A, 0, none⟩ = some (.pointer (some ⟨B, 0, none⟩))) (hnA : ¬ ownR B w A) (hl : s.size ≤ 1000000000) (hn : al0.length ≤ 1000000000000) :
    Calls Tryz.prog 202 #[.pointer (some ⟨A, 0, none⟩)] w (Does base B s b al0 w (wboxT ts)) := by
  have hwt := h.wt
  have HWs := Lib.hid (fun W h => wordsS_any base B s ts b al0 W h hl)
  have HWt := Lib.hid (wordsT_wt ts)
  rcases hz : wordsT ts with ⟨us, t3⟩
  rw [hz] at HWs HWt
  have hu : wsW us ≤ 4000000000 := by have h1 : wsW us + wt t3 = wt ts := HWt.out; omega
  have HBx := Lib.hid (fun v W h hv => box_any base B s t3 b al0 v us W h hv hu hl hn)
  have HP : Hid (wboxT ts = boxT us t3) := by unfold Hid wboxT; rw [hz]
  have HS := Lib.hid h
  have HN := Lib.hid hnA
  have HCA := Lib.hid hA
  have HD : Hid (Kp B w w.drew) := Kp.grow (Below.refl _ _).drew h.lt
  have HSd : Hid (St w.drew base B s ts b al0) := h.grow (Below.refl _ _).drew
  unfold Does at HBx
  clear hz h hnA
  go_enter Tryz.func202, Tryz.ntmps202
  go_wp2_with fail
  go_region_with (first | (go_at_call 173; with_reducible refine (HWs.out _ HSd.out).mono ?_; rintro e w1 ⟨v1, rfl, hv1, hs1, hk1⟩; have HK1 := Lib.hid (HD.out.trans hk1); have HS1 := Lib.hid hs1; have HV1 := Lib.hid hv1; have hA1 := (HK1.out.cell HCA.out HN.out).1; clear hs1 hk1 hv1) | (go_at_call 175; with_reducible refine (HBx.out _ _ HS1.out HV1.out).mono ?_; rintro e w2 ⟨rfl, hs2, hk2⟩; have HS2 := Lib.hid hs2; have HK2 := Lib.hid (HK1.out.trans hk2); clear hs2 hk2))
  all_goals
    go_wp2_with fail
    go_ret
    rw [HP.out]
    exact ⟨rfl, HS2.out, HK2.out⟩
end Go.Proofs.YtkmgflnmffdhjaaGreatDoor

/- Contracts of package addr: a group's items. -/
namespace Go.Proofs.YtkmgflnmffdhjaaGreatDoor
open Go Go.RowKit

set_option maxRecDepth 100000 in
set_option maxHeartbeats 2000000 in
theorem itemsG_any (base A B : Nat) (s : ByteArray) (ts : List Tok) (b : Bool) (al0 : List Adr) (w : World) (h : St w base B s ts b al0) (hA : w.cell? ⟨A, 0, none⟩ = some (.pointer (some ⟨B, 0, none⟩))) (hnA : ¬ ownR B w A) (hl : s.size ≤ 1000000000) (hn : al0.length + ts.length ≤ 1000000000000) :
    Calls Tryz.prog 146 #[.pointer (some ⟨B, 0, none⟩), .func (.func 202) #[] #[.pointer (some ⟨A, 0, none⟩)]] w (Does base B s b al0 w (itemsT wboxT (ts.length + 1) ts)) := by
  have HG := Lib.hid (fun t1 acc W h hA hnA (hq : (al0 ++ acc).length ≤ 1000000000000) => group1_any base A B s t1 b (al0 ++ acc) W h hA hnA hl hq)
  have HTk := Lib.hid (fun t1 acc W h => takesS_any base B s t1 b (al0 ++ acc) 44 44 rfl W h hl)
  have HS := Lib.hid h
  have HN := Lib.hid hnA
  have HCA := Lib.hid hA
  unfold Does at HG ⊢
  clear h hnA hA
  go_enter Tryz.func146, Tryz.ntmps146
  go_wp2_with fail
  go_loopg [] ts.length (fun g wr => ∃ (n : Nat) (t1 : List Tok) (acc : List Adr), g = t1.length ∧ t1.length < n ∧ acc.length + t1.length ≤ ts.length ∧ Hid (St wr base B s t1 b (al0 ++ acc)) ∧ Hid (Kp B w wr) ∧
    Hid (itemsT wboxT (ts.length + 1) ts = ((itemsT wboxT n t1).1, (itemsT wboxT n t1).2.1, acc ++ (itemsT wboxT n t1).2.2)))
  case atStart => exact ⟨ts.length + 1, ts, [], rfl, by omega, by simp, by rw [List.append_nil]; exact HS.out, Kp.refl _ _, rfl⟩
  case round =>
    obtain ⟨n, t1, acc, rfl, hn1, hal, HSr, HK, HE⟩ := hrel
    obtain ⟨n, rfl⟩ : ∃ n', n = n' + 1 := ⟨n - 1, by omega⟩
    have HX := Lib.hid (HG.out t1 acc wr HSr.out (HK.out.cell HCA.out HN.out).1 (HK.out.cell HCA.out HN.out).2 (by rw [List.length_append]; omega))
    have hf := wboxT_fair t1
    rcases hx : wboxT t1 with ⟨b1, t2, l⟩
    rw [hx] at HX hf
    cases b1 with
    | false =>
      have HP := Lib.hid (itemsT_bad (n := n) hx)
      clear hx hf
      go_wp2_with fail
      with_reducible refine HX.out.mono ?_
      rintro e w2 ⟨rfl, hs2, hk2⟩
      have HS2 := Lib.hid hs2
      have HK2 := Lib.hid (HK.out.trans hk2)
      clear hs2 hk2
      go_wp2_with fail
      go_ret
      rw [HE.out, HP.out]
      exact ⟨rfl, by rw [← List.append_assoc]; exact HS2.out, HK2.out⟩
    | true =>
      simp only [if_true, Nat.add_zero] at hf
      have HT := Lib.hid (fun W h => HTk.out t2 (acc ++ l) W h)
      have hlen := takesT_len 44 t2
      rcases hy : takesT 44 t2 with ⟨b2, t3⟩
      rw [hy] at HT hlen
      cases b2 with
      | false =>
        have HP := Lib.hid (itemsT_last (n := n) hx hy)
        clear hx hf hy hlen
        go_wp2_with fail
        with_reducible refine HX.out.mono ?_
        rintro e w2 ⟨rfl, hs2, hk2⟩
        rw [List.append_assoc] at hs2
        have HT2 := Lib.hid (HT.out w2 hs2)
        have HK2 := Lib.hid (HK.out.trans hk2)
        clear hs2 hk2
        go_wp2_with fail
        with_reducible refine HT2.out.mono ?_
        rintro e w3 ⟨rfl, hs3, hk3⟩
        have HS3 := Lib.hid hs3
        have HK3 := Lib.hid (HK2.out.trans hk3)
        clear hs3 hk3
        go_wp2_with fail
        go_ret
        rw [HE.out, HP.out]
        exact ⟨rfl, HS3.out, HK3.out⟩
      | true =>
        have HP := Lib.hid (itemsT_more (n := n) hx hy)
        have hlen3 : t3.length + 1 = t2.length := by simpa using hlen
        clear hx hy hlen
        go_wp2_with fail
        with_reducible refine HX.out.mono ?_
        rintro e w2 ⟨rfl, hs2, hk2⟩
        rw [List.append_assoc] at hs2
        have HT2 := Lib.hid (HT.out w2 hs2)
        have HK2 := Lib.hid (HK.out.trans hk2)
        clear hs2 hk2
        go_wp2_with fail
        with_reducible refine HT2.out.mono ?_
        rintro e w3 ⟨rfl, hs3, hk3⟩
        have HS3 := Lib.hid hs3
        have HK3 := Lib.hid (HK2.out.trans hk3)
        clear hs3 hk3
        go_wp2_with fail
        go_roundg t3.length
        case measure => omega
        case rel =>
          refine ⟨n, t3, acc ++ l, rfl, by omega, by rw [List.length_append]; omega, HS3.out, HK3.out, ?_⟩
          unfold Hid
          rw [HE.out, HP.out, List.append_assoc]
end Go.Proofs.YtkmgflnmffdhjaaGreatDoor

/- Contracts of package addr: a group; an item. -/
namespace Go.Proofs.YtkmgflnmffdhjaaGreatDoor
open Go Go.RowKit

theorem ownR_new {base B : Nat} {s : ByteArray} {ts : List Tok} {b : Bool} {al0 : List Adr} {w W : World} (h : St w base B s ts b al0) (hb : Below w.heap.size w W) : ¬ ownR B W w.heap.size := by
  obtain ⟨tv, h1, h2, h3, h4⟩ := h
  have hB := h1.lt
  rintro (e | ⟨u, hu, hu2⟩)
  · omega
  · rw [(h1.below hb).c3] at hu
    cases hu
    have := (h2.lt _ hu2).2
    omega
theorem groupT_bad {name : List (List UInt8)} {ts t1 : List Tok} {l : List Adr} (h : itemsT wboxT (ts.length + 1) ts = (false, t1, l)) : groupT name ts = (false, t1, ⟨1, Lib.join name [32], [], []⟩ :: l ++ [⟨2, [], [], []⟩]) := by
  unfold groupT
  rw [h]
theorem groupT_good {name : List (List UInt8)} {ts t1 : List Tok} {l : List Adr} (h : itemsT wboxT (ts.length + 1) ts = (true, t1, l)) : groupT name ts = ((takesT 59 t1).1, (takesT 59 t1).2, ⟨1, Lib.join name [32], [], []⟩ :: l ++ [⟨2, [], [], []⟩]) := by
  unfold groupT
  rw [h]

set_option maxRecDepth 100000 in
set_option maxHeartbeats 4000000 in
theorem group_any (base B : Nat) (s : ByteArray) (ts : List Tok) (b : Bool) (al0 : List Adr) (v : Value) (ws : List (List UInt8)) (w : World) (h : St w base B s ts b al0) (hv : Ws w B v ws) (hw : wsW ws ≤ 4000000000) (hl : s.size ≤ 1000000000) (hn : al0.length + ts.length + 2 ≤ 1000000000000) :
    Calls Tryz.prog 174 #[.pointer (some ⟨B, 0, none⟩), v] w (Does base B s b al0 w (groupT ws ts)) := by
  have HNm := Lib.hid (fun W (h : Ws W B v ws) => named_anyA v ws 0 W h.1 hw)
  have HBe := Lib.hid (fun W h => tell_begin base B s ts b al0 (Lib.join ws [32]) W h (by omega))
  have HI := Lib.hid (fun A W h hA hnA => itemsG_any base A B s ts b (al0 ++ [(⟨1, Lib.join ws [32], [], []⟩ : Adr)]) W h hA hnA hl (by simp; omega))
  have HEn := Lib.hid (fun t1 (l : List Adr) W h (hq : (al0 ++ [(⟨1, Lib.join ws [32], [], []⟩ : Adr)] ++ l).length ≤ 1000000000000) => tell_end base B s t1 b (al0 ++ [(⟨1, Lib.join ws [32], [], []⟩ : Adr)] ++ l) W h hq)
  have HTk := Lib.hid (fun t1 l0 W h => takesS_any base B s t1 b l0 59 59 rfl W h hl)
  have HS := Lib.hid h
  have HV := Lib.hid hv
  have hBlt := h.lt
  unfold Does at HI ⊢
  have hf := itemsT_len wboxT_fair (ts.length + 1) ts
  rcases hx : itemsT wboxT (ts.length + 1) ts with ⟨b1, t1, l⟩
  rw [hx] at HI hf
  have hll : l.length ≤ ts.length := by
    have : l.length + t1.length ≤ ts.length + (if b1 = true then 0 else 0) := hf
    split at this <;> omega
  have HXX := Lib.hid hx
  clear h hv hf hx
  go_enter Tryz.func174, Tryz.ntmps174
  go_wp2_with fail
  obtain ⟨W0, hW0⟩ : ∃ W0, W0 = w.alloc (.cells #[.pointer (some ⟨B, 0, none⟩)] 243) := ⟨_, rfl⟩
  have hb0 : Below w.heap.size w W0 := by rw [hW0]; exact (Below.refl _ _).alloc (Nat.le_refl _) _
  have hc0 : W0.cell? ⟨w.heap.size, 0, none⟩ = some (.pointer (some ⟨B, 0, none⟩)) := by
    have hnew : W0.heap[w.heap.size]? = some (.cells #[.pointer (some ⟨B, 0, none⟩)] 243 (0, 0)) := by rw [hW0]; exact heap_alloc_new w _
    simp [World.cell?, hnew]
  rw [← hW0]
  have HK0 := Lib.hid (Kp.grow hb0 hBlt)
  have HS0 := Lib.hid (HS.out.grow hb0)
  have HV0 := Lib.hid (HV.out.kp HK0.out)
  have HN0 := Lib.hid (ownR_new HS.out hb0)
  obtain ⟨A, hA⟩ : ∃ A, A = w.heap.size := ⟨_, rfl⟩
  rw [← hA] at hc0 HN0 ⊢
  have HC0 := Lib.hid hc0
  have HSd := Lib.hid (HS0.out.grow (Below.refl _ W0).drew)
  have HD : Hid (Kp B W0 W0.drew) := Kp.grow (Below.refl _ _).drew HS0.out.lt
  have HVd := Lib.hid (HV0.out.kp HD.out)
  clear hW0 hb0 hA
  go_wp2_with fail
  go_region_with (first | (go_at_call 201; with_reducible refine (HNm.out _ HVd.out).mono ?_; rintro e w1 ⟨rfl, hb1⟩; have HK1 := Lib.hid (HK0.out.trans (HD.out.trans (Kp.grow hb1 HSd.out.lt))); have HS1 := Lib.hid (HSd.out.grow hb1); have hc1 := ((HD.out.trans (Kp.grow hb1 HSd.out.lt)).cell HC0.out HN0.out).1; have HN1 := Lib.hid ((HD.out.trans (Kp.grow hb1 HSd.out.lt)).cell HC0.out HN0.out).2; clear hb1) | (go_at_call 200; with_reducible refine (HBe.out _ HS1.out).mono ?_; rintro e w2 ⟨rfl, hs2, hk2⟩; have HS2 := Lib.hid hs2; have hc2 := (hk2.cell hc1 HN1.out).1; have HN2 := Lib.hid (hk2.cell hc1 HN1.out).2; have HK2 := Lib.hid (HK1.out.trans hk2); clear hs2 hk2))
  all_goals
    clear hc0 hc1
    have HX := Lib.hid (HI.out A w2 HS2.out hc2 HN2.out)
    have HC2 := Lib.hid hc2
    go_wp2_with fail
    with_reducible refine HX.out.mono ?_
    rintro e w3 ⟨rfl, hs3, hk3⟩
    have hc3 := (hk3.cell HC2.out HN2.out).1
    have HN3 := Lib.hid (hk3.cell HC2.out HN2.out).2
    have HK3 := Lib.hid (HK2.out.trans hk3)
    have HX3 := Lib.hid (HEn.out t1 l w3 hs3 (by simp; omega))
    clear hs3 hk3 hc2
    have HC3 := Lib.hid hc3
    go_wp2_with fail
    with_reducible refine HX3.out.mono ?_
    rintro e w4 ⟨rfl, hs4, hk4⟩
    have hc4 := (hk4.cell HC3.out HN3.out).1
    have HK4 := Lib.hid (HK3.out.trans hk4)
    have HS4 := Lib.hid hs4
    clear hs4 hk4 hc3
    cases b1 with
    | false =>
      have HP := Lib.hid (groupT_bad (name := ws) HXX.out)
      go_wp2_with fail
      go_ret
      rw [HP.out]
      exact ⟨rfl, by simpa using HS4.out, HK4.out⟩
    | true =>
      have HP := Lib.hid (groupT_good (name := ws) HXX.out)
      have HX4 := Lib.hid (HTk.out t1 _ w4 HS4.out)
      go_wp2_with fail
      with_reducible refine HX4.out.mono ?_
      rintro e w5 ⟨rfl, hs5, hk5⟩
      have HK5 := Lib.hid (HK4.out.trans hk5)
      have HS5 := Lib.hid hs5
      clear hs5 hk5
      go_wp2_with fail
      go_ret
      rw [HP.out]
      exact ⟨rfl, by simpa using HS5.out, HK5.out⟩

set_option maxRecDepth 100000 in
set_option maxHeartbeats 2000000 in
theorem item_any (base B : Nat) (s : ByteArray) (ts : List Tok) (b : Bool) (al0 : List Adr) (w : World) (h : St w base B s ts b al0) (hl : s.size ≤ 1000000000) (hn : al0.length + ts.length + 2 ≤ 1000000000000) :
    Calls Tryz.prog 147 #[.pointer (some ⟨B, 0, none⟩)] w (Does base B s b al0 w (itemT ts)) := by
  have hwt := h.wt
  have hlen0 := wordsT_len ts
  have HWs := Lib.hid (wordsS_any base B s ts b al0 w h hl)
  have HWt := wordsT_wt ts
  unfold Does
  rcases hz : wordsT ts with ⟨us, t2⟩
  rw [hz] at HWs HWt hlen0
  have hu : wsW us ≤ 4000000000 := by have h1 : wsW us + wt t2 = wt ts := HWt; omega
  have hlen2 : us.length + t2.length = ts.length := hlen0
  have HTk := Lib.hid (fun W h => takesS_any base B s t2 b al0 58 58 rfl W h hl)
  have hlen := takesT_le 58 t2
  rcases hy : takesT 58 t2 with ⟨b1, t3⟩
  rw [hy] at HTk hlen
  have hlen3 : t3.length ≤ t2.length := hlen
  clear h HWt hlen0 hlen
  cases b1 with
  | false =>
    have HP : Hid (itemT ts = boxT us t3) := by unfold Hid itemT; rw [hz]; simp only [hy]
    have HBx := Lib.hid (fun v W h hv => box_any base B s t3 b al0 v us W h hv hu hl (by omega))
    unfold Does at HBx
    clear hz hy
    go_enter Tryz.func147, Tryz.ntmps147
    go_wp2_with fail
    with_reducible refine HWs.out.mono ?_
    rintro e w1 ⟨v1, rfl, hv1, hs1, hk1⟩
    have HK1 := Lib.hid hk1
    have HV1 := Lib.hid hv1
    have HX1 := Lib.hid (HTk.out w1 hs1)
    clear hs1 hk1 hv1
    go_wp2_with fail
    with_reducible refine HX1.out.mono ?_
    rintro e w2 ⟨rfl, hs2, hk2⟩
    have HX2 := Lib.hid (HBx.out v1 w2 hs2 (HV1.out.kp hk2))
    have HK2 := Lib.hid (HK1.out.trans hk2)
    clear hs2 hk2
    go_wp2_with fail
    with_reducible refine HX2.out.mono ?_
    rintro e w3 ⟨rfl, hs3, hk3⟩
    have HS3 := Lib.hid hs3
    have HK3 := Lib.hid (HK2.out.trans hk3)
    clear hs3 hk3
    go_wp2_with fail
    go_ret
    rw [HP.out]
    exact ⟨rfl, HS3.out, HK3.out⟩
  | true =>
    have HP : Hid (itemT ts = groupT us t3) := by unfold Hid itemT; rw [hz]; simp only [hy]
    have HBx := Lib.hid (fun v W h hv => group_any base B s t3 b al0 v us W h hv hu hl (by omega))
    unfold Does at HBx
    clear hz hy
    go_enter Tryz.func147, Tryz.ntmps147
    go_wp2_with fail
    with_reducible refine HWs.out.mono ?_
    rintro e w1 ⟨v1, rfl, hv1, hs1, hk1⟩
    have HK1 := Lib.hid hk1
    have HV1 := Lib.hid hv1
    have HX1 := Lib.hid (HTk.out w1 hs1)
    clear hs1 hk1 hv1
    go_wp2_with fail
    with_reducible refine HX1.out.mono ?_
    rintro e w2 ⟨rfl, hs2, hk2⟩
    have HX2 := Lib.hid (HBx.out v1 w2 hs2 (HV1.out.kp hk2))
    have HK2 := Lib.hid (HK1.out.trans hk2)
    clear hs2 hk2
    go_wp2_with fail
    with_reducible refine HX2.out.mono ?_
    rintro e w3 ⟨rfl, hs3, hk3⟩
    have HS3 := Lib.hid hs3
    have HK3 := Lib.hid (HK2.out.trans hk3)
    clear hs3 hk3
    go_wp2_with fail
    go_ret
    rw [HP.out]
    exact ⟨rfl, HS3.out, HK3.out⟩
end Go.Proofs.YtkmgflnmffdhjaaGreatDoor

/- Contracts of package addr: items; List. -/
namespace Go.Proofs.YtkmgflnmffdhjaaGreatDoor
open Go Go.RowKit

set_option maxRecDepth 100000 in
set_option maxHeartbeats 2000000 in
theorem itemsI_any (base B : Nat) (s : ByteArray) (ts : List Tok) (b : Bool) (al0 : List Adr) (w : World) (h : St w base B s ts b al0) (hl : s.size ≤ 1000000000) (hn : al0.length + ts.length ≤ 900000000000) :
    Calls Tryz.prog 146 #[.pointer (some ⟨B, 0, none⟩), .func (.func 147) #[.pointer (some ⟨B, 0, none⟩)] #[]] w (Does base B s b al0 w (itemsT itemT (ts.length + 1) ts)) := by
  have HG := Lib.hid (fun t1 acc W h (hq : (al0 ++ acc).length + t1.length + 2 ≤ 1000000000000) => item_any base B s t1 b (al0 ++ acc) W h hl hq)
  have HTk := Lib.hid (fun t1 acc W h => takesS_any base B s t1 b (al0 ++ acc) 44 44 rfl W h hl)
  have HS := Lib.hid h
  unfold Does at HG ⊢
  clear h
  go_enter Tryz.func146, Tryz.ntmps146
  go_wp2_with fail
  go_loopg [] ts.length (fun g wr => ∃ (n : Nat) (t1 : List Tok) (acc : List Adr), g = t1.length ∧ t1.length < n ∧ acc.length + t1.length ≤ ts.length ∧ Hid (St wr base B s t1 b (al0 ++ acc)) ∧ Hid (Kp B w wr) ∧
    Hid (itemsT itemT (ts.length + 1) ts = ((itemsT itemT n t1).1, (itemsT itemT n t1).2.1, acc ++ (itemsT itemT n t1).2.2)))
  case atStart => exact ⟨ts.length + 1, ts, [], rfl, by omega, by simp, by rw [List.append_nil]; exact HS.out, Kp.refl _ _, rfl⟩
  case round =>
    obtain ⟨n, t1, acc, rfl, hn1, hal, HSr, HK, HE⟩ := hrel
    obtain ⟨n, rfl⟩ : ∃ n', n = n' + 1 := ⟨n - 1, by omega⟩
    have HX := Lib.hid (HG.out t1 acc wr HSr.out (by rw [List.length_append]; omega))
    have hf := itemT_fair t1
    rcases hx : itemT t1 with ⟨b1, t2, l⟩
    rw [hx] at HX hf
    cases b1 with
    | false =>
      have HP := Lib.hid (itemsT_bad (n := n) hx)
      clear hx hf
      go_wp2_with fail
      with_reducible refine HX.out.mono ?_
      rintro e w2 ⟨rfl, hs2, hk2⟩
      have HS2 := Lib.hid hs2
      have HK2 := Lib.hid (HK.out.trans hk2)
      clear hs2 hk2
      go_wp2_with fail
      go_ret
      rw [HE.out, HP.out]
      exact ⟨rfl, by rw [← List.append_assoc]; exact HS2.out, HK2.out⟩
    | true =>
      simp only [if_true, Nat.add_zero] at hf
      have HT := Lib.hid (fun W h => HTk.out t2 (acc ++ l) W h)
      have hlen := takesT_len 44 t2
      rcases hy : takesT 44 t2 with ⟨b2, t3⟩
      rw [hy] at HT hlen
      cases b2 with
      | false =>
        have HP := Lib.hid (itemsT_last (n := n) hx hy)
        clear hx hf hy hlen
        go_wp2_with fail
        with_reducible refine HX.out.mono ?_
        rintro e w2 ⟨rfl, hs2, hk2⟩
        rw [List.append_assoc] at hs2
        have HT2 := Lib.hid (HT.out w2 hs2)
        have HK2 := Lib.hid (HK.out.trans hk2)
        clear hs2 hk2
        go_wp2_with fail
        with_reducible refine HT2.out.mono ?_
        rintro e w3 ⟨rfl, hs3, hk3⟩
        have HS3 := Lib.hid hs3
        have HK3 := Lib.hid (HK2.out.trans hk3)
        clear hs3 hk3
        go_wp2_with fail
        go_ret
        rw [HE.out, HP.out]
        exact ⟨rfl, HS3.out, HK3.out⟩
      | true =>
        have HP := Lib.hid (itemsT_more (n := n) hx hy)
        have hlen3 : t3.length + 1 = t2.length := by simpa using hlen
        clear hx hy hlen
        go_wp2_with fail
        with_reducible refine HX.out.mono ?_
        rintro e w2 ⟨rfl, hs2, hk2⟩
        rw [List.append_assoc] at hs2
        have HT2 := Lib.hid (HT.out w2 hs2)
        have HK2 := Lib.hid (HK.out.trans hk2)
        clear hs2 hk2
        go_wp2_with fail
        with_reducible refine HT2.out.mono ?_
        rintro e w3 ⟨rfl, hs3, hk3⟩
        have HS3 := Lib.hid hs3
        have HK3 := Lib.hid (HK2.out.trans hk3)
        clear hs3 hk3
        go_wp2_with fail
        go_roundg t3.length
        case measure => omega
        case rel =>
          refine ⟨n, t3, acc ++ l, rfl, by omega, by rw [List.length_append]; omega, HS3.out, HK3.out, ?_⟩
          unfold Hid
          rw [HE.out, HP.out, List.append_assoc]
theorem listT_good {ts : List Tok} {b : Bool} {l : List Adr} {t1 : List Tok} (h : itemsT itemT (ts.length + 1) ts = (true, t1, l)) : listT (ts, b) = if (t1.isEmpty && b) = true then some l else none := by
  unfold listT
  simp only [h]
  cases t1 <;> cases b <;> rfl
theorem listT_bad {ts : List Tok} {b : Bool} {l : List Adr} {t1 : List Tok} (h : itemsT itemT (ts.length + 1) ts = (false, t1, l)) : listT (ts, b) = none := by
  unfold listT
  simp only [h]
def listIs (o : Option (List Adr)) (w0 w : World) (v : Value) (b : Bool) : Prop :=
  match o with
  | some l => b = true ∧ w.ownsRow w0.heap.size 186 4 v l.length (adrCells l)
  | none => b = false ∧ v = .slice none 0 0
set_option maxRecDepth 100000 in
set_option maxHeartbeats 4000000 in
theorem list_any (s : ByteArray) (w : World) (hl : s.size ≤ 1000000000) :
    Calls Tryz.prog 124 #[.string s] w fun e w' => ∃ v b, e = .returned (.tuple #[v, .bool b]) ∧ listIs (listA s.data.toList) w w' v b ∧ Below w.heap.size w w' := by
  have HN := Lib.hid (fun B W h => next_any B s 0 .nilIface (.slice none 0 0) W h hl (Nat.zero_le _))
  have HI := Lib.hid (fun base B ts b W h hn => itemsI_any base B s ts b [] W h hl hn)
  have HE := Lib.hid (fun B ts b tv W h => ended_any B s ts b tv W h)
  go_enter Tryz.func124, Tryz.ntmps124
  go_wp2_with fail
  obtain ⟨W0, hW0⟩ : ∃ W0, W0 = w.alloc (.cells #[.string s, .int .i64 0, .nilIface, .slice none 0 0] 224) := ⟨_, rfl⟩
  have hb0 : Below w.heap.size w W0 := by rw [hW0]; exact (Below.refl _ _).alloc (Nat.le_refl _) _
  have hh : W0.heap[w.heap.size]? = some (.cells #[.string s, .int .i64 0, .nilIface, .slice none 0 0] 224 (0, 0)) := by rw [hW0]; exact heap_alloc_new w _
  have hR : Raw W0 w.heap.size s 0 .nilIface (.slice none 0 0) :=
    ⟨by simp [World.cell?, hh], by simp [World.cell?, hh], by simp [World.cell?, hh], by simp [World.cell?, hh], by simp [World.frozen?, hh], by simp [World.frozen?, hh], by simp [World.frozen?, hh]⟩
  rw [← hW0]
  obtain ⟨B, hB⟩ : ∃ B, B = w.heap.size := ⟨_, rfl⟩
  rw [← hB] at hR ⊢
  have HX := Lib.hid (HN.out B W0 hR)
  have HB0 := Lib.hid hb0
  have HBB := Lib.hid hB
  clear hW0 hb0 hh hR hB
  rcases hts : toksA s.data.toList with ⟨ts, b⟩
  have HLA : Hid (listA s.data.toList = listT (ts, b)) := by unfold Hid listA; rw [hts]
  rw [List.drop_zero, hts] at HX
  with_reducible refine HX.out.mono ?_
  rintro e w1 ⟨rfl, hr1, hg1⟩
  have hlen : ts.length ≤ 2000000000 := by have := wt_len ts; have hwt : wt ts ≤ 2 * s.size := hr1.wt; omega
  have HS1 : Hid (St w1 B B s ts b []) := ⟨_, hr1, World.ownsRow_nil _ _ _ _, by simp [Value.ownBlock], Nat.le_refl _⟩
  have HB1 : Hid (Below w.heap.size w w1) := by
    have h0 := HB0.out
    have e := HBB.out
    exact ⟨hg1.os.trans h0.os, hg1.tape.trans h0.tape, hg1.output.trans h0.output, Nat.le_trans h0.size hg1.size, fun k hk => (hg1.block k (Nat.lt_of_lt_of_le hk h0.size) (fun e2 => by have := Option.some.inj e2; omega)).trans (h0.block k hk)⟩
  have HI1 := Lib.hid (HI.out B B ts b w1 HS1.out (by simp; omega))
  unfold Does at HI1
  rcases hx : itemsT itemT (ts.length + 1) ts with ⟨b1, t1, l⟩
  rw [hx] at HI1
  clear hr1 hg1 HX hts
  cases b1 with
  | false =>
    have HP := Lib.hid (listT_bad (b := b) hx)
    clear hx
    go_wp2_with fail
    with_reducible refine HI1.out.mono ?_
    rintro e w2 ⟨rfl, hs2, hk2⟩
    have HB2 := Lib.hid (HB1.out.trans ((HS1.out.below hk2).mono (Nat.le_of_eq HBB.out.symm)))
    clear hs2 hk2
    go_wp2_with fail
    go_ret2
    refine ⟨_, _, rfl, ?_, HB2.out⟩
    rw [HLA.out, HP.out]
    exact ⟨rfl, rfl⟩
  | true =>
    have HP := Lib.hid (listT_good (b := b) hx)
    clear hx
    go_wp2_with fail
    with_reducible refine HI1.out.mono ?_
    rintro e w2 ⟨rfl, hs2, hk2⟩
    have HB2 := Lib.hid (HB1.out.trans ((HS1.out.below hk2).mono (Nat.le_of_eq HBB.out.symm)))
    obtain ⟨tv, hr2, ho2, hne2, _⟩ := hs2
    have HE2 := Lib.hid (HE.out B t1 b tv w2 hr2)
    have HR2 := Lib.hid hr2
    have HO2 := Lib.hid ho2
    clear hk2 hr2 ho2
    rcases Bool.eq_false_or_eq_true (t1.isEmpty && b) with hq | hq
    · rw [hq] at HE2 HP
      clear hq
      go_wp2_with fail
      with_reducible refine HE2.out.mono ?_
      rintro e w3 ⟨rfl, hb3⟩
      have HR3 := Lib.hid (HR2.out.below hb3)
      have c3 := HR3.out.c3
      have HO3 := Lib.hid (ownsRow_below HO2.out hb3)
      have HB3 := Lib.hid (HB2.out.trans (hb3.mono HB2.out.size))
      clear hb3
      go_wp2_with fail
      go_ret2
      refine ⟨_, _, rfl, ?_, HB3.out⟩
      rw [HLA.out, HP.out]
      refine ⟨rfl, ?_⟩
      rw [← HBB.out]
      exact HO3.out
    · rw [hq] at HE2 HP
      clear hq
      go_wp2_with fail
      with_reducible refine HE2.out.mono ?_
      rintro e w3 ⟨rfl, hb3⟩
      have HB3 := Lib.hid (HB2.out.trans (hb3.mono HB2.out.size))
      clear hb3
      go_wp2_with fail
      go_ret2
      refine ⟨_, _, rfl, ?_, HB3.out⟩
      rw [HLA.out, HP.out]
      exact ⟨rfl, rfl⟩
end Go.Proofs.YtkmgflnmffdhjaaGreatDoor

/- Layer 19: contracts: the addresses of a text; slices.Clone of addresses. -/
namespace Go.Proofs.YtkmgflnmffdhjaaGreatDoor
open Go Go.RowKit

def toX (a : Adr) : Adx := ⟨(a.kind : Int), a.name, a.loc, a.host⟩
theorem toX_cells (l : List Adr) : adrCells l = adxCells (l.map toX) := by
  unfold adrCells adxCells
  rw [List.flatMap_map]
  rfl
/-- The addresses that a text tells; none, if it is broken. -/
def adrX (s : List UInt8) : List Adx := match listA s with
  | some l => l.map toX
  | none => []
theorem listA_len {s : List UInt8} {l : List Adr} (h : listA s = some l) : l.length ≤ 2 * s.length := by
  unfold listA listT at h
  have h1 := itemsT_len itemT_fair ((toksA s).1.length + 1) (toksA s).1
  have h2 := toksA_wt s.length s (Nat.le_refl _)
  have h3 := wt_len (toksA s).1
  split at h
  · next m e =>
    rw [e] at h1
    simp at h1
    split at h
    · obtain rfl := Option.some.inj h
      omega
    · cases h
  · cases h
theorem adrX_len (s : List UInt8) : (adrX s).length ≤ 2 * s.length := by
  unfold adrX
  cases h : listA s with
  | none => simp
  | some l => have := listA_len h; simpa using this
theorem list_x (s : ByteArray) (w : World) (hl : s.size ≤ 1000000000) :
    Calls Tryz.prog 124 #[.string s] w fun e w' => ∃ a c b, e = .returned (.tuple #[.slice a (adrX s.data.toList).length c, .bool b]) ∧ w'.ownsRow w.heap.size 186 4 (.slice a (adrX s.data.toList).length c) (adrX s.data.toList).length (adxCells (adrX s.data.toList)) ∧ Below w.heap.size w w' :=
  (list_any s w hl).mono fun e w' ⟨v, b, he, hi, hb⟩ => by
    unfold adrX
    cases h : listA s.data.toList with
    | none =>
      rw [h] at hi
      obtain ⟨rfl, rfl⟩ := hi
      exact ⟨none, 0, _, he, World.ownsRow_nil _ _ _ _, hb⟩
    | some l =>
      rw [h] at hi
      obtain ⟨rfl, hi⟩ := hi
      rw [toX_cells] at hi
      simp only [List.length_map]
      rcases hi.2 with ⟨rfl, h0⟩ | ⟨g, cap, cur, rfl, _⟩
      · obtain rfl : l = [] := List.eq_nil_of_length_eq_zero h0
        exact ⟨none, 0, _, he, hi, hb⟩
      · exact ⟨_, cap, _, he, hi, hb⟩
theorem own_cell {W : World} {b n m cap size g : Nat} {ty : TypeId} {xs : List Value} (h : W.ownsRow b ty size (.slice (some ⟨g, 0, none⟩) m cap) n xs) (j : Nat) (u : Value) (hj : xs[j]? = some u) : W.cell? ⟨g, j, none⟩ = some u := by
  rcases h.2 with ⟨e, _⟩ | ⟨g', cap', cur, e, _, hh, _, _, _, ht⟩
  · cases e
  · obtain ⟨e1, _, _⟩ := Value.slice.inj e
    obtain rfl : g = g' := by injection e1 with e2; injection e2
    rw [← ht, List.getElem?_take] at hj
    split at hj
    · simp only [World.cell?, hh]
      simpa using hj
    · cases hj
theorem adxCells_one (l : List Adx) : ∀ u ∈ adxCells l, u.oneCell' = true := by
  intro u hu
  unfold adxCells at hu
  obtain ⟨p, _, hp⟩ := List.mem_flatMap.1 hu
  unfold adxC at hp
  simp only [List.mem_cons, List.not_mem_nil, or_false] at hp
  rcases hp with rfl | rfl | rfl | rfl <;> rfl
set_option maxRecDepth 100000 in
set_option maxHeartbeats 1000000 in
theorem cloneA_any (b : Nat) (a : Option Addr) (n c : Nat) (cs : List Adx) (w : World) (ho : w.ownsRow b 186 4 (.slice a n c) cs.length (adxCells cs)) (hl : cs.length ≤ 4000000000) :
    Calls Tryz.prog 125 #[.slice a n c] w fun e w' => ∃ a' c', e = .returned (.slice a' cs.length c') ∧ w'.ownsRow w.heap.size 186 4 (.slice a' cs.length c') cs.length (adxCells cs) ∧ Below w.heap.size w w' := by
  obtain ⟨i0, hi0, hz⟩ := Option.map_eq_some_iff.1 Tryz.infoAdr
  simp only [Prod.mk.injEq] at hz
  obtain ⟨hz0, hz1, hz2⟩ := hz
  have knil : ∀ (W : World) (a : Option Addr) (n c n' c' : Nat), (binOp .eql 125 (.slice a n c) (.slice none n' c')).run Tryz.prog W = .ok (.bool a.isNone) W := fun W a n c n' c' => Lib.run_eql_slice_nil W _ _ a n c n' c' Tryz.underlying125
  have HOw := Lib.hid ho
  rcases ho.2 with ⟨e, h0⟩ | ⟨g, cap, cur, e, _, hh, hc, hm, hs, ht⟩
  · obtain ⟨rfl, rfl, rfl⟩ := Value.slice.inj e
    obtain rfl : cs = [] := List.eq_nil_of_length_eq_zero h0
    clear ho
    go_enter Tryz.func125, Tryz.ntmps125
    go_wp2
    go_ret
    exact ⟨none, 0, rfl, World.ownsRow_nil _ _ _ _, Below.refl _ _⟩
  · obtain ⟨rfl, rfl, rfl⟩ := Value.slice.inj e
    have hlen : (adxCells cs).length = cs.length * 4 := ho.1
    have HO := Lib.hid (World.ownsRow_made (base := w.heap.size) (e := 186) (size := 4) w #[] 0 (Nat.le_refl _) (Nat.zero_le _) rfl)
    have HN : Hid (∀ j u, (adxCells cs)[j]? = some u → (w.alloc (.cells #[] 186)).cell? ((⟨g, 0, none⟩ : Addr).add j) = some u) := fun j u hj => by
      rw [Addr.add_lit, Nat.zero_add]
      have h1 := own_cell HOw.out j u hj
      exact (World.cell?_of_block (a := ⟨g, j, none⟩) (Below.heap_alloc _ _ _ (Array.getElem?_eq_some_iff.1 hh).1)).trans h1
    have HI0 := Lib.hid hi0
    have HZ0 := Lib.hid hz0
    have HZ1 := Lib.hid hz1
    have HZ2 := Lib.hid hz2
    clear hi0 hz0 hz1 hz2 ho hh ht e
    go_enter Tryz.func125, Tryz.ntmps125
    go_wp2_with (at_builtin; refine wpList_append_own _ rfl _ _ 125 rfl w.heap.size 186 i0 (.agg #[.int .i64 0, .string ⟨#[]⟩, .string ⟨#[]⟩, .string ⟨#[]⟩]) 4 56 Tryz.underlying125 HI0.out HZ0.out HZ1.out HZ2.out rfl (by decide) _ _ _ rfl HO.out ⟨g, 0, none⟩ cs.length c (adxCells cs) rfl ?c0 ?c1 ?c2 ?c3 ?c4 ?c5 ?_)
    case c0 => exact hlen
    case c1 => exact HN.out
    case c2 => exact adxCells_one cs
    case c3 => unfold maxLen; omega
    case c4 => omega
    case c5 => simp
    intro v4 w4 hown4 hgrow4 _
    have HB4 : Hid (Below w.heap.size w w4) := ((Below.refl _ _).alloc (Nat.le_refl _) _).grown hgrow4 (by simp) (fun q hq => (HO.out.lt q hq).1)
    replace hown4 : w4.ownsRow w.heap.size 186 4 v4 cs.length (adxCells cs) := by simpa using hown4
    obtain ⟨a4, c4, rfl⟩ : ∃ a4 c4, v4 = .slice a4 cs.length c4 := by
      rcases hown4.2 with ⟨e, h0⟩ | ⟨g4, cap4, cur4, e, _⟩
      · exact ⟨none, 0, by rw [e, h0]⟩
      · exact ⟨_, cap4, e⟩
    have HO4 := Lib.hid hown4
    clear hown4 hgrow4
    go_wp2_with fail
    go_ret
    exact ⟨a4, c4, rfl, HO4.out, HB4.out⟩
end Go.Proofs.YtkmgflnmffdhjaaGreatDoor
