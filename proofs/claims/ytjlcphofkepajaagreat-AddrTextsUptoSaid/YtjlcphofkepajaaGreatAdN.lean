/- Contracts of package addr: a group; an item. -/
import Derived.Test.YtjlcphofkepajaaGreatAdL
namespace Go.Proofs.YtjlcphofkepajaaGreat
open Go Go.RowKit

theorem ownR_new {base B : Nat} {s : ByteArray} {ts : List Tok} {b : Bool} {al0 : List Adr} {w W : World} (h : St w base B s ts b al0) (hb : Below w.heap.size w W) : ¬ ownR B W w.heap.size := by
  obtain ⟨tv, h1, h2, h3, h4⟩ := h
  have hB := h1.lt
  rintro (e | ⟨u, hu, hu2⟩)
  · omega
  · rw [(h1.below hb).c3] at hu
    cases hu
    have := (h2.lt _ hu2).2
    omega
theorem groupT_bad {name : List (List UInt8)} {ts t1 : List Tok} {l : List Adr} (h : itemsT wboxT (ts.length + 1) ts = (false, t1, l)) : groupT name ts = (false, t1, ⟨1, Lib.join name [32], [], []⟩ :: l ++ [⟨2, [], [], []⟩]) := by
  unfold groupT
  rw [h]
theorem groupT_good {name : List (List UInt8)} {ts t1 : List Tok} {l : List Adr} (h : itemsT wboxT (ts.length + 1) ts = (true, t1, l)) : groupT name ts = ((takesT 59 t1).1, (takesT 59 t1).2, ⟨1, Lib.join name [32], [], []⟩ :: l ++ [⟨2, [], [], []⟩]) := by
  unfold groupT
  rw [h]

set_option maxRecDepth 100000 in
set_option maxHeartbeats 4000000 in
theorem group_any (base B : Nat) (s : ByteArray) (ts : List Tok) (b : Bool) (al0 : List Adr) (v : Value) (ws : List (List UInt8)) (w : World) (h : St w base B s ts b al0) (hv : Ws w B v ws) (hw : wsW ws ≤ 4000000000) (hl : s.size ≤ 1000000000) (hn : al0.length + ts.length + 2 ≤ 1000000000000) :
    Calls Tryz.prog 24 #[.pointer (some ⟨B, 0, none⟩), v] w (Does base B s b al0 w (groupT ws ts)) := by
  have HNm := Lib.hid (fun W (h : Ws W B v ws) => named_any v ws 0 W h.1 hw)
  have HBe := Lib.hid (fun W h => tell_begin base B s ts b al0 (Lib.join ws [32]) W h (by omega))
  have HI := Lib.hid (fun A W h hA hnA => itemsG_any base A B s ts b (al0 ++ [(⟨1, Lib.join ws [32], [], []⟩ : Adr)]) W h hA hnA hl (by simp; omega))
  have HEn := Lib.hid (fun t1 (l : List Adr) W h (hq : (al0 ++ [(⟨1, Lib.join ws [32], [], []⟩ : Adr)] ++ l).length ≤ 1000000000000) => tell_end base B s t1 b (al0 ++ [(⟨1, Lib.join ws [32], [], []⟩ : Adr)] ++ l) W h hq)
  have HTk := Lib.hid (fun t1 l0 W h => takesS_any base B s t1 b l0 59 59 rfl W h hl)
  have HS := Lib.hid h
  have HV := Lib.hid hv
  have hBlt := h.lt
  unfold Does at HI ⊢
  have hf := itemsT_len wboxT_fair (ts.length + 1) ts
  rcases hx : itemsT wboxT (ts.length + 1) ts with ⟨b1, t1, l⟩
  rw [hx] at HI hf
  have hll : l.length ≤ ts.length := by
    have : l.length + t1.length ≤ ts.length + (if b1 = true then 0 else 0) := hf
    split at this <;> omega
  have HXX := Lib.hid hx
  clear h hv hf hx
  go_enter Tryz.func24, Tryz.ntmps24
  go_wp2_with fail
  obtain ⟨W0, hW0⟩ : ∃ W0, W0 = w.alloc (.cells #[.pointer (some ⟨B, 0, none⟩)] 51) := ⟨_, rfl⟩
  have hb0 : Below w.heap.size w W0 := by rw [hW0]; exact (Below.refl _ _).alloc (Nat.le_refl _) _
  have hc0 : W0.cell? ⟨w.heap.size, 0, none⟩ = some (.pointer (some ⟨B, 0, none⟩)) := by
    have hnew : W0.heap[w.heap.size]? = some (.cells #[.pointer (some ⟨B, 0, none⟩)] 51 (0, 0)) := by rw [hW0]; exact heap_alloc_new w _
    simp [World.cell?, hnew]
  rw [← hW0]
  have HK0 := Lib.hid (Kp.grow hb0 hBlt)
  have HS0 := Lib.hid (HS.out.grow hb0)
  have HV0 := Lib.hid (HV.out.kp HK0.out)
  have HN0 := Lib.hid (ownR_new HS.out hb0)
  obtain ⟨A, hA⟩ : ∃ A, A = w.heap.size := ⟨_, rfl⟩
  rw [← hA] at hc0 HN0 ⊢
  have HC0 := Lib.hid hc0
  have HSd := Lib.hid (HS0.out.grow (Below.refl _ W0).drew)
  have HD : Hid (Kp B W0 W0.drew) := Kp.grow (Below.refl _ _).drew HS0.out.lt
  have HVd := Lib.hid (HV0.out.kp HD.out)
  clear hW0 hb0 hA
  go_wp2_with fail
  go_region_with (first | (go_at_call 35; with_reducible refine (HNm.out _ HVd.out).mono ?_; rintro e w1 ⟨rfl, hb1⟩; have HK1 := Lib.hid (HK0.out.trans (HD.out.trans (Kp.grow hb1 HSd.out.lt))); have HS1 := Lib.hid (HSd.out.grow hb1); have hc1 := ((HD.out.trans (Kp.grow hb1 HSd.out.lt)).cell HC0.out HN0.out).1; have HN1 := Lib.hid ((HD.out.trans (Kp.grow hb1 HSd.out.lt)).cell HC0.out HN0.out).2; clear hb1) | (go_at_call 34; with_reducible refine (HBe.out _ HS1.out).mono ?_; rintro e w2 ⟨rfl, hs2, hk2⟩; have HS2 := Lib.hid hs2; have hc2 := (hk2.cell hc1 HN1.out).1; have HN2 := Lib.hid (hk2.cell hc1 HN1.out).2; have HK2 := Lib.hid (HK1.out.trans hk2); clear hs2 hk2))
  all_goals
    clear hc0 hc1
    have HX := Lib.hid (HI.out A w2 HS2.out hc2 HN2.out)
    have HC2 := Lib.hid hc2
    go_wp2_with fail
    with_reducible refine HX.out.mono ?_
    rintro e w3 ⟨rfl, hs3, hk3⟩
    have hc3 := (hk3.cell HC2.out HN2.out).1
    have HN3 := Lib.hid (hk3.cell HC2.out HN2.out).2
    have HK3 := Lib.hid (HK2.out.trans hk3)
    have HX3 := Lib.hid (HEn.out t1 l w3 hs3 (by simp; omega))
    clear hs3 hk3 hc2
    have HC3 := Lib.hid hc3
    go_wp2_with fail
    with_reducible refine HX3.out.mono ?_
    rintro e w4 ⟨rfl, hs4, hk4⟩
    have hc4 := (hk4.cell HC3.out HN3.out).1
    have HK4 := Lib.hid (HK3.out.trans hk4)
    have HS4 := Lib.hid hs4
    clear hs4 hk4 hc3
    cases b1 with
    | false =>
      have HP := Lib.hid (groupT_bad (name := ws) HXX.out)
      go_wp2_with fail
      go_ret
      rw [HP.out]
      exact ⟨rfl, by simpa using HS4.out, HK4.out⟩
    | true =>
      have HP := Lib.hid (groupT_good (name := ws) HXX.out)
      have HX4 := Lib.hid (HTk.out t1 _ w4 HS4.out)
      go_wp2_with fail
      with_reducible refine HX4.out.mono ?_
      rintro e w5 ⟨rfl, hs5, hk5⟩
      have HK5 := Lib.hid (HK4.out.trans hk5)
      have HS5 := Lib.hid hs5
      clear hs5 hk5
      go_wp2_with fail
      go_ret
      rw [HP.out]
      exact ⟨rfl, by simpa using HS5.out, HK5.out⟩

set_option maxRecDepth 100000 in
set_option maxHeartbeats 2000000 in
theorem item_any (base B : Nat) (s : ByteArray) (ts : List Tok) (b : Bool) (al0 : List Adr) (w : World) (h : St w base B s ts b al0) (hl : s.size ≤ 1000000000) (hn : al0.length + ts.length + 2 ≤ 1000000000000) :
    Calls Tryz.prog 15 #[.pointer (some ⟨B, 0, none⟩)] w (Does base B s b al0 w (itemT ts)) := by
  have hwt := h.wt
  have hlen0 := wordsT_len ts
  have HWs := Lib.hid (wordsS_any base B s ts b al0 w h hl)
  have HWt := wordsT_wt ts
  unfold Does
  rcases hz : wordsT ts with ⟨us, t2⟩
  rw [hz] at HWs HWt hlen0
  have hu : wsW us ≤ 4000000000 := by have h1 : wsW us + wt t2 = wt ts := HWt; omega
  have hlen2 : us.length + t2.length = ts.length := hlen0
  have HTk := Lib.hid (fun W h => takesS_any base B s t2 b al0 58 58 rfl W h hl)
  have hlen := takesT_le 58 t2
  rcases hy : takesT 58 t2 with ⟨b1, t3⟩
  rw [hy] at HTk hlen
  have hlen3 : t3.length ≤ t2.length := hlen
  clear h HWt hlen0 hlen
  cases b1 with
  | false =>
    have HP : Hid (itemT ts = boxT us t3) := by unfold Hid itemT; rw [hz]; simp only [hy]
    have HBx := Lib.hid (fun v W h hv => box_any base B s t3 b al0 v us W h hv hu hl (by omega))
    unfold Does at HBx
    clear hz hy
    go_enter Tryz.func15, Tryz.ntmps15
    go_wp2_with fail
    with_reducible refine HWs.out.mono ?_
    rintro e w1 ⟨v1, rfl, hv1, hs1, hk1⟩
    have HK1 := Lib.hid hk1
    have HV1 := Lib.hid hv1
    have HX1 := Lib.hid (HTk.out w1 hs1)
    clear hs1 hk1 hv1
    go_wp2_with fail
    with_reducible refine HX1.out.mono ?_
    rintro e w2 ⟨rfl, hs2, hk2⟩
    have HX2 := Lib.hid (HBx.out v1 w2 hs2 (HV1.out.kp hk2))
    have HK2 := Lib.hid (HK1.out.trans hk2)
    clear hs2 hk2
    go_wp2_with fail
    with_reducible refine HX2.out.mono ?_
    rintro e w3 ⟨rfl, hs3, hk3⟩
    have HS3 := Lib.hid hs3
    have HK3 := Lib.hid (HK2.out.trans hk3)
    clear hs3 hk3
    go_wp2_with fail
    go_ret
    rw [HP.out]
    exact ⟨rfl, HS3.out, HK3.out⟩
  | true =>
    have HP : Hid (itemT ts = groupT us t3) := by unfold Hid itemT; rw [hz]; simp only [hy]
    have HBx := Lib.hid (fun v W h hv => group_any base B s t3 b al0 v us W h hv hu hl (by omega))
    unfold Does at HBx
    clear hz hy
    go_enter Tryz.func15, Tryz.ntmps15
    go_wp2_with fail
    with_reducible refine HWs.out.mono ?_
    rintro e w1 ⟨v1, rfl, hv1, hs1, hk1⟩
    have HK1 := Lib.hid hk1
    have HV1 := Lib.hid hv1
    have HX1 := Lib.hid (HTk.out w1 hs1)
    clear hs1 hk1 hv1
    go_wp2_with fail
    with_reducible refine HX1.out.mono ?_
    rintro e w2 ⟨rfl, hs2, hk2⟩
    have HX2 := Lib.hid (HBx.out v1 w2 hs2 (HV1.out.kp hk2))
    have HK2 := Lib.hid (HK1.out.trans hk2)
    clear hs2 hk2
    go_wp2_with fail
    with_reducible refine HX2.out.mono ?_
    rintro e w3 ⟨rfl, hs3, hk3⟩
    have HS3 := Lib.hid hs3
    have HK3 := Lib.hid (HK2.out.trans hk3)
    clear hs3 hk3
    go_wp2_with fail
    go_ret
    rw [HP.out]
    exact ⟨rfl, HS3.out, HK3.out⟩
end Go.Proofs.YtjlcphofkepajaaGreat
