/- Contracts of package addr: a place, a way, a box. -/
import Derived.Test.YtjlcphofkepajaaGreatAdH
namespace Go.Proofs.YtjlcphofkepajaaGreat
open Go Go.RowKit

/-- What a part of the reader's hands back, tells and keeps. -/
def Does (base B : Nat) (s : ByteArray) (b : Bool) (al0 : List Adr) (w : World) (r : Res) : Ending → World → Prop :=
  fun e w' => e = .returned (.bool r.1) ∧ St w' base B s r.2.1 b (al0 ++ r.2.2) ∧ Kp B w w'
theorem Ws.shape {W : World} {B : Nat} {v : Value} {ws : List (List UInt8)} (h : Ws W B v ws) : ∃ ao cap, v = .slice ao ws.length cap := by
  rcases h.1.2 with ⟨rfl, h0⟩ | ⟨g, cap, cur, rfl, _⟩
  · exact ⟨_, _, by rw [h0]⟩
  · exact ⟨_, _, rfl⟩
theorem len_pos (ws : List (List UInt8)) : decide (0 < ws.length) = !ws.isEmpty := by
  cases ws with
  | nil => rfl
  | cons x r => simp
theorem len_zero (ws : List (List UInt8)) : ((ws.length : Int) == 0) = ws.isEmpty := by
  cases ws with
  | nil => rfl
  | cons x r =>
    rw [beq_no (by simp; omega)]
    rfl

theorem tell_box (base B : Nat) (s : ByteArray) (ts : List Tok) (b : Bool) (al0 : List Adr) (nm lo ho : List UInt8) (w : World) (h : St w base B s ts b al0) (hn : al0.length ≤ 1000000000000) :
    Calls Tryz.prog 34 #[.pointer (some ⟨B, 0, none⟩), .agg #[.int .i64 0, .string ⟨nm.toArray⟩, .string ⟨lo.toArray⟩, .string ⟨ho.toArray⟩]] w fun e w' => e = .returned (.tuple #[]) ∧ St w' base B s ts b (al0 ++ [⟨0, nm, lo, ho⟩]) ∧ Kp B w w' := tell_any base B s ts b al0 ⟨0, nm, lo, ho⟩ w h hn
theorem tell_bare (base B : Nat) (s : ByteArray) (ts : List Tok) (b : Bool) (al0 : List Adr) (nm lo : List UInt8) (w : World) (h : St w base B s ts b al0) (hn : al0.length ≤ 1000000000000) :
    Calls Tryz.prog 34 #[.pointer (some ⟨B, 0, none⟩), .agg #[.int .i64 0, .string ⟨nm.toArray⟩, .string ⟨lo.toArray⟩, .string ⟨#[]⟩]] w fun e w' => e = .returned (.tuple #[]) ∧ St w' base B s ts b (al0 ++ [⟨0, nm, lo, []⟩]) ∧ Kp B w w' := tell_any base B s ts b al0 ⟨0, nm, lo, []⟩ w h hn
theorem tell_begin (base B : Nat) (s : ByteArray) (ts : List Tok) (b : Bool) (al0 : List Adr) (nm : List UInt8) (w : World) (h : St w base B s ts b al0) (hn : al0.length ≤ 1000000000000) :
    Calls Tryz.prog 34 #[.pointer (some ⟨B, 0, none⟩), .agg #[.int .i64 1, .string ⟨nm.toArray⟩, .string ⟨#[]⟩, .string ⟨#[]⟩]] w fun e w' => e = .returned (.tuple #[]) ∧ St w' base B s ts b (al0 ++ [⟨1, nm, [], []⟩]) ∧ Kp B w w' := tell_any base B s ts b al0 ⟨1, nm, [], []⟩ w h hn
theorem tell_end (base B : Nat) (s : ByteArray) (ts : List Tok) (b : Bool) (al0 : List Adr) (w : World) (h : St w base B s ts b al0) (hn : al0.length ≤ 1000000000000) :
    Calls Tryz.prog 34 #[.pointer (some ⟨B, 0, none⟩), .agg #[.int .i64 2, .string ⟨#[]⟩, .string ⟨#[]⟩, .string ⟨#[]⟩]] w fun e w' => e = .returned (.tuple #[]) ∧ St w' base B s ts b (al0 ++ [⟨2, [], [], []⟩]) ∧ Kp B w w' := tell_any base B s ts b al0 ⟨2, [], [], []⟩ w h hn

set_option maxRecDepth 100000 in
set_option maxHeartbeats 2000000 in
theorem place_any (base B : Nat) (s : ByteArray) (ts : List Tok) (b : Bool) (al0 : List Adr) (name : List UInt8) (v : Value) (ws : List (List UInt8)) (w : World) (h : St w base B s ts b al0) (hv : Ws w B v ws) (hw : wsW ws ≤ 4000000000) (hl : s.size ≤ 1000000000) (hn : al0.length ≤ 1000000000000) :
    Calls Tryz.prog 38 #[.pointer (some ⟨B, 0, none⟩), .string ⟨name.toArray⟩, v] w (Does base B s b al0 w (placeT name ws ts)) := by
  unfold Does
  obtain ⟨ao, cap, rfl⟩ := hv.shape
  have HT := Lib.hid (takesS_any base B s ts b al0 64 64 rfl w h hl)
  have HWd := Lib.hid (fun ts W h => wordS_any base B s ts b al0 W h hl)
  have HJ := Lib.hid (fun W (h : Ws W B (.slice ao ws.length cap) ws) => joinA_any _ ws ⟨#[]⟩ 0 W h.1 hw (by decide))
  have HTe := Lib.hid (fun ts x W h => tell_box base B s ts b al0 name (Lib.join ws []) x W h hn)
  have HTb := Lib.hid (fun ts W h => tell_bare base B s ts b al0 name (Lib.join ws []) W h hn)
  have HV := Lib.hid hv
  clear h hv
  rcases hx : takesT 64 ts with ⟨b1, t1⟩
  rw [hx] at HT
  cases b1 with
  | false =>
    have HP : Hid (placeT name ws ts = (!ws.isEmpty, t1, [⟨0, name, Lib.join ws [], []⟩])) := by unfold Hid placeT hostT; rw [hx]; simp
    clear hx
    go_enter Tryz.func38, Tryz.ntmps38
    go_wp2_with fail
    with_reducible refine HT.out.mono ?_
    rintro e w1 ⟨rfl, hs1, hk1⟩
    have HS1 := Lib.hid hs1
    have HK1 := Lib.hid hk1
    have HV1 := Lib.hid (HV.out.kp hk1)
    clear hs1 hk1 HT
    go_wp2_with fail
    with_reducible refine (HJ.out _ HV1.out).mono ?_
    rintro e w2 ⟨rfl, hb2⟩
    have HS2 := Lib.hid (HS1.out.grow hb2)
    have HK2 := Lib.hid (HK1.out.trans (Kp.grow hb2 HS1.out.lt))
    clear hb2
    go_wp2_with fail
    with_reducible refine (HTb.out t1 _ HS2.out).mono ?_
    rintro e w3 ⟨rfl, hs3, hk3⟩
    have HS3 := Lib.hid hs3
    have HK3 := Lib.hid (HK2.out.trans hk3)
    clear hs3 hk3
    go_wp2_with fail
    go_ret
    rw [HP.out]
    exact ⟨ret_bool (len_pos ws), HS3.out, HK3.out⟩
  | true =>
    rcases hy : wordT t1 with ⟨o, t2⟩
    have HWd1 := Lib.hid (fun W h => HWd.out t1 W h)
    rw [hy] at HWd1
    cases o with
    | none =>
      have HP : Hid (placeT name ws ts = (false, t2, [⟨0, name, Lib.join ws [], []⟩])) := by unfold Hid placeT hostT; rw [hx]; simp only [hy]; simp
      clear hx hy
      go_enter Tryz.func38, Tryz.ntmps38
      go_wp2_with fail
      with_reducible refine HT.out.mono ?_
      rintro e w0 ⟨rfl, hs0, hk0⟩
      have HS0 := Lib.hid hs0
      have HK0 := Lib.hid hk0
      have HV0 := Lib.hid (HV.out.kp hk0)
      clear hs0 hk0 HT
      go_wp2_with fail
      with_reducible refine (HWd1.out _ HS0.out).mono ?_
      rintro e w1 ⟨rfl, hs1, hk1⟩
      have HS1 := Lib.hid hs1
      have HK1 := Lib.hid (HK0.out.trans hk1)
      have HV1 := Lib.hid (HV0.out.kp hk1)
      clear hs1 hk1
      unfold wordV
      go_wp2_with fail
      with_reducible refine (HJ.out _ HV1.out).mono ?_
      rintro e w2 ⟨rfl, hb2⟩
      have HS2 := Lib.hid (HS1.out.grow hb2)
      have HK2 := Lib.hid (HK1.out.trans (Kp.grow hb2 HS1.out.lt))
      clear hb2
      go_wp2_with fail
      with_reducible refine (HTb.out t2 _ HS2.out).mono ?_
      rintro e w3 ⟨rfl, hs3, hk3⟩
      have HS3 := Lib.hid hs3
      have HK3 := Lib.hid (HK2.out.trans hk3)
      clear hs3 hk3
      go_wp2_with fail
      go_ret
      rw [HP.out]
      exact ⟨rfl, HS3.out, HK3.out⟩
    | some x =>
      have HP : Hid (placeT name ws ts = (!ws.isEmpty, t2, [⟨0, name, Lib.join ws [], x⟩])) := by unfold Hid placeT hostT; rw [hx]; simp only [hy]; simp
      clear hx hy
      go_enter Tryz.func38, Tryz.ntmps38
      go_wp2_with fail
      with_reducible refine HT.out.mono ?_
      rintro e w0 ⟨rfl, hs0, hk0⟩
      have HS0 := Lib.hid hs0
      have HK0 := Lib.hid hk0
      have HV0 := Lib.hid (HV.out.kp hk0)
      clear hs0 hk0 HT
      go_wp2_with fail
      with_reducible refine (HWd1.out _ HS0.out).mono ?_
      rintro e w1 ⟨rfl, hs1, hk1⟩
      have HS1 := Lib.hid hs1
      have HK1 := Lib.hid (HK0.out.trans hk1)
      have HV1 := Lib.hid (HV0.out.kp hk1)
      clear hs1 hk1
      unfold wordV
      go_wp2_with fail
      with_reducible refine (HJ.out _ HV1.out).mono ?_
      rintro e w2 ⟨rfl, hb2⟩
      have HS2 := Lib.hid (HS1.out.grow hb2)
      have HK2 := Lib.hid (HK1.out.trans (Kp.grow hb2 HS1.out.lt))
      clear hb2
      go_wp2_with fail
      with_reducible refine (HTe.out t2 x _ HS2.out).mono ?_
      rintro e w3 ⟨rfl, hs3, hk3⟩
      have HS3 := Lib.hid hs3
      have HK3 := Lib.hid (HK2.out.trans hk3)
      clear hs3 hk3
      go_wp2_with fail
      go_ret
      rw [HP.out]
      exact ⟨ret_bool (len_pos ws), HS3.out, HK3.out⟩

set_option maxRecDepth 100000 in
set_option maxHeartbeats 2000000 in
theorem way_any (base B : Nat) (s : ByteArray) (ts : List Tok) (b : Bool) (al0 : List Adr) (w : World) (h : St w base B s ts b al0) (hl : s.size ≤ 1000000000) :
    Calls Tryz.prog 37 #[.pointer (some ⟨B, 0, none⟩)] w fun e w' => e = .returned (.bool (wayT ts).1) ∧ St w' base B s (wayT ts).2 b al0 ∧ Kp B w w' := by
  have HT := Lib.hid (takesS_any base B s ts b al0 64 64 rfl w h hl)
  have HWd := Lib.hid (fun ts W h => wordS_any base B s ts b al0 W h hl)
  have HT64 := Lib.hid (fun ts W h => takesS_any base B s ts b al0 64 64 rfl W h hl)
  have HT44 := Lib.hid (fun ts W h => takesS_any base B s ts b al0 44 44 rfl W h hl)
  have HT58 := Lib.hid (fun ts W h => takesS_any base B s ts b al0 58 58 rfl W h hl)
  clear h
  rcases hx : takesT 64 ts with ⟨b1, t1⟩
  rw [hx] at HT
  cases b1 with
  | false =>
    have HP : Hid (wayT ts = (true, t1)) := by unfold Hid wayT; rw [hx]
    clear hx
    go_enter Tryz.func37, Tryz.ntmps37
    go_wp2_with fail
    with_reducible refine HT.out.mono ?_
    rintro e w1 ⟨rfl, hs1, hk1⟩
    have HS1 := Lib.hid hs1
    have HK1 := Lib.hid hk1
    clear hs1 hk1 HT
    go_wp2_with fail
    go_ret
    rw [HP.out]
    exact ⟨rfl, HS1.out, HK1.out⟩
  | true =>
    have HP : Hid (wayT ts = wayL (t1.length + 1) t1) := by unfold Hid wayT; rw [hx]
    clear hx
    go_enter Tryz.func37, Tryz.ntmps37
    go_wp2_with fail
    with_reducible refine HT.out.mono ?_
    rintro e w1 ⟨rfl, hs1, hk1⟩
    have HS1 := Lib.hid hs1
    have HK1 := Lib.hid hk1
    clear hs1 hk1 HT
    go_wp2_with fail
    go_loopg [3] (t1.length + 1) (fun g v3 wr => ∃ (m : Bool) (t2 : List Tok), g = t2.length + (if m then 1 else 0) ∧ v3 = .bool m ∧ Hid (St wr base B s t2 b al0) ∧ Hid (Kp B w wr) ∧
      Hid (m = true → ∃ n, t2.length < n ∧ wayT ts = wayL n t2) ∧ Hid (m = false → wayT ts = takesT 58 t2))
    case atStart => exact ⟨true, t1, by simp, rfl, HS1.out, HK1.out, fun _ => ⟨t1.length + 1, by omega, HP.out⟩, fun h => by cases h⟩
    case round =>
      obtain ⟨m, t2, rfl, rfl, HS, HK, HM1, HM2⟩ := hrel
      cases m with
      | false =>
        have HE := Lib.hid (HM2.out rfl)
        have HX := Lib.hid (HT58.out t2 wr HS.out)
        clear HM1 HM2
        go_wp2_with fail
        with_reducible refine HX.out.mono ?_
        rintro e w2 ⟨rfl, hs2, hk2⟩
        have HS2 := Lib.hid hs2
        have HK2 := Lib.hid (HK.out.trans hk2)
        clear hs2 hk2
        go_wp2_with fail
        go_ret
        rw [HE.out]
        exact ⟨rfl, HS2.out, HK2.out⟩
      | true =>
        obtain ⟨n, hn, he⟩ := HM1.out rfl
        obtain ⟨n, rfl⟩ : ∃ n', n = n' + 1 := ⟨n - 1, by omega⟩
        have HE := Lib.hid he
        have HX := Lib.hid (HWd.out t2 wr HS.out)
        have hlen := wordT_len t2
        clear HM1 HM2 he
        rcases hy : wordT t2 with ⟨o, t3⟩
        rw [hy] at HX hlen
        cases o with
        | none =>
          have HE2 : Hid (wayL (n + 1) t2 = (false, t3)) := by unfold Hid wayL; rw [hy]
          clear hy hlen
          go_wp2_with fail
          with_reducible refine HX.out.mono ?_
          rintro e w2 ⟨rfl, hs2, hk2⟩
          have HS2 := Lib.hid hs2
          have HK2 := Lib.hid (HK.out.trans hk2)
          clear hs2 hk2
          unfold wordV
          go_wp2_with fail
          go_ret
          rw [HE.out, HE2.out]
          exact ⟨rfl, HS2.out, HK2.out⟩
        | some x =>
          have hlen3 : t3.length + 1 = t2.length := by simpa using hlen
          have h44 := takesT_le 44 t3
          have h64 := takesT_len 64 (takesT 44 t3).2
          have HE2 : Hid (wayL (n + 1) t2 = match takesT 64 (takesT 44 t3).2 with
            | (true, t4) => wayL n t4
            | (false, t4) => takesT 58 t4) := by
              unfold Hid
              rw [wayL]
              rw [hy]
              rcases hq : takesT 64 (takesT 44 t3).2 with ⟨q, t9⟩
              cases q <;> simp only [hq]
          clear hy hlen
          go_wp2_with fail
          with_reducible refine HX.out.mono ?_
          rintro e w2 ⟨rfl, hs2, hk2⟩
          have HS2 := Lib.hid hs2
          have HK2 := Lib.hid (HK.out.trans hk2)
          have HX44 := Lib.hid (HT44.out t3 w2 hs2)
          clear hs2 hk2
          unfold wordV
          go_wp2_with fail
          with_reducible refine HX44.out.mono ?_
          rintro e w3 ⟨rfl, hs3, hk3⟩
          have HS3 := Lib.hid hs3
          have HK3 := Lib.hid (HK2.out.trans hk3)
          have HX64 := Lib.hid (HT64.out _ w3 hs3)
          clear hs3 hk3
          go_wp2_with fail
          with_reducible refine HX64.out.mono ?_
          rintro e w4 ⟨rfl, hs4, hk4⟩
          have HS4 := Lib.hid hs4
          have HK4 := Lib.hid (HK3.out.trans hk4)
          clear hs4 hk4
          rcases hz : takesT 64 (takesT 44 t3).2 with ⟨m4, t4⟩
          rw [hz] at h64 HE2 HS4
          have HM4 : Hid (m4 = true → ∃ n, t4.length < n ∧ wayT ts = wayL n t4) := by
            rintro rfl
            refine ⟨n, ?_, ?_⟩
            · simp at h64
              omega
            · rw [HE.out, HE2.out]
          have HM5 : Hid (m4 = false → wayT ts = takesT 58 t4) := by
            rintro rfl
            rw [HE.out, HE2.out]
          clear HE HE2 hz
          go_wp2_with fail
          go_roundg (t4.length + (if m4 then 1 else 0))
          case measure =>
            show t4.length + _ < t2.length + 1
            have h64' : t4.length + (if m4 = true then 1 else 0) = (takesT 44 t3).2.length := h64
            omega
          case rel => exact ⟨m4, t4, rfl, rfl, HS4.out, HK4.out, HM4.out, HM5.out⟩
end Go.Proofs.YtjlcphofkepajaaGreat
