/- Contracts of package section: cut. -/
import Derived.Test.YthcleaflhljdlaaGreatDoorSeF
namespace Go.Proofs.YthcleaflhljdlaaGreatDoor
open Go Go.RowKit

theorem takes_gen (B : Nat) (s : ByteArray) (k : Nat) (l : List UInt8) (p : List UInt8) (q : ByteArray) (w : World) (hq : q.data.toList = p) (hp : p.length ≤ 1000) (hd : s.data.toList.drop k = l) (hr : Rd w B s k) (hl : s.size ≤ 1000000000) (hk : k ≤ s.size) :
    Calls Tryz.prog 32 #[.pointer (some ⟨B, 0, none⟩), .string q] w fun e w' => ∃ (b : Bool) (k' : Nat), e = .returned (.bool b) ∧ Rd w' B s k' ∧ k' ≤ s.size ∧ Gr B w w' ∧ (b = true → takeP p l = some (s.data.toList.drop k')) ∧ (b = false → takeP p l = none ∧ k' = k) := by
  subst hd hq
  refine (takesP_any B s q k w hr hl (by simpa using hp) hk).mono fun e w' ⟨he, k', h1, h2, h3, h4, h5⟩ => ?_
  cases h : takeP q.data.toList (s.data.toList.drop k) with
  | none =>
    rw [h] at he
    exact ⟨false, k', he, h1, h2, h5, fun h => (by cases h), fun _ => ⟨rfl, h3 h⟩⟩
  | some r =>
    rw [h] at he
    exact ⟨true, k', he, h1, h2, h5, fun _ => by rw [h4 r h], fun h => (by cases h)⟩
theorem rdNumber_gen (B : Nat) (s : ByteArray) (k : Nat) (l : List UInt8) (w : World) (hd : s.data.toList.drop k = l) (hr : Rd w B s k) (hl : s.size ≤ 1000000000) (hk : k ≤ s.size) :
    Calls Tryz.prog 46 #[.pointer (some ⟨B, 0, none⟩)] w fun e w' => ∃ (n : Nat) (b : Bool) (k' : Nat), e = .returned (.tuple #[.int .i64 (n : Int), .bool b]) ∧ Rd w' B s k' ∧ k' ≤ s.size ∧ Gr B w w' ∧
      (b = true → numSpec (l.takeWhile isDig) = some n ∧ s.data.toList.drop k' = l.dropWhile isDig) ∧ (b = false → numSpec (l.takeWhile isDig) = none) := by
  cases h : numSpec (l.takeWhile isDig) with
  | none => exact (rdNumber_no B s k l w hd h hr hl hk).mono fun e w' ⟨he, h1, h2⟩ => ⟨0, false, k, he, h1, hk, h2, fun h => (by cases h), fun _ => rfl⟩
  | some n => exact (rdNumber_yes B s k l n w hd h hr hl hk).mono fun e w' ⟨he, k', h1, h2, h3, h4⟩ => ⟨n, true, k', he, h1, h2, h4, fun _ => ⟨rfl, h3⟩, fun h => (by cases h)⟩
theorem cutL_off {l : List UInt8} (h : takeP [60] l = none) : cutL l = some (false, 0, 0, l) := by
  unfold cutL
  rw [h]
theorem cutL_1 {l r : List UInt8} (h : takeP [60] l = some r) (h1 : numSpec (r.takeWhile isDig) = none) : cutL l = none := by
  unfold cutL
  rw [h]
  simp only
  rw [h1]
theorem cutL_2 {l r : List UInt8} {a : Nat} (h : takeP [60] l = some r) (h1 : numSpec (r.takeWhile isDig) = some a) (h2 : takeP [46] (r.dropWhile isDig) = none) : cutL l = none := by
  unfold cutL
  rw [h]
  simp only
  rw [h1]
  simp only
  rw [h2]
theorem cutL_3 {l r r2 : List UInt8} {a : Nat} (h : takeP [60] l = some r) (h1 : numSpec (r.takeWhile isDig) = some a) (h2 : takeP [46] (r.dropWhile isDig) = some r2) (h3 : numSpec (r2.takeWhile isDig) = none) : cutL l = none := by
  unfold cutL
  rw [h]
  simp only
  rw [h1]
  simp only
  rw [h2]
  simp only
  rw [h3]
theorem cutL_4 {l r r2 : List UInt8} {a b : Nat} (h : takeP [60] l = some r) (h1 : numSpec (r.takeWhile isDig) = some a) (h2 : takeP [46] (r.dropWhile isDig) = some r2) (h3 : numSpec (r2.takeWhile isDig) = some b) (h4 : takeP [62] (r2.dropWhile isDig) = none) : cutL l = none := by
  unfold cutL
  rw [h]
  simp only
  rw [h1]
  simp only
  rw [h2]
  simp only
  rw [h3]
  simp only
  rw [h4]
theorem cutL_5 {l r r2 r3 : List UInt8} {a b : Nat} (h : takeP [60] l = some r) (h1 : numSpec (r.takeWhile isDig) = some a) (h2 : takeP [46] (r.dropWhile isDig) = some r2) (h3 : numSpec (r2.takeWhile isDig) = some b) (h4 : takeP [62] (r2.dropWhile isDig) = some r3) : cutL l = some (true, (a : Int), (b : Int), r3) := by
  unfold cutL
  rw [h]
  simp only
  rw [h1]
  simp only
  rw [h2]
  simp only
  rw [h3]
  simp only
  rw [h4]
def CutIs (B S : Nat) (s : ByteArray) (vp vn : Value) (q : Int) (w : World) (o : Option (Bool × Int × Int × List UInt8)) (e : Ending) (w' : World) : Prop :=
  match o with
  | some (c, a, b, r) => e = .returned (.bool true) ∧ ∃ (k' : Nat), Rd w' B s k' ∧ k' ≤ s.size ∧ s.data.toList.drop k' = r ∧ Box w' S vp q vn c a b ∧ G2 B S w w'
  | none => e = .returned (.bool false) ∧ ∃ (k' : Nat) (c : Bool) (a b : Int), Rd w' B s k' ∧ k' ≤ s.size ∧ Box w' S vp q vn c a b ∧ G2 B S w w'
set_option maxRecDepth 100000 in
set_option maxHeartbeats 4000000 in
theorem cut_sec (B S : Nat) (s : ByteArray) (k : Nat) (vp vn : Value) (q : Int) (w : World) (hr : Rd w B s k) (hx : Box w S vp q vn false 0 0) (hBS : B ≠ S) (hl : s.size ≤ 1000000000) (hk : k ≤ s.size) :
    Calls Tryz.prog 35 #[.pointer (some ⟨B, 0, none⟩), .pointer (some ⟨S, 0, none⟩)] w (CutIs B S s vp vn q w (cutL (s.data.toList.drop k))) := by
  have HX := Lib.hid hx
  have HT0 := Lib.hid (takes_gen B s k _ [60] ⟨#[60]⟩ w rfl (by decide) rfl hr hl hk)
  have HNg := Lib.hid (fun j W hr hk => rdNumber_gen B s j _ W rfl hr hl hk)
  have HTg := Lib.hid (fun j p q W hq hp hr hk => takes_gen B s j _ p q W hq hp rfl hr hl hk)
  clear hr hx
  go_enter Tryz.func35, Tryz.ntmps35
  go_wp2_with fail
  with_reducible refine HT0.out.mono ?_
  rintro e w1 ⟨b1, k1, rfl, hR1, hk1, hG1, hy1, hn1⟩
  have HBx1 := Lib.hid (HX.out.gr hG1 hBS.symm)
  have HG1 := Lib.hid ((G2.refl B S w).gr hG1)
  have HR1 := Lib.hid (hR1.other 3 (.bool b1) hBS)
  have c3 := HBx1.out.c.2.2.2.1
  have f3 := HBx1.out.f 3
  have HBx2 := Lib.hid (HBx1.out.set3 b1)
  have HG2 := Lib.hid (HG1.out.set 3 (.bool b1))
  have HY1 := Lib.hid hy1
  have HN1 := Lib.hid hn1
  have c3' := HBx2.out.c.2.2.2.1
  clear hR1 hG1 hy1 hn1 HT0 HX HBx1 HG1
  cases b1 with
  | false =>
    have HE := Lib.hid (cutL_off (HN1.out rfl).1)
    have HK := Lib.hid (HN1.out rfl).2
    go_wp2_with fail
    go_ret
    rw [HE.out]
    exact ⟨rfl, k1, HR1.out, hk1, by rw [HK.out], HBx2.out, HG2.out⟩
  | true =>
    have HE1 := Lib.hid (HY1.out rfl)
    have HNm := Lib.hid (HNg.out k1 _ HR1.out hk1)
    go_wp2_with fail
    with_reducible refine HNm.out.mono ?_
    rintro e w2 ⟨n2, b2, k2, rfl, hR2, hk2, hG2, hy2, hn2⟩
    have HBx3 := Lib.hid (HBx2.out.gr hG2 hBS.symm)
    have HG3 := Lib.hid (HG2.out.gr hG2)
    have HY2 := Lib.hid hy2
    have HN2 := Lib.hid hn2
    have HTm := Lib.hid (HTg.out k2 [46] ⟨#[46]⟩ w2 rfl (by decide) hR2 hk2)
    clear hR2 hG2 hy2 hn2 HNm HY1 HN1 HR1 HBx2 HG2 c3' c3 f3
    go_wp2_with fail
    with_reducible refine HTm.out.mono ?_
    rintro e w3 ⟨b3, k3, rfl, hR3, hk3, hG3, hy3, hn3⟩
    have HBx4 := Lib.hid (HBx3.out.gr hG3 hBS.symm)
    have HG4 := Lib.hid (HG3.out.gr hG3)
    have HY3 := Lib.hid hy3
    have HN3 := Lib.hid hn3
    have HNm := Lib.hid (HNg.out k3 _ hR3 hk3)
    clear hR3 hG3 hy3 hn3 HTm HBx3 HG3
    go_wp2_with fail
    with_reducible refine HNm.out.mono ?_
    rintro e w4 ⟨n4, b4, k4, rfl, hR4, hk4, hG4, hy4, hn4⟩
    have HBx5 := Lib.hid (HBx4.out.gr hG4 hBS.symm)
    have HG5 := Lib.hid (HG4.out.gr hG4)
    have HY4 := Lib.hid hy4
    have HN4 := Lib.hid hn4
    have HR5 := Lib.hid ((hR4.other 4 (.int .i64 (n2 : Int)) hBS).other 5 (.int .i64 (n4 : Int)) hBS)
    have c4 := HBx5.out.c.2.2.2.2.1
    have c5 := HBx5.out.c.2.2.2.2.2
    have f4 := HBx5.out.f 4
    have f5 := HBx5.out.f 5
    have HBx6 := Lib.hid (HBx5.out.set45 (n2 : Int) (n4 : Int))
    have HG6 := Lib.hid ((HG5.out.set 4 (.int .i64 (n2 : Int))).set 5 (.int .i64 (n4 : Int)))
    have HTm := Lib.hid (HTg.out k4 [62] ⟨#[62]⟩ _ rfl (by decide) HR5.out hk4)
    clear hR4 hG4 hy4 hn4 HNm HBx4 HG4
    cases b2 with
    | false =>
      have HE := Lib.hid (cutL_1 HE1.out (HN2.out rfl))
      go_wp2_with fail
      go_ret
      rw [HE.out]
      exact ⟨rfl, k4, _, _, _, HR5.out, hk4, HBx6.out, HG6.out⟩
    | true =>
      have HE2 := Lib.hid (HY2.out rfl)
      cases b3 with
      | false =>
        have h3 := (HN3.out rfl).1
        rw [HE2.out.2] at h3
        have HE := Lib.hid (cutL_2 HE1.out HE2.out.1 h3)
        clear h3
        go_wp2_with fail
        go_ret
        rw [HE.out]
        exact ⟨rfl, k4, _, _, _, HR5.out, hk4, HBx6.out, HG6.out⟩
      | true =>
        have h3 := HY3.out rfl
        rw [HE2.out.2] at h3
        have HE3 := Lib.hid h3
        clear h3
        cases b4 with
        | false =>
          have HE := Lib.hid (cutL_3 HE1.out HE2.out.1 HE3.out (HN4.out rfl))
          go_wp2_with fail
          go_ret
          rw [HE.out]
          exact ⟨rfl, k4, _, _, _, HR5.out, hk4, HBx6.out, HG6.out⟩
        | true =>
          have HE4 := Lib.hid (HY4.out rfl)
          go_wp2_with fail
          with_reducible refine HTm.out.mono ?_
          rintro e w6 ⟨b6, k6, rfl, hR6, hk6, hG6, hy6, hn6⟩
          have HBx7 := Lib.hid (HBx6.out.gr hG6 hBS.symm)
          have HG7 := Lib.hid (HG6.out.gr hG6)
          have HY6 := Lib.hid hy6
          have HN6 := Lib.hid hn6
          have HR6 := Lib.hid hR6
          clear hR6 hG6 hy6 hn6
          cases b6 with
          | false =>
            have h6 := (HN6.out rfl).1
            rw [HE4.out.2] at h6
            have HE := Lib.hid (cutL_4 HE1.out HE2.out.1 HE3.out HE4.out.1 h6)
            clear h6
            go_wp2_with fail
            go_ret
            rw [HE.out]
            exact ⟨rfl, k6, _, _, _, HR6.out, hk6, HBx7.out, HG7.out⟩
          | true =>
            have h6 := HY6.out rfl
            rw [HE4.out.2] at h6
            have HE := Lib.hid (cutL_5 HE1.out HE2.out.1 HE3.out HE4.out.1 h6)
            clear h6
            go_wp2_with fail
            go_ret
            rw [HE.out]
            exact ⟨rfl, k6, HR6.out, hk6, rfl, HBx7.out, HG7.out⟩
end Go.Proofs.YthcleaflhljdlaaGreatDoor
