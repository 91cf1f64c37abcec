/- The law SectionCuts. -/
import Derived.Test.YthcleaflhljdlaaGreatDoorSeS
import Derived.Test.YthcleaflhljdlaaGreatDoorChars9
import Derived.Test.YthcleaflhljdlaaGreatDoorSeO
namespace Go.Proofs.YthcleaflhljdlaaGreatDoor
open Go Go.RowKit

theorem specL_cut (C : List UInt8) : specL (91 :: 93 :: C) = match cutL C with | none => none | some (c, a, b, r) => if r = [] then some ⟨[], ((0 : Nat) : Int), [], c, a, b⟩ else none := by
  have h1 : takeP [91] (91 :: 93 :: C) = some (93 :: C) := rfl
  have h2 : askL ((93 :: C).length + 1) (93 :: C) [] = some ([], 0, 93 :: C) := by
    have e1 : (93 :: C).takeWhile isDig = [] := List.takeWhile_cons_of_neg (by decide)
    have e2 : (93 :: C).takeWhile whatB = [] := List.takeWhile_cons_of_neg (by decide)
    have e3 : (93 :: C).dropWhile whatB = 93 :: C := List.dropWhile_cons_of_neg (by decide)
    rw [askL_what (q := 0) (by rw [e1]; exact numSpec_nil) (by rw [e2]; exact whatOf_nil), e3]
    rfl
  have h3 : namesL (93 :: C) = some ([], 93 :: C) := rfl
  have h4 : takeP [93] (93 :: C) = some C := rfl
  unfold specL
  rw [h1]
  simp only
  rw [h2]
  simp only
  rw [h3]
  simp only
  rw [h4]
  cases h : cutL C with
  | none => simp only [h]
  | some z => simp only [h]
theorem take_dig {d r : List UInt8} (h : d.all isDig = true) (hr : ∀ x, r.head? = some x → isDig x = false) : (d ++ r).takeWhile isDig = d ∧ (d ++ r).dropWhile isDig = r := takeWhile_stop isDig d r h hr
def cutC (d1 d2 : List UInt8) : List UInt8 := 60 :: (d1 ++ 46 :: (d2 ++ [62]))
theorem cutC_1 (d1 d2 : List UInt8) (h1 : d1.all isDig = true) (n1 : numSpec d1 = none) : cutL (cutC d1 d2) = none := by
  have e := take_dig (r := 46 :: (d2 ++ [62])) h1 (fun x hx => by cases hx; exact isDig_46)
  exact cutL_1 (r := d1 ++ 46 :: (d2 ++ [62])) rfl (by rw [e.1]; exact n1)
theorem cutC_3 (d1 d2 : List UInt8) (h1 : d1.all isDig = true) (h2 : d2.all isDig = true) (a : Nat) (n1 : numSpec d1 = some a) (n2 : numSpec d2 = none) : cutL (cutC d1 d2) = none := by
  have e := take_dig (r := 46 :: (d2 ++ [62])) h1 (fun x hx => by cases hx; exact isDig_46)
  have e2 := take_dig (r := [62]) h2 (fun x hx => by cases hx; exact isDig_62)
  exact cutL_3 (r := d1 ++ 46 :: (d2 ++ [62])) (r2 := d2 ++ [62]) (a := a) rfl (by rw [e.1]; exact n1) (by rw [e.2]; rfl) (by rw [e2.1]; exact n2)
theorem cutC_5 (d1 d2 : List UInt8) (h1 : d1.all isDig = true) (h2 : d2.all isDig = true) (a b : Nat) (n1 : numSpec d1 = some a) (n2 : numSpec d2 = some b) : cutL (cutC d1 d2) = some (true, (a : Int), (b : Int), []) := by
  have e := take_dig (r := 46 :: (d2 ++ [62])) h1 (fun x hx => by cases hx; exact isDig_46)
  have e2 := take_dig (r := [62]) h2 (fun x hx => by cases hx; exact isDig_62)
  exact cutL_5 (r := d1 ++ 46 :: (d2 ++ [62])) (r2 := d2 ++ [62]) (r3 := []) rfl (by rw [e.1]; exact n1) (by rw [e.2]; rfl) (by rw [e2.1]; exact n2) (by rw [e2.2]; rfl)
theorem itoa_all (n : Nat) : (Lib.itoa (n : Int)).all isDig = true := by rw [Lib.itoa_nonneg]; exact decDigits_all n
theorem numSpec_itoa (n : Nat) (h : n ≤ 4294967295) : numSpec (Lib.itoa (n : Int)) = some n := by
  have := numSpec_itoa_good (n : Int) (by omega) (by omega)
  simpa using this
def cutS (a b : Nat) : Spc := ⟨[], 0, [], true, (a : Int), (b : Int)⟩
theorem cuts_good (a b : Nat) (ha : a ≤ 4294967295) (hb : 1 ≤ b) (hb2 : b ≤ 4294967295) : specC (91 :: 93 :: cutC (Lib.itoa (a : Int)) (Lib.itoa (b : Int))) = some (cutS a b) := by
  have hc : checkS (cutS a b) = true := by
    have h1 : numOk 0 (a : Int) = true := (numOk_iff _ _).2 (by omega)
    have h2 : numOk 1 (b : Int) = true := (numOk_iff _ _).2 (by omega)
    show (true && (true && (numOk 0 (a : Int) && numOk 1 (b : Int)))) = true
    rw [h1, h2]
    rfl
  unfold specC
  rw [specL_cut, cutC_5 _ _ (itoa_all a) (itoa_all b) a b (numSpec_itoa a ha) (numSpec_itoa b hb2)]
  simp only [if_true]
  have e : (⟨[], ((0 : Nat) : Int), [], true, (a : Int), (b : Int)⟩ : Spc) = cutS a b := rfl
  rw [e, if_pos hc]
theorem cuts_bad (a b : Nat) (h : ¬ (a ≤ 4294967295 ∧ 1 ≤ b ∧ b ≤ 4294967295)) : specC (91 :: 93 :: cutC (Lib.itoa (a : Int)) (Lib.itoa (b : Int))) = none := by
  unfold specC
  rw [specL_cut]
  by_cases ha : a ≤ 4294967295
  · by_cases hb : b ≤ 4294967295
    · rw [cutC_5 _ _ (itoa_all a) (itoa_all b) a b (numSpec_itoa a ha) (numSpec_itoa b hb)]
      simp only [if_true]
      have hc : checkS (⟨[], ((0 : Nat) : Int), [], true, (a : Int), (b : Int)⟩ : Spc) = false := by
        have h2 : numOk 1 (b : Int) = false := by
          cases hk : numOk 1 (b : Int) with
          | false => rfl
          | true => have := (numOk_iff _ _).1 hk; omega
        show (true && (true && (numOk 0 (a : Int) && numOk 1 (b : Int)))) = false
        rw [h2]
        simp
      rw [hc]
      rfl
    · rw [cutC_3 _ _ (itoa_all a) (itoa_all b) a (numSpec_itoa a ha) (numSpec_itoa_great _ (by omega))]
  · rw [cutC_1 _ _ (itoa_all a) (numSpec_itoa_great _ (by omega))]
theorem cuts_put (a b : Nat) (ha : a ≤ 4294967295) (hb : 1 ≤ b) (hb2 : b ≤ 4294967295) : putS (cutS a b) false = 91 :: 93 :: cutC (Lib.itoa (a : Int)) (Lib.itoa (b : Int)) := by
  have hc : checkS (cutS a b) = true := by
    have h1 : numOk 0 (a : Int) = true := (numOk_iff _ _).2 (by omega)
    have h2 : numOk 1 (b : Int) = true := (numOk_iff _ _).2 (by omega)
    show (true && (true && (numOk 0 (a : Int) && numOk 1 (b : Int)))) = true
    rw [h1, h2]
    rfl
  unfold putS
  rw [if_pos hc]
  rfl
theorem SpV.parts {base : Nat} {W : World} {s : Spc} {v : Value} (h : SpV base W s v) (hn : ∀ a ∈ s.names, a.length ≤ 1000000000) : ∃ a1 c1 a2 c2, v = .agg #[.slice a1 s.path.length c1, .int .i64 s.what, .slice a2 s.names.length c2, .bool s.cut, .int .i64 s.frm, .int .i64 s.many] ∧ SpA W s a1 a2 c1 c2 := by
  obtain ⟨a1, c1, a2, c2, e, h1, h2⟩ := h
  exact ⟨a1, c1, a2, c2, e, ⟨rowOf_owned h1, rowOf_owned h2, hn⟩⟩

set_option maxRecDepth 100000 in
set_option maxHeartbeats 4000000 in
theorem sectionCuts_any (x y : Nat) (w : World) (hx : x ≤ 18446744073709551615) (hy : y ≤ 18446744073709551615) (he : env w) :
    Calls Tryz.prog 6 #[.int .u64 (x : Int), .int .u64 (y : Int)] w fun e w' => e = .returned (.bool true) ∧ Below w.heap.size w w' := by
  obtain ⟨a, ha⟩ : ∃ a, a = x % 9999999999 := ⟨_, rfl⟩
  obtain ⟨b, hb⟩ : ∃ b, b = y % 9999999999 := ⟨_, rfl⟩
  have m1 : (x : Int) % 9999999999 = (a : Int) := by omega
  have m2 : (y : Int) % 9999999999 = (b : Int) := by omega
  have t1 : (x : Int).tmod 9999999999 = (a : Int) := by rw [Int.tmod_eq_emod_of_nonneg (by omega)]; exact m1
  have t2 : (y : Int).tmod 9999999999 = (b : Int) := by rw [Int.tmod_eq_emod_of_nonneg (by omega)]; exact m2
  have la : a < 9999999999 := by omega
  have lb : b < 9999999999 := by omega
  have HA := Lib.hid (awake_any w he)
  have HD := Lib.hid (fun (n : Nat) W (h : n < 9999999999) => refDigits_any (n : Int) (by omega) (by omega) W)
  have HDa := Lib.hid (fun W => HD.out a W la)
  have HDb := Lib.hid (fun W => HD.out b W lb)
  have HE := Lib.hid he
  have hla := Lib.itoa_length_le (a : Int) (by omega) (by omega)
  have hlb := Lib.itoa_length_le (b : Int) (by omega) (by omega)
  have HG := Lib.hid (cuts_good a b)
  have HBd := Lib.hid (cuts_bad a b)
  have HPt := Lib.hid (cuts_put a b)
  obtain ⟨d1, hd1⟩ : ∃ d, d = Lib.itoa (a : Int) := ⟨_, rfl⟩
  obtain ⟨d2, hd2⟩ : ∃ d, d = Lib.itoa (b : Int) := ⟨_, rfl⟩
  rw [← hd1] at HDa HG HBd HPt hla
  rw [← hd2] at HDb HG HBd HPt hlb
  obtain ⟨S, hS⟩ : ∃ S : ByteArray, S = (⟨#[91, 93, 60]⟩ : ByteArray) ++ ⟨d1.toArray⟩ ++ ⟨#[46]⟩ ++ ⟨d2.toArray⟩ ++ ⟨#[62]⟩ := ⟨_, rfl⟩
  have hSl : S.data.toList = 91 :: 93 :: cutC d1 d2 := by
    rw [hS]
    unfold cutC
    simp [ByteArray.data_append]
  have HSz : S.size ≤ 1000 := by
    rw [← len_toList, hSl]
    simp [cutC]
    omega
  have HSe : Hid ((⟨#[91, 93, 60]⟩ : ByteArray) ++ ⟨d1.toArray⟩ ++ ⟨#[46]⟩ ++ ⟨d2.toArray⟩ ++ ⟨#[62]⟩ = S) := hS.symm
  have HSl := Lib.hid hSl
  rw [← hSl] at HG HBd HPt
  clear ha hb hd1 hd2 hS hSl he HD
  go_enter Tryz.func6, Tryz.ntmps6
  go_wp2_with fail
  with_reducible refine HA.out.mono ?_
  rintro e w1 ⟨rfl, hb1⟩
  have HB1 := Lib.hid hb1
  clear hb1 HA
  go_wp2_with fail
  with_reducible refine (HDa.out _).mono ?_
  rintro e w2 ⟨rfl, k2, rfl⟩
  have HB2 := Lib.hid (below_drewN HB1.out k2)
  go_wp2_with fail
  with_reducible refine (HDb.out _).mono ?_
  rintro e w3 ⟨rfl, k3, rfl⟩
  have HB3 := Lib.hid (below_drewN HB2.out k3)
  obtain ⟨W3, hW3⟩ : ∃ W3, W3 = (w1.drewN k2).drewN k3 := ⟨_, rfl⟩
  rw [← hW3] at HB3 ⊢
  clear hW3 HB2 HB1
  have hP := parse_any S W3 (by omega) (HE.out.below HB3.out).2
  go_upto_region 5 with fail
  rw [HSe.out]
  by_cases hg : a ≤ 4294967295 ∧ 1 ≤ b ∧ b ≤ 4294967295
  · rw [HG.out hg.1 hg.2.1 hg.2.2] at hP
    have hpt := HPt.out hg.1 hg.2.1 hg.2.2
    unfold ParseIs at hP
    simp only at hP
    have HP := Lib.hid hP
    obtain ⟨g1, g2, g3⟩ := hg
    have i1 : (a : Int) ≤ 4294967295 := by omega
    have i2 : 1 ≤ (b : Int) := by omega
    have i3 : (b : Int) ≤ 4294967295 := by omega
    clear hP HG HBd HPt
    go_wp2_with fail
    with_reducible refine HP.out.mono ?_
    rintro e w4 ⟨v, rfl, hv, hn, hb4⟩
    obtain ⟨a1, c1, a2, c2, rfl, hsp⟩ := hv.parts hn
    have HB4 := Lib.hid (HB3.out.trans (hb4.mono HB3.out.size))
    have HSp := Lib.hid hsp
    clear hv hn hb4 hsp
    unfold cutS at HSp ⊢
    simp only [List.length_nil] at HSp ⊢
    obtain ⟨W5, hW5⟩ : ∃ W5, W5 = w4.alloc (.cells #[.slice a1 0 c1, .int .i64 0, .slice a2 0 c2, .bool true, .int .i64 (a : Int), .int .i64 (b : Int)] 26) := ⟨_, rfl⟩
    have hb45 : Below w4.heap.size w4 W5 := by rw [hW5]; exact (Below.refl _ _).alloc (Nat.le_refl _) _
    have hbx : Box W5 w4.heap.size (.slice a1 0 c1) 0 (.slice a2 0 c2) true (a : Int) (b : Int) := by rw [hW5]; exact heap_alloc_new w4 _
    have HW5 := Lib.hid hW5.symm
    have HB5 := Lib.hid (HB4.out.trans (hb45.mono HB4.out.size))
    have hPu := put_any (cutS a b) false a1 a2 c1 c2 W5 (HSp.out.below hb45) (HE.out.below HB5.out)
    rw [hpt] at hPu
    unfold strV spV cutS at hPu
    simp only [List.length_nil] at hPu
    have hse : (⟨S.data.toList.toArray⟩ : ByteArray) = S := bytes_eq (by simp)
    rw [hse] at hPu
    have HPu := Lib.hid hPu
    obtain ⟨R, hR⟩ : ∃ R, R = w4.heap.size := ⟨_, rfl⟩
    rw [← hR] at hbx
    have HR := Lib.hid hR
    obtain ⟨k0, k1, k2, k3, k4, k5⟩ := hbx.c
    clear hW5 hb45 hbx hR hPu hse hpt
    go_upto_region 8 with fail
    rw [HW5.out, ← HR.out]
    go_wp2_with fail
    with_reducible refine HPu.out.mono ?_
    rintro e w6 ⟨rfl, hb6⟩
    have HB6 := Lib.hid (HB5.out.trans (hb6.mono HB5.out.size))
    clear hb6
    go_wp2_with fail
    go_ret
    exact ⟨rfl, HB6.out⟩
  · rw [HBd.out hg] at hP
    unfold ParseIs zeroSp at hP
    simp only at hP
    have HP := Lib.hid hP
    clear hP HG HBd HPt
    by_cases g1 : a ≤ 4294967295
    · have i1 : (a : Int) ≤ 4294967295 := by omega
      by_cases g2 : 1 ≤ b
      · have i2 : 1 ≤ (b : Int) := by omega
        have i3 : ¬ (b : Int) ≤ 4294967295 := by omega
        clear hg
        go_wp2_with fail
        with_reducible refine HP.out.mono ?_
        rintro e w4 ⟨rfl, hb4⟩
        have HB4 := Lib.hid (HB3.out.trans (hb4.mono HB3.out.size))
        clear hb4
        go_wp2_with fail
        go_ret
        exact ⟨rfl, HB4.out.alloc HB4.out.size _⟩
      · have i2 : ¬ 1 ≤ (b : Int) := by omega
        clear hg
        go_wp2_with fail
        with_reducible refine HP.out.mono ?_
        rintro e w4 ⟨rfl, hb4⟩
        have HB4 := Lib.hid (HB3.out.trans (hb4.mono HB3.out.size))
        clear hb4
        go_wp2_with fail
        go_ret
        exact ⟨rfl, HB4.out.alloc HB4.out.size _⟩
    · have i1 : ¬ (a : Int) ≤ 4294967295 := by omega
      clear hg
      go_wp2_with fail
      with_reducible refine HP.out.mono ?_
      rintro e w4 ⟨rfl, hb4⟩
      have HB4 := Lib.hid (HB3.out.trans (hb4.mono HB3.out.size))
      clear hb4
      go_wp2_with fail
      go_ret
      exact ⟨rfl, HB4.out.alloc HB4.out.size _⟩
end Go.Proofs.YthcleaflhljdlaaGreatDoor
