/- Plain words of layer 11: a moment's text is read as it was. -/
import Derived.Test.YtfndidcoahammaaDoorDvM
import Derived.Test.YtfndidcoahammaaDoorDtV
namespace Go.Proofs.YtfndidcoahammaaDoor

theorem twoD_day {d : Nat} {d1 d2 : UInt8} (h : d < 100) (e : day2 d = [d1, d2]) (r : List UInt8) : twoD (d1 :: d2 :: r) = some d := by
  unfold day2 at e
  unfold twoD
  by_cases h1 : d < 10
  · rw [if_pos h1] at e
    simp only [List.cons.injEq, and_true] at e
    obtain ⟨rfl, rfl⟩ := e
    rw [if_neg (by rw [dig2_cons]; intro hh; exact absurd hh.1 (by decide))]
    have h2 : digOk 1 (((32 : UInt8) :: dgt d :: r).drop 1) := dig1_cons.2 (dgt_dig d)
    rw [if_pos ⟨rfl, h2⟩]
    show some (numOf [dgt d]) = some d
    rw [num1 d h1]
  · rw [if_neg h1] at e
    simp only [List.cons.injEq, and_true] at e
    obtain ⟨rfl, rfl⟩ := e
    rw [if_pos (dig2_cons.2 ⟨dgt_dig _, dgt_dig _⟩)]
    show some (numOf [dgt (d / 10), dgt d]) = some d
    rw [num2 d h]
/-- A zone's minutes, by its sign. -/
def zoneMin (zh zm : Nat) (sg : UInt8) : Int := if sg = 45 then -((zh * 60 + zm : Nat) : Int) else ((zh * 60 + zm : Nat) : Int)
theorem zonK_is {zh zm : Nat} {sg : UInt8} (hs : sg = 43 ∨ sg = 45) (hzh : zh ≤ 23) (hzm : zm ≤ 59) (r : List UInt8) :
    zonK (sg :: dgt (zh / 10) :: dgt zh :: dgt (zm / 10) :: dgt zm :: r) = some (zoneMin zh zm sg) := by
  have hk : awayK (sg :: dgt (zh / 10) :: dgt zh :: dgt (zm / 10) :: dgt zm :: r) = some (zh, zm) := by
    unfold awayK
    have h4 : digOk 4 ((sg :: dgt (zh / 10) :: dgt zh :: dgt (zm / 10) :: dgt zm :: r).drop 1) := dig4_cons.2 ⟨dgt_dig _, dgt_dig _, dgt_dig _, dgt_dig _⟩
    rw [if_pos ⟨by rcases hs with rfl | rfl <;> simp, h4⟩]
    show some (numOf [dgt (zh / 10), dgt zh], numOf [dgt (zm / 10), dgt zm]) = some (zh, zm)
    rw [num2 zh (by omega), num2 zm (by omega)]
  unfold zonK
  rw [hk]
  simp only
  rw [if_pos ⟨hzh, hzm⟩]
  unfold awayM zoneMin
  rcases hs with rfl | rfl
  · simp
  · simp
theorem intK_back {y m d x zh zm : Nat} {sg : UInt8} (hy : y < 10000) (hm : m < 12) (hd : d < 100) (hx : x < 86400) (hs : sg = 43 ∨ sg = 45) (hzh : zh ≤ 23) (hzm : zm ≤ 59) :
    intK (intT0 y m d x zh zm sg) = momentK y m d (x / 3600) (x % 3600 / 60) (x % 60) (zoneMin zh zm sg) := by
  obtain ⟨a, b, c, hmn, hmi, _⟩ := mon_cons m hm
  obtain ⟨d1, d2, hd2, hL⟩ := intT_is (x := x) (zh := zh) (zm := zm) (sg := sg) hy hd hx (by omega) (by omega) hmn
  rw [hL]
  have c1 := twoD_day hd hd2 [45, a, b, c, 45, dgt (y / 1000), dgt (y / 100), dgt (y / 10), dgt y, 32, dgt (x / 3600 / 10), dgt (x / 3600), 58, dgt (x % 3600 / 60 / 10), dgt (x % 3600 / 60), 58, dgt (x % 60 / 10), dgt (x % 60), 32, sg, dgt (zh / 10), dgt zh, dgt (zm / 10), dgt zm, 34]
  have c2 := hmi [45, dgt (y / 1000), dgt (y / 100), dgt (y / 10), dgt y, 32, dgt (x / 3600 / 10), dgt (x / 3600), 58, dgt (x % 3600 / 60 / 10), dgt (x % 3600 / 60), 58, dgt (x % 60 / 10), dgt (x % 60), 32, sg, dgt (zh / 10), dgt zh, dgt (zm / 10), dgt zm, 34]
  have c3 := zonK_is hs hzh hzm [34]
  have n4 := num4 y hy
  have nh := num2 (x / 3600) (by omega)
  have ni := num2 (x % 3600 / 60) (by omega)
  have nx := num2 (x % 60) (by omega)
  obtain ⟨L, hLd⟩ : ∃ L, L = [34, d1, d2, 45, a, b, c, 45, dgt (y / 1000), dgt (y / 100), dgt (y / 10), dgt y, 32, dgt (x / 3600 / 10), dgt (x / 3600), 58, dgt (x % 3600 / 60 / 10), dgt (x % 3600 / 60), 58, dgt (x % 60 / 10), dgt (x % 60), 32, sg, dgt (zh / 10), dgt zh, dgt (zm / 10), dgt zm, 34] := ⟨_, rfl⟩
  rw [← hLd]
  have e1 : twoD (L.drop 1) = some d := by rw [hLd]; exact c1
  have e2 : monI (L.drop 4) = m := by rw [hLd]; exact c2
  have e3 : zonK (L.drop 22) = some (zoneMin zh zm sg) := by rw [hLd]; exact c3
  have e4 : intY L = y := by rw [hLd]; exact n4
  have e5 : intH L = x / 3600 := by rw [hLd]; exact nh
  have e6 : intI L = x % 3600 / 60 := by rw [hLd]; exact ni
  have e7 : intX L = x % 60 := by rw [hLd]; exact nx
  have e8 : intM L = m := e2
  have e9 : intD L = d := by unfold intD; rw [e1]; rfl
  have e10 : intZ L = zoneMin zh zm sg := by unfold intZ; rw [e3]; rfl
  have hC : intC L := by
    refine ⟨by rw [hLd]; rfl, by rw [e1]; rfl, by rw [hLd]; rfl, by rw [e2]; exact hm, by rw [hLd]; rfl, ?_, by rw [hLd]; rfl, ?_, by rw [hLd]; rfl, ?_, by rw [hLd]; rfl, ?_, by rw [hLd]; rfl, by rw [e3]; rfl, by rw [hLd]; rfl⟩
    · rw [hLd]; exact dig4_cons.2 ⟨dgt_dig _, dgt_dig _, dgt_dig _, dgt_dig _⟩
    · rw [hLd]; exact dig2_cons.2 ⟨dgt_dig _, dgt_dig _⟩
    · rw [hLd]; exact dig2_cons.2 ⟨dgt_dig _, dgt_dig _⟩
    · rw [hLd]; exact dig2_cons.2 ⟨dgt_dig _, dgt_dig _⟩
  unfold intK
  rw [if_pos ⟨hC, by rw [hLd]; rfl, by rw [e7]; omega⟩, e4, e8, e9, e5, e6, e7, e10]
/-- The moment of such parts. -/
theorem moment_is {y m d x zh zm : Nat} {sg : UInt8} {N : Int} (hN : numberK y m d = some N) (hx : x < 86400) :
    momentK y m d (x / 3600) (x % 3600 / 60) (x % 60) (zoneMin zh zm sg) = some (N * 86400 + (x : Int) - 60 * zoneMin zh zm sg, zoneMin zh zm sg) := by
  unfold momentK momK
  rw [hN]
  simp only
  rw [if_neg (by omega)]
  congr 2
  omega
/-- A day's text, without the blank. -/
def dayT (y m d : Nat) : List UInt8 := (if d < 10 then [dgt d] else [dgt (d / 10), dgt d]) ++ [45] ++ (monN m).data.toList ++ [45] ++ [dgt (y / 1000), dgt (y / 100), dgt (y / 10), dgt y]
theorem dayK_is {y m d : Nat} (hy : y < 10000) (hm : m < 12) (hd : d < 100) : dayK (dayT y m d) = some (y, m, d) := by
  obtain ⟨a, b, c, hmn, hmi, _⟩ := mon_cons m hm
  have n4 := num4 y hy
  have c2 := hmi [45, dgt (y / 1000), dgt (y / 100), dgt (y / 10), dgt y]
  unfold dayT
  rw [hmn]
  by_cases h1 : d < 10
  · rw [if_pos h1]
    obtain ⟨L, hLd⟩ : ∃ L, L = [dgt d] ++ [45] ++ [a, b, c] ++ [45] ++ [dgt (y / 1000), dgt (y / 100), dgt (y / 10), dgt y] := ⟨_, rfl⟩
    rw [← hLd]
    have hn : nD L = 1 := by
      unfold nD
      rw [if_neg]
      rw [hLd]
      intro hh
      exact absurd (dig2_cons.1 hh).2 (by decide)
    have hC : bareC L := by
      unfold bareC
      rw [hn]
      refine ⟨.inr (by rw [hLd]; exact dig1_cons.2 (dgt_dig d)), by rw [hLd]; rfl, ?_, by rw [hLd]; rfl, by rw [hLd]; exact dig4_cons.2 ⟨dgt_dig _, dgt_dig _, dgt_dig _, dgt_dig _⟩⟩
      rw [hLd]
      exact Nat.lt_of_le_of_lt (Nat.le_of_eq c2) hm
    rw [dayK_some hC (by rw [hn, hLd]; rfl)]
    unfold dayV
    rw [hn, hLd]
    have e1 : numOf ([dgt d] : List UInt8) = d := num1 d h1
    show some (numOf [dgt (y / 1000), dgt (y / 100), dgt (y / 10), dgt y], monI [a, b, c, 45, dgt (y / 1000), dgt (y / 100), dgt (y / 10), dgt y], numOf [dgt d]) = _
    rw [n4, c2, e1]
  · rw [if_neg h1]
    obtain ⟨L, hLd⟩ : ∃ L, L = [dgt (d / 10), dgt d] ++ [45] ++ [a, b, c] ++ [45] ++ [dgt (y / 1000), dgt (y / 100), dgt (y / 10), dgt y] := ⟨_, rfl⟩
    rw [← hLd]
    have hn : nD L = 2 := by
      unfold nD
      rw [if_pos]
      rw [hLd]
      exact dig2_cons.2 ⟨dgt_dig _, dgt_dig _⟩
    have hC : bareC L := by
      unfold bareC
      rw [hn]
      refine ⟨.inl (by rw [hLd]; exact dig2_cons.2 ⟨dgt_dig _, dgt_dig _⟩), by rw [hLd]; rfl, ?_, by rw [hLd]; rfl, by rw [hLd]; exact dig4_cons.2 ⟨dgt_dig _, dgt_dig _, dgt_dig _, dgt_dig _⟩⟩
      rw [hLd]
      exact Nat.lt_of_le_of_lt (Nat.le_of_eq c2) hm
    rw [dayK_some hC (by rw [hn, hLd]; rfl)]
    unfold dayV
    rw [hn, hLd]
    have e1 : numOf ([dgt (d / 10), dgt d] : List UInt8) = d := num2 d hd
    show some (numOf [dgt (y / 1000), dgt (y / 100), dgt (y / 10), dgt y], monI [a, b, c, 45, dgt (y / 1000), dgt (y / 100), dgt (y / 10), dgt y], numOf [dgt (d / 10), dgt d]) = _
    rw [n4, c2, e1]
theorem dayT_head (y m d : Nat) : ∃ n r, dayT y m d = dgt n :: r := by
  unfold dayT
  split
  · exact ⟨_, _, rfl⟩
  · exact ⟨_, _, rfl⟩
theorem dgt_34 (n : Nat) : dgt n ≠ 34 := by
  intro e
  have := congrArg UInt8.toNat e
  rw [dgt_nat] at this
  have e34 : (34 : UInt8).toNat = 34 := rfl
  omega
theorem parseDay_bare {y m d : Nat} (hy : y < 10000) (hm : m < 12) (hd : d < 100) : parseDayK (dayT y m d) = numberK y m d := by
  have h : dayQ (dayT y m d) = some (y, m, d) := by
    unfold dayQ
    rw [if_neg, dayK_is hy hm hd]
    intro hq
    have h2 := (of_decide_eq_true hq).2.1
    obtain ⟨n, r, e⟩ := dayT_head y m d
    rw [e] at h2
    exact dgt_34 n (by simpa using h2)
  unfold parseDayK
  rw [h]
theorem parseDay_quot {y m d : Nat} (hy : y < 10000) (hm : m < 12) (hd : d < 100) : parseDayK ([34] ++ dayT y m d ++ [34]) = numberK y m d := by
  have hin : innD ([34] ++ dayT y m d ++ [34]) = dayT y m d := by
    unfold innD
    rw [List.append_assoc]
    show ((dayT y m d) ++ [34]).take _ = _
    rw [List.length_append, List.length_append]
    simp only [List.length_cons, List.length_nil]
    rw [show 0 + 1 + ((dayT y m d).length + (0 + 1)) - 2 = (dayT y m d).length by omega, List.take_left]
  have h : dayQ ([34] ++ dayT y m d ++ [34]) = some (y, m, d) := by
    unfold dayQ
    rw [if_pos, hin, dayK_is hy hm hd]
    refine decide_eq_true ⟨by simp, rfl, ?_⟩
    rw [List.append_assoc, List.length_append, List.length_append]
    simp only [List.length_cons, List.length_nil]
    show ((34 :: (dayT y m d ++ [34])).drop _).head? = _
    rw [show 0 + 1 + ((dayT y m d).length + (0 + 1)) - 1 = (dayT y m d).length + 1 by omega, List.drop_succ_cons, List.drop_left]
    rfl
  unfold parseDayK
  rw [h]
end Go.Proofs.YtfndidcoahammaaDoor
