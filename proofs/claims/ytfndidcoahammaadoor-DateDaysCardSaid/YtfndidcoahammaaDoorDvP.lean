/- Plain words of layer 11: a moment's text with blanks for strokes, as a header's. -/
import Derived.Test.YtfndidcoahammaaDoorDvN
import Derived.Test.YtfndidcoahammaaDoorDtL
namespace Go.Proofs.YtfndidcoahammaaDoor

theorem takeWhile_stop {p : UInt8 → Bool} {l r : List UInt8} {c : UInt8} (h : l.all p = true) (hc : p c = false) : (l ++ c :: r).takeWhile p = l := by
  induction l with
  | nil => rw [List.nil_append, List.takeWhile_cons, if_neg (by simp [hc])]
  | cons x l ih =>
    simp only [List.all_cons, Bool.and_eq_true] at h
    rw [List.cons_append, List.takeWhile_cons, if_pos h.1, ih h.2]
theorem bet_part {p r : List UInt8} (hp : p ≠ []) (h : p.all partB' = true) : bet (p ++ 32 :: r) = p :: bet r := by
  rw [bet_step (by simp)]
  rw [takeWhile_stop h (by decide), if_neg hp, List.drop_left]
  rfl
theorem bet_last {p : List UInt8} (hp : p ≠ []) (h : p.all partB' = true) : bet p = [p] := by
  rw [bet_step hp]
  have e : p.takeWhile partB' = p := by
    have h1 := List.takeWhile_append_of_pos (p := partB') (l₁ := p) (l₂ := []) (fun a ha => (List.all_eq_true.1 h) a ha)
    simpa using h1
  rw [e, if_neg hp, List.drop_length]
  show [p] ++ bet (beh 0 []) = [p]
  rfl
theorem dgt_part (n : Nat) : partB' (dgt n) = true := by
  have h := dgt_nat n
  unfold partB'
  rw [blk_of]
  have h1 : ¬ ((dgt n).toNat = 32 ∨ (dgt n).toNat = 9) := by omega
  rw [decide_eq_false h1]
  have h2 : dgt n ≠ 40 := fun e => by
    have := congrArg UInt8.toNat e
    have e40 : (40 : UInt8).toNat = 40 := rfl
    omega
  simpa using h2
/-- A day's digits. -/
def dayD (d : Nat) : List UInt8 := if d < 10 then [dgt d] else [dgt (d / 10), dgt d]
theorem dayD_tells {d : Nat} (hd : d < 100) : digN 1 2 (dayD d) = some d := by
  unfold digN dayD
  by_cases h : d < 10
  · rw [if_pos h]
    rw [if_pos ⟨by simp, by simp, by simp [dgt_dig]⟩, num1 d h]
  · rw [if_neg h]
    rw [if_pos ⟨by simp, by simp, by simp [dgt_dig]⟩, num2 d hd]
def headT (y m d x zh zm : Nat) (sg : UInt8) : List UInt8 := dayD d ++ 32 :: ((monN m).data.toList ++ 32 :: ([dgt (y / 1000), dgt (y / 100), dgt (y / 10), dgt y] ++ 32 :: ([dgt (x / 3600 / 10), dgt (x / 3600), 58, dgt (x % 3600 / 60 / 10), dgt (x % 3600 / 60), 58, dgt (x % 60 / 10), dgt (x % 60)] ++ 32 :: [sg, dgt (zh / 10), dgt zh, dgt (zm / 10), dgt zm])))
theorem parseK_back {y m d x zh zm : Nat} {sg : UInt8} (hy : y < 10000) (hm : m < 12) (hd : d < 100) (hx : x < 86400) (hs : sg = 43 ∨ sg = 45) (hzh : zh ≤ 23) (hzm : zm ≤ 59) :
    parseK (headT y m d x zh zm sg) = momentK y m d (x / 3600) (x % 3600 / 60) (x % 60) (zoneMin zh zm sg) := by
  obtain ⟨a, b, c, hmn, hmi, hmx⟩ := mon_cons m hm
  have hpm : ∀ u ∈ [a, b, c], partB' u = true := fun u hu => by
    obtain ⟨_, h2, h3⟩ := hmx u hu
    unfold partB'
    rw [h3]
    simpa using h2
  have hD0 : dayD d ≠ [] := by unfold dayD; split <;> simp
  have hD1 : (dayD d).all partB' = true := by
    unfold dayD
    split <;> simp [dgt_part]
  have hDl : (dayD d).length ≤ 2 := by unfold dayD; split <;> simp
  have hsp : partB' sg = true := by rcases hs with rfl | rfl <;> decide
  have h58 : partB' 58 = true := by decide
  have hb : bet (headT y m d x zh zm sg) = [dayD d, [a, b, c], [dgt (y / 1000), dgt (y / 100), dgt (y / 10), dgt y], [dgt (x / 3600 / 10), dgt (x / 3600), 58, dgt (x % 3600 / 60 / 10), dgt (x % 3600 / 60), 58, dgt (x % 60 / 10), dgt (x % 60)], [sg, dgt (zh / 10), dgt zh, dgt (zm / 10), dgt zm]] := by
    unfold headT
    rw [hmn, bet_part hD0 hD1, bet_part (by simp) (by simp [hpm a (by simp), hpm b (by simp), hpm c (by simp)]), bet_part (by simp) (by simp [dgt_part]), bet_part (by simp) (by simp [dgt_part, h58]), bet_last (by simp) (by simp [dgt_part, hsp])]
  unfold parseK textsL
  rw [hb]
  have hw : weekL [dayD d, [a, b, c], [dgt (y / 1000), dgt (y / 100), dgt (y / 10), dgt y], [dgt (x / 3600 / 10), dgt (x / 3600), 58, dgt (x % 3600 / 60 / 10), dgt (x % 3600 / 60), 58, dgt (x % 60 / 10), dgt (x % 60)], [sg, dgt (zh / 10), dgt zh, dgt (zm / 10), dgt zm]] = false := by
    refine decide_eq_false ?_
    rintro ⟨h, _⟩
    omega
  rw [hw]
  simp only [Bool.false_eq_true, if_false]
  have g2 : monOf [a, b, c] = some m := by
    unfold monOf
    rw [hmi []]
    exact if_pos ⟨rfl, hm⟩
  have g3 : yearOf [dgt (y / 1000), dgt (y / 100), dgt (y / 10), dgt y] = some y := by
    unfold yearOf
    rw [if_pos ⟨rfl, by simp [dgt_dig]⟩, num4 y hy]
  have g4 : clockOf [dgt (x / 3600 / 10), dgt (x / 3600), 58, dgt (x % 3600 / 60 / 10), dgt (x % 3600 / 60), 58, dgt (x % 60 / 10), dgt (x % 60)] = some (x / 3600, x % 3600 / 60, some (x % 60)) := by
    unfold clockOf
    rw [if_pos ⟨dig2_cons.2 ⟨dgt_dig _, dgt_dig _⟩, rfl, dig2_cons.2 ⟨dgt_dig _, dgt_dig _⟩⟩, if_neg (by simp), if_pos ⟨rfl, rfl, dig2_cons.2 ⟨dgt_dig _, dgt_dig _⟩⟩]
    show some (numOf [dgt (x / 3600 / 10), dgt (x / 3600)], numOf [dgt (x % 3600 / 60 / 10), dgt (x % 3600 / 60)], some (numOf [dgt (x % 60 / 10), dgt (x % 60)])) = _
    rw [num2 _ (by omega), num2 _ (by omega), num2 _ (by omega)]
  have g5 : zoneOf [sg, dgt (zh / 10), dgt zh, dgt (zm / 10), dgt zm] = some (some (zoneMin zh zm sg)) := by
    have hz := zonK_is hs hzh hzm []
    unfold zonK at hz
    unfold zoneOf
    split at hz
    · next p h' m' hk =>
      rw [hk]
      simp only
      split at hz
      · next hg =>
        rw [if_pos ⟨hg.1, hg.2, rfl⟩]
        rw [Option.some.inj hz]
      · cases hz
    · cases hz
  unfold parseTs
  simp only [dayD_tells hd, g2, g3, g4, g5, Option.bind_some]
  rfl
end Go.Proofs.YtfndidcoahammaaDoor
