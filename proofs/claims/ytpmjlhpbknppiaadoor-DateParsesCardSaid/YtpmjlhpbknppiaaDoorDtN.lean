/- Plain words of layer 11: what pieces tell of texts. -/
import Derived.Test.YtpmjlhpbknppiaaDoorDtG
import Derived.Test.YtpmjlhpbknppiaaDoorDtK
namespace Go.Proofs.YtpmjlhpbknppiaaDoor

theorem rowF_one (f : Pf) (σ : Sg) (l : List UInt8) : rowF [f] σ l = f σ l := by
  rw [rowF]
  rcases f σ l with ⟨_ | t, σ1⟩
  · rfl
  · rfl
theorem eitherF_one (f : Pf) (σ : Sg) (l : List UInt8) : eitherF [f] σ l = f σ l := by
  rw [eitherF]
  rcases f σ l with ⟨_ | t, σ1⟩
  · rfl
  · rfl
theorem wholeF_one (f : Pf) (σ : Sg) (l : List UInt8) : wholeF [f] σ l = (decide ((f σ l).1 = some []), (f σ l).2) := by
  unfold wholeF
  rw [rowF_one]
theorem pre_one (l : List UInt8) (c : UInt8) : Lib.hasPrefix l [c] = decide (l.head? = some c) := by
  cases l with
  | nil => rfl
  | cons x r =>
    unfold Lib.hasPrefix
    simp only [List.isPrefixOf, Bool.and_true, List.head?_cons, Option.some.injEq]
    by_cases h : c = x
    · subst h; simp
    · have h2 : ¬ x = c := fun e => h e.symm
      simp [h, h2]
theorem markF_one (c : UInt8) (σ : Sg) (l : List UInt8) : markF [c] σ l = (if l.head? = some c then some (l.drop 1) else none, σ) := by
  unfold markF
  rw [pre_one]
  by_cases h : l.head? = some c
  · simp [h]
  · simp [h]
theorem drop_nil_iff {l : List UInt8} {n : Nat} (h : n ≤ l.length) : (some (l.drop n) = some ([] : List UInt8)) ↔ l.length = n := by
  rw [Option.some.injEq, List.drop_eq_nil_iff]
  omega
theorem digOk_all {l : List UInt8} {n : Nat} (h : l.length = n) : digOk n l ↔ l.all isDig = true := by
  unfold digOk
  subst h
  rw [List.take_length]
  exact ⟨fun h => h.2, fun h => ⟨Nat.le_refl _, h⟩⟩
/-- The number of so many digits. -/
def digN (a b : Nat) (l : List UInt8) : Option Nat := if a ≤ l.length ∧ l.length ≤ b ∧ l.all isDig = true then some (numOf l) else none
/-- A piece that is whole tells this number to this place. -/
def Tells (f : Pf) (σ : Sg) (l : List UInt8) (a : Nat × Nat) (o : Option Nat) : Prop :=
  (wholeF [f] σ l).1 = o.isSome ∧ ∀ n, o = some n → (wholeF [f] σ l).2 = upd σ a (n : Int)
theorem day_tells (a : Nat × Nat) (σ : Sg) (l : List UInt8) : Tells (eitherF [digF 2 a, digF 1 a]) σ l a (digN 1 2 l) := by
  unfold Tells
  rw [wholeF_one]
  by_cases h2 : digOk 2 l
  · have e : eitherF [digF 2 a, digF 1 a] σ l = (some (l.drop 2), upd σ a (numOf (l.take 2) : Int)) := by
      rw [eitherF]
      unfold digF
      simp only [if_pos h2]
    rw [e]
    by_cases hl : l.length = 2
    · have hal := (digOk_all hl).1 h2
      refine ⟨?_, ?_⟩
      · unfold digN
        rw [if_pos ⟨by omega, by omega, hal⟩]
        simp [hl]
      · intro n hn
        unfold digN at hn
        rw [if_pos ⟨by omega, by omega, hal⟩] at hn
        cases hn
        rw [List.take_of_length_le (by omega)]
    · have h3 : digN 1 2 l = none := by
        unfold digN
        rw [if_neg]
        rintro ⟨_, h, _⟩
        have := h2.1
        omega
      rw [h3]
      refine ⟨?_, fun n hn => by cases hn⟩
      rw [decide_eq_false]
      · rfl
      · rw [drop_nil_iff h2.1]
        exact hl
  · by_cases h1 : digOk 1 l
    · have e : eitherF [digF 2 a, digF 1 a] σ l = (some (l.drop 1), upd σ a (numOf (l.take 1) : Int)) := by
        rw [eitherF]
        unfold digF
        simp only [if_neg h2]
        rw [eitherF]
        simp only [if_pos h1]
      rw [e]
      by_cases hl : l.length = 1
      · have hal := (digOk_all hl).1 h1
        refine ⟨?_, ?_⟩
        · unfold digN
          rw [if_pos ⟨by omega, by omega, hal⟩]
          show decide (some (l.drop 1) = some []) = true
          exact decide_eq_true ((drop_nil_iff h1.1).2 hl)
        · intro n hn
          unfold digN at hn
          rw [if_pos ⟨by omega, by omega, hal⟩] at hn
          cases hn
          rw [List.take_of_length_le (by omega)]
      · have h3 : digN 1 2 l = none := by
          unfold digN
          rw [if_neg]
          rintro ⟨_, h, hal⟩
          have hl1 := h1.1
          exact h2 ((digOk_all (by omega)).2 hal)
        rw [h3]
        refine ⟨?_, fun n hn => by cases hn⟩
        rw [decide_eq_false]
        · rfl
        · rw [drop_nil_iff h1.1]
          exact hl
    · have e : eitherF [digF 2 a, digF 1 a] σ l = (none, σ) := by
        rw [eitherF]
        unfold digF
        simp only [if_neg h2]
        rw [eitherF]
        simp only [if_neg h1]
        rfl
      have h3 : digN 1 2 l = none := by
        unfold digN
        rw [if_neg]
        rintro ⟨hl1, h, hal⟩
        rcases (by omega : l.length = 1 ∨ l.length = 2) with hl | hl
        · exact h1 ((digOk_all hl).2 hal)
        · exact h2 ((digOk_all hl).2 hal)
      rw [e, h3]
      exact ⟨by simp, fun n hn => by cases hn⟩
/-- A month's place. -/
def monOf (l : List UInt8) : Option Nat := if l.length = 3 ∧ monI l < 12 then some (monI l) else none
theorem monI_len {l : List UInt8} (h : monI l < 12) : 3 ≤ l.length := by
  have h3 := List.findIdx_getElem (p := fun m : List UInt8 × Nat => decide (3 ≤ l.length) && decide (foldS (l.take 3) = foldS m.1)) (xs := monthsL) (w := by show monI l < 12; exact h)
  simp only [Bool.and_eq_true, decide_eq_true_eq] at h3
  exact h3.1
theorem mon_tells (a : Nat × Nat) (σ : Sg) (l : List UInt8) : Tells (monF a) σ l a (monOf l) := by
  unfold Tells
  rw [wholeF_one]
  unfold monF monOf
  by_cases h : monI l < 12
  · have h3 := monI_len h
    rw [if_pos h]
    by_cases hl : l.length = 3
    · rw [if_pos ⟨hl, h⟩]
      exact ⟨by simp [hl], fun n hn => by cases hn; rfl⟩
    · rw [if_neg (fun e => hl e.1)]
      refine ⟨?_, fun n hn => by cases hn⟩
      rw [decide_eq_false]
      · rfl
      · simp only
        rw [drop_nil_iff h3]
        exact hl
  · rw [if_neg h, if_neg (fun e => h e.2)]
    exact ⟨by simp, fun n hn => by cases hn⟩
/-- A year of four digits, or two. -/
def yearOf (l : List UInt8) : Option Nat := if l.length = 4 ∧ l.all isDig = true then some (numOf l) else if l.length = 2 ∧ l.all isDig = true then some (if 50 ≤ numOf l then numOf l + 1900 else numOf l + 2000) else none
theorem year_tells (a : Nat × Nat) (σ : Sg) (l : List UInt8) : Tells (eitherF [digF 4 a, shortF a]) σ l a (yearOf l) := by
  unfold Tells
  rw [wholeF_one]
  by_cases h4 : digOk 4 l
  · have e : eitherF [digF 4 a, shortF a] σ l = (some (l.drop 4), upd σ a (numOf (l.take 4) : Int)) := by
      rw [eitherF]
      unfold digF
      simp only [if_pos h4]
    rw [e]
    unfold yearOf
    by_cases hl : l.length = 4
    · have hal := (digOk_all hl).1 h4
      rw [if_pos ⟨hl, hal⟩]
      refine ⟨by simp [hl], ?_⟩
      intro n hn
      cases hn
      rw [List.take_of_length_le (by omega)]
    · have := h4.1
      rw [if_neg (fun e => hl e.1), if_neg (fun e => by omega)]
      refine ⟨?_, fun n hn => by cases hn⟩
      rw [decide_eq_false]
      · rfl
      · simp only
        rw [drop_nil_iff h4.1]
        exact hl
  · have e : eitherF [digF 4 a, shortF a] σ l = (if digOk 2 l then some (l.drop 2) else none, upd σ a (shortN l : Int)) := by
      rw [eitherF]
      unfold digF shortF
      simp only [if_neg h4]
      rw [eitherF]
      by_cases h2 : digOk 2 l
      · simp only [if_pos h2]
      · simp only [if_neg h2]
        rfl
    rw [e]
    unfold yearOf
    by_cases h2 : digOk 2 l
    · simp only [if_pos h2]
      by_cases hl : l.length = 2
      · have hal := (digOk_all hl).1 h2
        rw [if_neg (fun e => by omega), if_pos ⟨hl, hal⟩]
        refine ⟨by simp [hl], ?_⟩
        intro n hn
        cases hn
        unfold shortN
        rw [if_pos h2, List.take_of_length_le (by omega)]
      · rw [if_neg (fun e => h4 ((digOk_all e.1).2 e.2)), if_neg (fun e => hl e.1)]
        refine ⟨?_, fun n hn => by cases hn⟩
        rw [decide_eq_false]
        · rfl
        · rw [drop_nil_iff h2.1]
          exact hl
    · simp only [if_neg h2]
      rw [if_neg (fun e => h4 ((digOk_all e.1).2 e.2)), if_neg (fun e => h2 ((digOk_all e.1).2 e.2))]
      exact ⟨by simp, fun n hn => by cases hn⟩
/-- Hours, minutes and perhaps seconds. -/
def clockOf (l : List UInt8) : Option (Nat × Nat × Option Nat) :=
  if digOk 2 l ∧ (l.drop 2).head? = some 58 ∧ digOk 2 (l.drop 3) then
    (if l.length = 5 then some (numOf (l.take 2), numOf ((l.drop 3).take 2), none)
     else if l.length = 8 ∧ (l.drop 5).head? = some 58 ∧ digOk 2 (l.drop 6) then some (numOf (l.take 2), numOf ((l.drop 3).take 2), some (numOf ((l.drop 6).take 2)))
     else none)
  else none
def clockF (a b c : Nat × Nat) : Pf := rowF [digF 2 a, markF [58], digF 2 b, eitherF [rowF [markF [58], digF 2 c], rowF []]]
theorem perhaps_is (c : Nat × Nat) (σ : Sg) (l : List UInt8) : eitherF [rowF [markF [58], digF 2 c], rowF []] σ l = (if l.head? = some 58 ∧ digOk 2 (l.drop 1) then (some (l.drop 3), upd σ c (numOf ((l.drop 1).take 2) : Int)) else (some l, σ)) := by
  rw [eitherF, rowF, markF_one]
  by_cases h : l.head? = some 58
  · simp only [if_pos h]
    rw [rowF_one]
    unfold digF
    by_cases h2 : digOk 2 (l.drop 1)
    · simp only [if_pos h2]
      rw [if_pos ⟨h, h2⟩, List.drop_drop]
    · simp only [if_neg h2]
      rw [if_neg (fun e => h2 e.2), eitherF, rowF]
  · simp only [if_neg h]
    rw [if_neg (fun e => h e.1), eitherF, rowF]
theorem clock_tells (a b c : Nat × Nat) (σ : Sg) (l : List UInt8) : (wholeF [clockF a b c] σ l).1 = (clockOf l).isSome ∧ ∀ h m s, clockOf l = some (h, m, s) → (wholeF [clockF a b c] σ l).2 = (match s with
    | none => upd (upd σ a (h : Int)) b (m : Int)
    | some n => upd (upd (upd σ a (h : Int)) b (m : Int)) c (n : Int)) := by
  rw [wholeF_one]
  unfold clockF clockOf
  rw [rowF]
  unfold digF
  by_cases h1 : digOk 2 l
  · simp only [if_pos h1]
    rw [rowF, markF_one]
    by_cases h2 : (l.drop 2).head? = some 58
    · simp only [if_pos h2]
      rw [rowF]
      rw [List.drop_drop, show 2 + 1 = 3 from rfl]
      by_cases h3 : digOk 2 (l.drop 3)
      · simp only [if_pos h3]
        rw [rowF_one, List.drop_drop, show 3 + 2 = 5 from rfl, if_pos ⟨h1, h2, h3⟩]
        have hl5 : 5 ≤ l.length := by
          have := h3.1
          rw [List.length_drop] at this
          omega
        have hpe := perhaps_is c (upd (upd σ a (numOf (l.take 2) : Int)) b (numOf ((l.drop 3).take 2) : Int)) (l.drop 5)
        unfold digF at hpe
        rw [hpe]
        rw [List.drop_drop, List.drop_drop, show 5 + 1 = 6 from rfl, show 5 + 3 = 8 from rfl]
        by_cases h4 : (l.drop 5).head? = some 58 ∧ digOk 2 (l.drop 6)
        · have hl8 : 8 ≤ l.length := by
            have := h4.2.1
            rw [List.length_drop] at this
            omega
          simp only [if_pos h4]
          rw [if_neg (by omega)]
          by_cases hl : l.length = 8
          · rw [if_pos ⟨hl, h4⟩]
            refine ⟨?_, ?_⟩
            · rw [decide_eq_true]
              · rfl
              · exact (drop_nil_iff hl8).2 hl
            · intro h m s hs
              cases hs
              rfl
          · rw [if_neg (fun e => hl e.1)]
            refine ⟨?_, fun h m s hs => by cases hs⟩
            rw [decide_eq_false]
            · rfl
            · rw [drop_nil_iff hl8]
              exact hl
        · simp only [if_neg h4]
          by_cases hl : l.length = 5
          · rw [if_pos hl]
            refine ⟨?_, ?_⟩
            · rw [decide_eq_true]
              · rfl
              · exact (drop_nil_iff hl5).2 hl
            · intro h m s hs
              cases hs
              rfl
          · rw [if_neg hl, if_neg (fun e => h4 e.2)]
            refine ⟨?_, fun h m s hs => by cases hs⟩
            rw [decide_eq_false]
            · rfl
            · rw [drop_nil_iff hl5]
              exact hl
      · simp only [if_neg h3]
        rw [if_neg (fun e => h3 e.2.2)]
        exact ⟨by simp, fun h m s hs => by cases hs⟩
    · simp only [if_neg h2]
      rw [if_neg (fun e => h2 e.2.1)]
      exact ⟨by simp, fun h m s hs => by cases hs⟩
  · simp only [if_neg h1]
    rw [if_neg (fun e => h1 e.1)]
    exact ⟨by simp, fun h m s hs => by cases hs⟩
/-- A zone: a sign and digits, or letters; nothing is told of letters that aren't known. -/
def zoneOf (l : List UInt8) : Option (Option Int) := match awayK l with
  | some (h, m) => if h ≤ 23 ∧ m ≤ 59 ∧ l.length = 5 then some (some (awayM l h m)) else none
  | none => if 0 < l.length ∧ l.all letB' = true then some ((zonN l 8).map (· * 60)) else none
theorem awayK_len {l : List UInt8} {p : Nat × Nat} (h : awayK l = some p) : 5 ≤ l.length ∧ (l.head? = some 43 ∨ l.head? = some 45) := by
  unfold awayK at h
  split at h
  · next hc =>
    have := hc.2.1
    rw [List.length_drop] at this
    exact ⟨by omega, hc.1⟩
  · cases h
theorem takeWhile_head {l : List UInt8} (h : l.head? = some 43 ∨ l.head? = some 45) : l.takeWhile letB' = [] := by
  cases l with
  | nil => rfl
  | cons c r =>
    have hc : c = 43 ∨ c = 45 := by simpa using h
    rcases hc with rfl | rfl <;> rw [List.takeWhile_cons, if_neg (by decide)]
theorem zoneF_head (a : Nat × Nat) (σ : Sg) {l : List UInt8} (h : l.head? = some 43 ∨ l.head? = some 45) : zoneF a σ l = (none, σ) := by
  unfold zoneF
  rw [takeWhile_head h]
  rfl
theorem takeWhile_all_iff {l : List UInt8} : (l.takeWhile letB').length = l.length ↔ l.all letB' = true := by
  induction l with
  | nil => simp
  | cons c r ih =>
    rw [List.takeWhile_cons, List.all_cons]
    cases hc : letB' c with
    | true => simpa using ih
    | false => simp
theorem zone_tells (a : Nat × Nat) (σ : Sg) (l : List UInt8) : (wholeF [eitherF [awayF a, zoneF a]] σ l).1 = (zoneOf l).isSome ∧ ∀ z, zoneOf l = some z → (wholeF [eitherF [awayF a, zoneF a]] σ l).2 = (match z with
    | none => σ
    | some n => upd σ a n) := by
  rw [wholeF_one]
  unfold zoneOf
  cases hk : awayK l with
  | some p =>
    obtain ⟨h, m⟩ := p
    obtain ⟨hl, hs⟩ := awayK_len hk
    simp only
    by_cases hg : h ≤ 23 ∧ m ≤ 59
    · have e : eitherF [awayF a, zoneF a] σ l = (some (l.drop 5), upd σ a (awayM l h m)) := eitherF_yes (by
        unfold awayF
        rw [hk]
        exact if_pos hg)
      rw [e]
      by_cases h5 : l.length = 5
      · rw [if_pos ⟨hg.1, hg.2, h5⟩]
        refine ⟨?_, ?_⟩
        · exact decide_eq_true ((drop_nil_iff hl).2 h5)
        · intro z hz
          cases hz
          rfl
      · rw [if_neg (fun e => h5 e.2.2)]
        refine ⟨?_, fun z hz => by cases hz⟩
        refine decide_eq_false ?_
        simp only
        rw [drop_nil_iff hl]
        exact h5
    · have e : eitherF [awayF a, zoneF a] σ l = (none, σ) := by
        rw [eitherF_no (σ1 := σ) (by
          unfold awayF
          rw [hk]
          exact if_neg hg), eitherF_one, zoneF_head a σ hs]
      rw [e, if_neg (fun e => hg ⟨e.1, e.2.1⟩)]
      exact ⟨by simp, fun z hz => by cases hz⟩
  | none =>
    simp only
    have e : eitherF [awayF a, zoneF a] σ l = zoneF a σ l := by
      rw [eitherF_no (σ1 := σ) (by
        unfold awayF
        rw [hk]), eitherF_one]
    rw [e]
    unfold zoneF
    have hle : (l.takeWhile letB').length ≤ l.length := (List.takeWhile_sublist _).length_le
    by_cases h0 : 0 < (l.takeWhile letB').length
    · simp only [if_pos h0]
      by_cases hall : l.all letB' = true
      · have heq := takeWhile_all_iff.2 hall
        rw [if_pos ⟨by omega, hall⟩]
        have htw : l.takeWhile letB' = l := by
          have := List.takeWhile_prefix (l := l) letB'
          exact this.eq_of_length heq
        refine ⟨?_, ?_⟩
        · refine decide_eq_true ?_
          rw [heq, drop_nil_iff (Nat.le_refl _)]
        · intro z hz
          cases hz
          rw [htw]
          unfold zoneS
          cases zonN l 8 <;> rfl
      · rw [if_neg (fun e => hall e.2)]
        refine ⟨?_, fun z hz => by cases hz⟩
        refine decide_eq_false ?_
        rw [drop_nil_iff hle]
        intro e
        exact hall (takeWhile_all_iff.1 e.symm)
    · simp only [if_neg h0]
      rw [if_neg]
      · exact ⟨by simp, fun z hz => by cases hz⟩
      · rintro ⟨h1, h2⟩
        have := takeWhile_all_iff.2 h2
        omega
end Go.Proofs.YtpmjlhpbknppiaaDoor
