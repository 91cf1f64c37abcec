/- The document's moment of parts is the program's. No program. -/
import Derived.Test.YtpmjlhpbknppiaaDoorDrP
import Derived.Test.YtpmjlhpbknppiaaDoorDtL
import Derived.Test.YtpmjlhpbknppiaaDoorDrD
import Derived.Test.YtpmjlhpbknppiaaDoorDrE
import Derived.Test.YtpmjlhpbknppiaaDoorDrF
namespace Go.Proofs.YtpmjlhpbknppiaaDoor
open Go Go.RowKit

theorem digK_of {l : List UInt8} {lo hi : Nat} (h1 : lo ≤ l.length) (h2 : l.length ≤ hi) (h3 : l.all isDig = true) : digK l lo hi = (numOf l : Int) := by
  unfold digK
  rw [if_neg (by rintro (h | h | h); omega; omega; rw [h3] at h; cases h)]
theorem digK_no {l : List UInt8} {lo hi : Nat} (h : ¬ (lo ≤ l.length ∧ l.length ≤ hi ∧ l.all isDig = true)) : digK l lo hi = -1 := by
  unfold digK
  rw [if_pos]
  by_cases h1 : lo ≤ l.length
  · by_cases h2 : l.length ≤ hi
    · cases h3 : l.all isDig with
      | true => exact absurd ⟨h1, h2, h3⟩ h
      | false => exact .inr (.inr rfl)
    · exact .inr (.inl (by omega))
  · exact .inl (by omega)
theorem digN_R (a : List UInt8) : digK a 1 2 = (match digN 1 2 a with | some n => (n : Int) | none => -1) := by
  unfold digN
  by_cases h : 1 ≤ a.length ∧ a.length ≤ 2 ∧ a.all isDig = true
  · rw [if_pos h, digK_of h.1 h.2.1 h.2.2]
  · rw [if_neg h, digK_no h]
/-- The document's year. -/
def yR (c : List UInt8) : Int :=
  if c.length = 3 then -1 else if c.length = 2 ∧ 0 ≤ digK c 2 4 then (if digK c 2 4 + 1900 < 1950 then digK c 2 4 + 1900 + 100 else digK c 2 4 + 1900) else digK c 2 4
theorem yearOf_R (c : List UInt8) : (∃ y, yearOf c = some y ∧ yR c = (y : Int)) ∨ (yearOf c = none ∧ yR c = -1) := by
  unfold yearOf yR
  by_cases hd : c.all isDig = true
  · by_cases h4 : c.length = 4
    · left
      rw [if_pos ⟨h4, hd⟩, if_neg (by omega), if_neg (by omega), digK_of (by omega) (by omega) hd]
      exact ⟨_, rfl, rfl⟩
    · rw [if_neg (fun h => h4 h.1)]
      by_cases h2 : c.length = 2
      · left
        rw [if_pos ⟨h2, hd⟩, if_neg (show ¬ c.length = 3 by omega), digK_of (by omega) (by omega) hd, if_pos (show c.length = 2 ∧ 0 ≤ ((numOf c : Nat) : Int) from ⟨h2, by omega⟩)]
        refine ⟨_, rfl, ?_⟩
        by_cases h50 : 50 ≤ numOf c
        · rw [if_pos h50, if_neg (by omega)]; omega
        · rw [if_neg h50, if_pos (by omega)]; omega
      · right
        rw [if_neg (fun h => h2 h.1)]
        refine ⟨rfl, ?_⟩
        by_cases h3 : c.length = 3
        · rw [if_pos h3]
        · rw [if_neg h3, if_neg (fun h => h2 h.1), digK_no (by omega)]
  · right
    rw [if_neg (fun h => hd h.2), if_neg (fun h => hd h.2)]
    refine ⟨rfl, ?_⟩
    have hk : digK c 2 4 = -1 := digK_no (fun h => hd h.2.2)
    rw [hk]
    by_cases h3 : c.length = 3
    · rw [if_pos h3]
    · rw [if_neg h3, if_neg (by omega)]
theorem mon_len3 (i : Nat) (h : i < 12) : (foldS (monN i).data.toList).length = 3 := by
  match i, h with
  | 0, _ => rfl
  | 1, _ => rfl
  | 2, _ => rfl
  | 3, _ => rfl
  | 4, _ => rfl
  | 5, _ => rfl
  | 6, _ => rfl
  | 7, _ => rfl
  | 8, _ => rfl
  | 9, _ => rfl
  | 10, _ => rfl
  | 11, _ => rfl
  | n + 12, h => omega
theorem foldS_len3 (l : List UInt8) : (foldS l).length = l.length := by simp [foldS]
theorem monOf_R (b : List UInt8) : (∃ m, monOf b = some m ∧ m < 12 ∧ monR b = m + 1) ∨ (monOf b = none ∧ monR b = 0) := by
  by_cases h3 : b.length = 3
  · have htk : b.take 3 = b := List.take_of_length_le (by omega)
    by_cases hm : monI b < 12
    · left
      have hg : monI b < monthsL.length := hm
      have hp := List.findIdx_getElem (p := fun m : List UInt8 × Nat => decide (3 ≤ b.length) && decide (foldS (b.take 3) = foldS m.1)) (xs := monthsL) (w := hg)
      have hp2 : foldS (b.take 3) = foldS monthsL[monI b].1 := by
        simp only [Bool.and_eq_true, decide_eq_true_eq] at hp
        exact hp.2
      rw [htk] at hp2
      refine ⟨monI b, by unfold monOf; rw [if_pos ⟨h3, hm⟩], hm, monR_hit hm (by rw [monN_at _ hg]; exact hp2.symm) fun j hj he => ?_⟩
      have hnj := List.not_of_lt_findIdx (p := fun m : List UInt8 × Nat => decide (3 ≤ b.length) && decide (foldS (b.take 3) = foldS m.1)) (xs := monthsL) (i := j) hj
      have hjl : j < monthsL.length := Nat.lt_trans hj hg
      rw [monN_at j hjl] at he
      simp only [htk] at hnj
      revert hnj
      simp [h3, he]
    · right
      refine ⟨by unfold monOf; rw [if_neg (fun h => hm h.2)], monR_none fun j hj he => ?_⟩
      have hjl : j < monthsL.length := hj
      rw [monN_at j hjl] at he
      have hle : monthsL.length ≤ monI b := by show 12 ≤ _; omega
      have hnj := List.not_of_lt_findIdx (p := fun m : List UInt8 × Nat => decide (3 ≤ b.length) && decide (foldS (b.take 3) = foldS m.1)) (xs := monthsL) (i := j) (by show j < monI b; omega)
      simp only [htk] at hnj
      revert hnj
      simp [h3, he]
  · right
    refine ⟨by unfold monOf; rw [if_neg (fun h => h3 h.1)], monR_none fun j hj he => ?_⟩
    have := congrArg List.length he
    rw [mon_len3 j hj, foldS_len3] at this
    exact h3 this.symm
theorem two_yes {l : List UInt8} (h : digOk 2 l) : digK (l.take 2) 2 2 = (numOf (l.take 2) : Int) := by
  have h1 : (l.take 2).length = 2 := by rw [List.length_take]; have := h.1; omega
  exact digK_of (by omega) (by omega) h.2
theorem two_no {l : List UInt8} (h : ¬ digOk 2 l) : digK (l.take 2) 2 2 = -1 := by
  refine digK_no fun hk => h ⟨?_, hk.2.2⟩
  have := hk.1
  rw [List.length_take] at this
  omega
theorem headD (l : List UInt8) (k : Nat) : (l.drop k).head? = l[k]? := List.head?_drop
/-- The seconds of a clock's text. -/
theorem clock_R (d : List UInt8) : (∃ h mi s, clockOf d = some (h, mi, s) ∧ clockR d false 60 = (if 23 < h ∨ 59 < mi ∨ 60 < s.getD 0 then -1 else ((3600 * h + 60 * mi + s.getD 0 : Nat) : Int))) ∨ (clockOf d = none ∧ clockR d false 60 = -1) := by
  unfold clockOf clockR
  rw [headD d 2, headD d 5]
  by_cases hc : digOk 2 d ∧ d[2]? = some 58 ∧ digOk 2 (d.drop 3)
  · obtain ⟨c1, c2, c3⟩ := hc
    rw [if_pos ⟨c1, c2, c3⟩, two_yes c1, two_yes c3]
    by_cases h5 : d.length = 5
    · left
      rw [if_pos h5]
      refine ⟨_, _, _, rfl, ?_⟩
      rw [if_neg (by rintro ⟨_, h | h⟩; cases h; exact h h5), if_neg (by omega), if_neg (show ¬ d.length = 8 by omega)]
      simp only [Option.getD_none]
      by_cases hb : 23 < numOf (d.take 2) ∨ 59 < numOf ((d.drop 3).take 2)
      · rw [if_pos (by rcases hb with h | h; exact .inr (.inr (.inl (by omega))); exact .inr (.inr (.inr (.inr (.inl (by omega)))))), if_pos (by rcases hb with h | h; exact .inl h; exact .inr (.inl h))]
      · rw [if_neg (by simp only [not_or] at hb ⊢; exact ⟨fun h => h c2, by omega, by omega, by omega, by omega, by omega, by omega⟩), if_neg (by simp only [not_or] at hb ⊢; exact ⟨hb.1, hb.2, by omega⟩)]
        omega
    · rw [if_neg h5]
      by_cases h8 : d.length = 8 ∧ d[5]? = some 58 ∧ digOk 2 (d.drop 6)
      · left
        obtain ⟨e8, c5, c6⟩ := h8
        rw [if_pos ⟨e8, c5, c6⟩]
        refine ⟨_, _, _, rfl, ?_⟩
        have h6 : (d.drop 6).take 2 = d.drop 6 := List.take_of_length_le (by rw [List.length_drop]; omega)
        have h6k := two_yes c6
        rw [h6] at h6k
        rw [if_neg (by omega), if_neg (by rintro ⟨_, h⟩; exact h c5), if_pos e8, h6k, h6]
        simp only [Option.getD_some]
        by_cases hb : 23 < numOf (d.take 2) ∨ 59 < numOf ((d.drop 3).take 2) ∨ 60 < numOf (d.drop 6)
        · rw [if_pos (by rcases hb with h | h | h; exact .inr (.inr (.inl (by omega))); exact .inr (.inr (.inr (.inr (.inl (by omega))))); exact .inr (.inr (.inr (.inr (.inr (.inr (by omega))))))), if_pos hb]
        · rw [if_neg (by simp only [not_or] at hb ⊢; exact ⟨fun h => h c2, by omega, by omega, by omega, by omega, by omega, by omega⟩), if_neg hb]
          omega
      · right
        rw [if_neg h8]
        refine ⟨rfl, ?_⟩
        by_cases e8 : d.length = 8
        · rw [if_neg (by omega)]
          by_cases c5 : d[5]? = some 58
          · have c6 : ¬ digOk 2 (d.drop 6) := fun h => h8 ⟨e8, c5, h⟩
            have h6 : (d.drop 6).take 2 = d.drop 6 := List.take_of_length_le (by rw [List.length_drop]; omega)
            have h6k := two_no c6
            rw [h6] at h6k
            rw [if_neg (by rintro ⟨_, h⟩; exact h c5), if_pos e8, h6k, if_pos (.inr (.inr (.inr (.inr (.inr (.inl (by omega)))))))]
          · rw [if_pos ⟨e8, c5⟩]
        · rw [if_pos ⟨e8, .inr h5⟩]
  · right
    rw [if_neg hc]
    refine ⟨rfl, ?_⟩
    by_cases e1 : d.length ≠ 8 ∧ (false = true ∨ d.length ≠ 5)
    · rw [if_pos e1]
    · rw [if_neg e1]
      by_cases e2 : d.length = 8 ∧ d[5]? ≠ some 58
      · rw [if_pos e2]
      · rw [if_neg e2, if_pos]
        by_cases c2 : d[2]? = some 58
        · by_cases c1 : digOk 2 d
          · have c3 : ¬ digOk 2 (d.drop 3) := fun h => hc ⟨c1, c2, h⟩
            rw [two_no c3]
            exact .inr (.inr (.inr (.inl (by omega))))
          · rw [two_no c1]
            exact .inr (.inl (by omega))
        · exact .inl c2
/-- The document's zone. -/
def zoneR (l : List UInt8) : Option Int :=
  if l.head? = some 43 ∨ l.head? = some 45 then offR l else if l.all letB' = true then some (((zonN l 8).map (· * 60)).getD 0) else none
theorem zone_R (e : List UInt8) (h0 : e ≠ []) : (∃ z, zoneOf e = some z ∧ zoneR e = some (z.getD 0)) ∨ (zoneOf e = none ∧ zoneR e = none) := by
  have hpos : 0 < e.length := List.length_pos_iff.2 h0
  have hh : e.head? = e[0]? := by cases e <;> rfl
  unfold zoneOf zoneR
  by_cases hs : e.head? = some 43 ∨ e.head? = some 45
  · rw [if_pos hs]
    have hnl : ¬ (0 < e.length ∧ e.all letB' = true) := by
      rintro ⟨_, hl⟩
      cases e with
      | nil => exact h0 rfl
      | cons c r =>
        have hc : letB' c = true := (List.all_eq_true.1 hl) c (List.mem_cons_self ..)
        rcases hs with hs | hs
        · have : c = 43 := Option.some.inj hs
          subst this
          revert hc
          decide
        · have : c = 45 := Option.some.inj hs
          subst this
          revert hc
          decide
    have hsg : ¬ (e[0]? ≠ some 43 ∧ e[0]? ≠ some 45) := by rw [← hh]; rintro ⟨a, b⟩; rcases hs with h | h; exact a h; exact b h
    unfold awayK offR
    by_cases h4 : digOk 4 (e.drop 1)
    · have h4a := (digOk_app (n := 2) (m := 2)).1 h4
      rw [List.drop_drop] at h4a
      rw [if_pos ⟨hs, h4⟩]
      simp only
      by_cases h5 : e.length = 5
      · have h3 : (e.drop 3).take 2 = e.drop 3 := List.take_of_length_le (by rw [List.length_drop]; omega)
        have k1 := two_yes h4a.1
        have k2 := two_yes h4a.2
        rw [h3] at k2
        rw [if_neg (show ¬ (e.length ≠ 5 ∨ (e[0]? ≠ some 43 ∧ e[0]? ≠ some 45)) by rintro (h | h); exact h h5; exact hsg h), k1, k2, h3]
        by_cases hb : numOf ((e.drop 1).take 2) ≤ 23 ∧ numOf (e.drop 3) ≤ 59
        · left
          rw [if_pos ⟨hb.1, hb.2, h5⟩, if_neg (by omega)]
          refine ⟨_, rfl, ?_⟩
          unfold awayM
          rw [hh]
          by_cases hm : e[0]? = some 45
          · rw [if_pos hm, if_pos hm]
            congr 1
            simp only [Option.getD_some]
            omega
          · rw [if_neg hm, if_neg hm]
            congr 1
            simp only [Option.getD_some]
            omega
        · right
          rw [if_neg (fun h => hb ⟨h.1, h.2.1⟩), if_pos (by omega)]
          exact ⟨rfl, rfl⟩
      · right
        rw [if_neg (fun h => h5 h.2.2), if_pos (.inl h5)]
        exact ⟨rfl, rfl⟩
    · rw [if_neg (fun h => h4 h.2)]
      simp only
      right
      rw [if_neg hnl]
      refine ⟨rfl, ?_⟩
      by_cases h5 : e.length = 5
      · rw [if_neg (show ¬ (e.length ≠ 5 ∨ (e[0]? ≠ some 43 ∧ e[0]? ≠ some 45)) by rintro (h | h); exact h h5; exact hsg h), if_pos]
        have h3 : (e.drop 3).take 2 = e.drop 3 := List.take_of_length_le (by rw [List.length_drop]; omega)
        have hno : ¬ (digOk 2 (e.drop 1) ∧ digOk 2 (e.drop 3)) := fun h => h4 (digOk_app.2 (by rw [List.drop_drop]; exact h))
        by_cases c1 : digOk 2 (e.drop 1)
        · have k2 := two_no (fun h => hno ⟨c1, h⟩)
          rw [h3] at k2
          rw [k2]
          exact .inr (.inr (.inl (by omega)))
        · rw [two_no c1]
          exact .inl (by omega)
      · rw [if_pos (.inl h5)]
  · rw [if_neg hs]
    have ha : awayK e = none := by unfold awayK; rw [if_neg (fun h => hs h.1)]
    rw [ha]
    simp only
    by_cases hl : e.all letB' = true
    · left
      rw [if_pos ⟨hpos, hl⟩, if_pos hl]
      exact ⟨_, rfl, rfl⟩
    · right
      rw [if_neg (fun h => hl h.2), if_neg hl]
      exact ⟨rfl, rfl⟩
/-- The document's moment of parts. -/
def secR (n : Option Int) (z : Option Int) (sec : Int) : Option (Int × Int) := match z, n with
  | some z, some n => if sec < 0 then none else some (86400 * n + sec - 60 * z, z)
  | _, _ => none
def refTs (ts : List (List UInt8)) : Option (Int × Int) := match ts with
  | [a, b, c, d] => secR (numR (yR c) (monR b) (digK a 1 2)) (some 0) (clockR d false 60)
  | [a, b, c, d, e] => secR (numR (yR c) (monR b) (digK a 1 2)) (zoneR e) (clockR d false 60)
  | _ => none
theorem num_R (a b c : List UInt8) : numR (yR c) (monR b) (digK a 1 2) = (digN 1 2 a).bind fun da => (monOf b).bind fun mo => (yearOf c).bind fun y => numberK y mo da := by
  rw [digN_R]
  rcases yearOf_R c with ⟨y, e1, e2⟩ | ⟨e1, e2⟩
  · rcases monOf_R b with ⟨m, f1, f2, f3⟩ | ⟨f1, f2⟩
    · rw [e1, e2, f1, f3]
      cases hd : digN 1 2 a with
      | none =>
        simp only [Option.bind_none]
        unfold numR
        split
        · rfl
        · unfold numberK
          rw [if_pos (.inr (.inr (.inl (by decide))))]
      | some da =>
        simp only [Option.bind_some]
        unfold numR
        by_cases hy : y < 1
        · rw [if_pos (.inl (by omega))]
          unfold numberK
          rw [if_pos (.inl hy)]
        · rw [if_neg (by omega)]
          have k1 : (((m + 1 : Nat) : Int).toNat - 1) = m := by omega
          have k2 : ((y : Int)).toNat = y := by omega
          have k3 : ((da : Int)).toNat = da := by omega
          rw [k1, k2, k3]
    · rw [f1, f2]
      have : numR (yR c) ((0 : Nat) : Int) (match digN 1 2 a with | some n => (n : Int) | none => -1) = none := by
        unfold numR
        rw [if_pos (.inr (.inl (by decide)))]
      rw [this]
      cases digN 1 2 a <;> rfl
  · rw [e1, e2]
    have : numR (-1) (monR b) (match digN 1 2 a with | some n => (n : Int) | none => -1) = none := by
      unfold numR
      rw [if_pos (.inl (by decide))]
    rw [this]
    cases digN 1 2 a with
    | none => rfl
    | some da =>
      cases monOf b <;> rfl
theorem moment_R (n : Option Int) (d : List UInt8) (z : Int) : secR n (some z) (clockR d false 60) = (clockOf d).bind fun k => momK n k.1 k.2.1 (k.2.2.getD 0) z := by
  rcases clock_R d with ⟨h, mi, s, e1, e2⟩ | ⟨e1, e2⟩
  · rw [e1, e2]
    simp only [Option.bind_some]
    cases n with
    | none => rfl
    | some n =>
      unfold secR momK
      simp only
      by_cases hb : 23 < h ∨ 59 < mi ∨ 60 < s.getD 0
      · rw [if_pos hb, if_pos hb, if_pos (by decide)]
      · rw [if_neg hb, if_neg hb, if_neg (by omega)]
        congr 2
        omega
  · rw [e1, e2]
    cases n <;> rfl
theorem parse_R (ts : List (List UInt8)) (h0 : ∀ t ∈ ts, t ≠ []) : parseTs ts = refTs ts := by
  unfold parseTs refTs
  split
  · next a b c d =>
    show _ = secR (numR (yR c) (monR b) (digK a 1 2)) (some 0) (clockR d false 60)
    rw [num_R, moment_R]
    cases digN 1 2 a with
    | none => simp only [Option.bind_none]; cases clockOf d <;> rfl
    | some da =>
      simp only [Option.bind_some]
      cases monOf b with
      | none => simp only [Option.bind_none]; cases clockOf d <;> rfl
      | some mo =>
        simp only [Option.bind_some]
        cases yearOf c with
        | none => simp only [Option.bind_none]; cases clockOf d <;> rfl
        | some y => rfl
  · next a b c d e =>
    show _ = secR (numR (yR c) (monR b) (digK a 1 2)) (zoneR e) (clockR d false 60)
    rcases zone_R e (h0 e (by simp)) with ⟨z, z1, z2⟩ | ⟨z1, z2⟩
    · rw [z1, z2, num_R, moment_R]
      cases digN 1 2 a with
      | none => simp only [Option.bind_none]; cases clockOf d <;> rfl
      | some da =>
        simp only [Option.bind_some]
        cases monOf b with
        | none => simp only [Option.bind_none]; cases clockOf d <;> rfl
        | some mo =>
          simp only [Option.bind_some]
          cases yearOf c with
          | none => simp only [Option.bind_none]; cases clockOf d <;> rfl
          | some y => rfl
    · rw [z1, z2]
      have hs : ∀ n sec, secR n none sec = none := fun n sec => rfl
      rw [hs]
      cases digN 1 2 a with
      | none => rfl
      | some da => cases monOf b with
        | none => rfl
        | some mo => cases yearOf c with
          | none => rfl
          | some y => cases clockOf d <;> rfl
  · next h4 h5 =>
    split
    · exact (h4 _ _ _ _ rfl).elim
    · exact (h5 _ _ _ _ _ rfl).elim
    · rfl
end Go.Proofs.YtpmjlhpbknppiaaDoor
