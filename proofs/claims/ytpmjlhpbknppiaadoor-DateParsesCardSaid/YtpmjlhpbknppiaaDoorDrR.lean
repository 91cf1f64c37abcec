/- The document's moment of IMAP's form is the program's. No program. -/
import Derived.Test.YtpmjlhpbknppiaaDoorDrQ
import Derived.Test.YtpmjlhpbknppiaaDoorDtS
import Derived.Test.YtpmjlhpbknppiaaDoorDtT
namespace Go.Proofs.YtpmjlhpbknppiaaDoor
open Go Go.RowKit

theorem dig_yes {l : List UInt8} {n : Nat} (h : digOk n l) : digK (l.take n) n n = (numOf (l.take n) : Int) := by
  have h1 : (l.take n).length = n := by rw [List.length_take]; have := h.1; omega
  exact digK_of (by omega) (by omega) h.2
theorem dig_no {l : List UInt8} {n : Nat} (h : ¬ digOk n l) : digK (l.take n) n n = -1 := by
  refine digK_no fun hk => h ⟨?_, hk.2.2⟩
  have := hk.1
  rw [List.length_take] at this
  omega
theorem monI_t3 {x : List UInt8} (h : 3 ≤ x.length) : monI (x.take 3) = monI x := by
  have h1 : 3 ≤ (x.take 3).length := by rw [List.length_take]; omega
  unfold monI
  congr 1
  funext m
  rw [List.take_take, Nat.min_self, decide_eq_true h, decide_eq_true h1]
/-- The document's day of IMAP's form. -/
def dyR (l : List UInt8) : Int := if l[1]? = some 32 then digK ((l.drop 2).take 1) 1 1 else digK ((l.drop 1).take 2) 2 2
theorem day_R (l : List UInt8) : dyR l = (match twoD (l.drop 1) with | some n => (n : Int) | none => -1) := by
  unfold dyR twoD
  rw [headD l 1, List.drop_drop]
  by_cases h2 : digOk 2 (l.drop 1)
  · rw [if_pos h2]
    have hne : ¬ l[1]? = some 32 := fun e => by
      have h3 := h2.2
      have hl := h2.1
      cases hd : l.drop 1 with
      | nil => rw [hd] at hl; simp at hl
      | cons c r =>
        rw [hd] at h3
        have hc := (List.all_eq_true.1 h3) c (by simp)
        have e2 := headD l 1
        rw [hd, e] at e2
        have : c = 32 := Option.some.inj e2
        subst this
        revert hc
        decide
    rw [if_neg hne, dig_yes h2]
  · rw [if_neg h2]
    by_cases h32 : l[1]? = some 32
    · rw [if_pos h32]
      by_cases h1 : digOk 1 (l.drop 2)
      · rw [if_pos ⟨h32, h1⟩, dig_yes h1]
      · rw [if_neg (fun h => h1 h.2), dig_no h1]
    · rw [if_neg h32, if_neg (fun h => h32 h.1), dig_no h2]
theorem off_R {x : List UInt8} (h5 : 5 ≤ x.length) : offR (x.take 5) = zonK x := by
  have hl : (x.take 5).length = 5 := by rw [List.length_take]; omega
  have hne : x.take 5 ≠ [] := fun e => by rw [e] at hl; cases hl
  have hh : (x.take 5).head? = x.head? := by
    cases x with
    | nil => rfl
    | cons c r => rfl
  have hdr : ∀ k j, k + j ≤ 5 → ((x.take 5).drop k).take j = (x.drop k).take j := fun k j hkj => by
    rw [List.drop_take, List.take_take]
    congr 1
    omega
  have hok : digOk 4 ((x.take 5).drop 1) ↔ digOk 4 (x.drop 1) := by
    unfold digOk
    rw [hdr 1 4 (by omega), List.length_drop, List.length_drop, hl]
    exact ⟨fun h => ⟨by omega, h.2⟩, fun h => ⟨by omega, h.2⟩⟩
  by_cases hs : x.head? = some 43 ∨ x.head? = some 45
  · have hz := zone_R (x.take 5) hne
    have hsg : (x.take 5).head? = some 43 ∨ (x.take 5).head? = some 45 := by rw [hh]; exact hs
    have hzr : zoneR (x.take 5) = offR (x.take 5) := by unfold zoneR; rw [if_pos hsg]
    rw [hzr] at hz
    have hnl : ¬ (0 < (x.take 5).length ∧ (x.take 5).all letB' = true) := by
      rintro ⟨_, hl2⟩
      cases hx : x.take 5 with
      | nil => exact hne hx
      | cons c r =>
        rw [hx] at hl2 hsg
        have hc : letB' c = true := (List.all_eq_true.1 hl2) c (List.mem_cons_self ..)
        rcases hsg with hs | hs
        · have : c = 43 := Option.some.inj hs
          subst this
          revert hc
          decide
        · have : c = 45 := Option.some.inj hs
          subst this
          revert hc
          decide
    unfold zoneOf at hz
    unfold zonK
    have haw : awayK (x.take 5) = awayK x := by
      unfold awayK
      rw [hh, hdr 1 2 (by omega), hdr 3 2 (by omega)]
      by_cases hd : digOk 4 (x.drop 1)
      · rw [if_pos ⟨hs, hok.2 hd⟩, if_pos ⟨hs, hd⟩]
      · rw [if_neg (fun h => hd (hok.1 h.2)), if_neg (fun h => hd h.2)]
    have ham : ∀ h m, awayM (x.take 5) h m = awayM x h m := fun h m => by unfold awayM; rw [hh]
    rw [haw] at hz
    cases ha : awayK x with
    | none =>
      rw [ha] at hz
      simp only at hz ⊢
      rw [if_neg hnl] at hz
      rcases hz with ⟨z, z1, _⟩ | ⟨_, z2⟩
      · cases z1
      · exact z2
    | some p =>
      obtain ⟨h, m⟩ := p
      rw [ha] at hz
      simp only at hz ⊢
      by_cases hb : h ≤ 23 ∧ m ≤ 59
      · rw [if_pos ⟨hb.1, hb.2, hl⟩] at hz
        rw [if_pos hb]
        rcases hz with ⟨z, z1, z2⟩ | ⟨z1, _⟩
        · have := Option.some.inj z1
          rw [z2, ← this, ← ham]
          rfl
        · cases z1
      · rw [if_neg (fun h => hb ⟨h.1, h.2.1⟩)] at hz
        rw [if_neg hb]
        rcases hz with ⟨z, z1, _⟩ | ⟨_, z2⟩
        · cases z1
        · exact z2
  · have ha : awayK x = none := by unfold awayK; rw [if_neg (fun h => hs h.1)]
    unfold zonK
    rw [ha]
    simp only
    unfold offR
    rw [if_pos]
    right
    have e0 : (x.take 5)[0]? = x.head? := by rw [← hh]; cases x.take 5 <;> rfl
    rw [e0]
    exact ⟨fun h => hs (.inl h), fun h => hs (.inr h)⟩
/-- The document's moment of IMAP's form. -/
def intR (l : List UInt8) : Option (Int × Int) :=
  if l.length = 28 ∧ l[0]? = some 34 ∧ l[3]? = some 45 ∧ l[7]? = some 45 ∧ l[12]? = some 32 ∧ l[21]? = some 32 ∧ l[27]? = some 34 then
    secR (numR (digK ((l.drop 8).take 4) 4 4) (monR ((l.drop 4).take 3)) (dyR l)) (offR ((l.drop 22).take 5)) (clockR ((l.drop 13).take 8) true 59) else none
theorem clock_I (d : List UInt8) (h8 : d.length = 8) : (digOk 2 d ∧ d[2]? = some 58 ∧ digOk 2 (d.drop 3) ∧ d[5]? = some 58 ∧ digOk 2 (d.drop 6) ∧ clockR d true 59 = (if 23 < numOf (d.take 2) ∨ 59 < numOf ((d.drop 3).take 2) ∨ 59 < numOf ((d.drop 6).take 2) then -1 else ((3600 * numOf (d.take 2) + 60 * numOf ((d.drop 3).take 2) + numOf ((d.drop 6).take 2) : Nat) : Int))) ∨ (¬ (digOk 2 d ∧ d[2]? = some 58 ∧ digOk 2 (d.drop 3) ∧ d[5]? = some 58 ∧ digOk 2 (d.drop 6)) ∧ clockR d true 59 = -1) := by
  have h6 : (d.drop 6).take 2 = d.drop 6 := List.take_of_length_le (by rw [List.length_drop]; omega)
  unfold clockR
  rw [if_neg (show ¬ (d.length ≠ 8 ∧ (true = true ∨ d.length ≠ 5)) from fun h => h.1 h8), if_pos h8]
  by_cases hc : digOk 2 d ∧ d[2]? = some 58 ∧ digOk 2 (d.drop 3) ∧ d[5]? = some 58 ∧ digOk 2 (d.drop 6)
  · left
    obtain ⟨c1, c2, c3, c5, c6⟩ := hc
    refine ⟨c1, c2, c3, c5, c6, ?_⟩
    have k6 := two_yes c6
    rw [h6] at k6
    rw [if_neg (by rintro ⟨_, h⟩; exact h c5), two_yes c1, two_yes c3, k6, h6]
    by_cases hb : 23 < numOf (d.take 2) ∨ 59 < numOf ((d.drop 3).take 2) ∨ 59 < numOf (d.drop 6)
    · rw [if_pos (by rcases hb with h | h | h; exact .inr (.inr (.inl (by omega))); exact .inr (.inr (.inr (.inr (.inl (by omega))))); exact .inr (.inr (.inr (.inr (.inr (.inr (by omega))))))), if_pos hb]
    · rw [if_neg (by simp only [not_or] at hb ⊢; exact ⟨fun h => h c2, by omega, by omega, by omega, by omega, by omega, by omega⟩), if_neg hb]
      omega
  · right
    refine ⟨hc, ?_⟩
    by_cases c5 : d[5]? = some 58
    · rw [if_neg (by rintro ⟨_, h⟩; exact h c5), if_pos]
      by_cases c2 : d[2]? = some 58
      · by_cases c1 : digOk 2 d
        · by_cases c3 : digOk 2 (d.drop 3)
          · have c6 : ¬ digOk 2 (d.drop 6) := fun h => hc ⟨c1, c2, c3, c5, h⟩
            have k6 := two_no c6
            rw [h6] at k6
            rw [k6]
            exact .inr (.inr (.inr (.inr (.inr (.inl (by omega))))))
          · rw [two_no c3]
            exact .inr (.inr (.inr (.inl (by omega))))
        · rw [two_no c1]
          exact .inr (.inl (by omega))
      · exact .inl c2
    · rw [if_pos ⟨h8, c5⟩]
theorem numR_no {y m d : Int} (h : y = -1 ∨ m = 0 ∨ d = -1) : numR y m d = none := by
  unfold numR
  rcases h with rfl | rfl | rfl
  · rw [if_pos (.inl (by decide))]
  · rw [if_pos (.inr (.inl (by decide)))]
  · split
    · rfl
    · unfold numberK
      rw [if_pos (.inr (.inr (.inl (by decide))))]
theorem numR_yes (y m d : Nat) (hm : m < 12) : numR (y : Int) ((m + 1 : Nat) : Int) (d : Int) = numberK y m d := by
  unfold numR
  by_cases hy : y < 1
  · rw [if_pos (.inl (by omega))]
    unfold numberK
    rw [if_pos (.inl hy)]
  · rw [if_neg (by omega)]
    have k1 : (((m + 1 : Nat) : Int).toNat - 1) = m := by omega
    have k2 : ((y : Int)).toNat = y := by omega
    have k3 : ((d : Int)).toNat = d := by omega
    rw [k1, k2, k3]
theorem secR_n (z : Option Int) (sec : Int) : secR none z sec = none := by cases z <;> rfl
theorem secR_z (n : Option Int) (sec : Int) : secR n none sec = none := rfl
theorem secR_s (n z : Option Int) : secR n z (-1) = none := by
  unfold secR
  split
  · exact if_pos (by decide)
  · rfl
theorem mom_sec (n : Option Int) (h mi x : Nat) (z : Int) (hx : x ≤ 59) : momK n h mi x z = secR n (some z) (if 23 < h ∨ 59 < mi ∨ 59 < x then -1 else ((3600 * h + 60 * mi + x : Nat) : Int)) := by
  cases n with
  | none => rfl
  | some n =>
    unfold momK secR
    simp only
    by_cases hb : 23 < h ∨ 59 < mi
    · rw [if_pos (by omega), if_pos (show 23 < h ∨ 59 < mi ∨ 59 < x by omega), if_pos (by decide)]
    · rw [if_neg (by omega), if_neg (show ¬ (23 < h ∨ 59 < mi ∨ 59 < x) by omega), if_neg (by omega)]
      congr 2
      omega
theorem int_R (l : List UInt8) : intK l = intR l := by
  unfold intK intR
  by_cases hm : l.length = 28 ∧ l[0]? = some 34 ∧ l[3]? = some 45 ∧ l[7]? = some 45 ∧ l[12]? = some 32 ∧ l[21]? = some 32 ∧ l[27]? = some 34
  · rw [if_pos hm]
    obtain ⟨h28, m0, m3, m7, m12, m21, m27⟩ := hm
    have hnc : ∀ p : Prop, (¬ p) → (intC l → p) → (if intC l ∧ l.length = 28 ∧ intX l ≤ 59 then momentK (intY l) (intM l) (intD l) (intH l) (intI l) (intX l) (intZ l) else none) = none := fun p hp hi => if_neg (fun h => hp (hi h.1))
    by_cases c4 : digOk 4 (l.drop 8)
    case neg => rw [hnc _ c4 (fun h => h.2.2.2.2.2.1), dig_no c4, numR_no (.inl rfl), secR_n]
    rw [dig_yes c4]
    have hmt : monI ((l.drop 4).take 3) = monI (l.drop 4) := monI_t3 (by rw [List.length_drop]; omega)
    have h3 : ((l.drop 4).take 3).length = 3 := by rw [List.length_take, List.length_drop]; omega
    rcases monOf_R ((l.drop 4).take 3) with ⟨m, f1, f2, f3⟩ | ⟨f1, f2⟩
    case inr =>
      have hno : ¬ monI (l.drop 4) < 12 := fun h => by
        unfold monOf at f1
        rw [hmt, if_pos ⟨h3, h⟩] at f1
        cases f1
      rw [hnc _ hno (fun h => h.2.2.2.1), f2, show numR ((numOf ((l.drop 8).take 4) : Nat) : Int) ((0 : Nat) : Int) (dyR l) = none from numR_no (.inr (.inl rfl)), secR_n]
    have hmi : m = monI (l.drop 4) := by
      unfold monOf at f1
      rw [hmt] at f1
      split at f1
      · exact (Option.some.inj f1).symm
      · cases f1
    rw [f3, day_R]
    cases hd : twoD (l.drop 1) with
    | none =>
      rw [hnc ((twoD (l.drop 1)).isSome = true) (by rw [hd]; exact Bool.false_ne_true) (fun h => h.2.1)]
      simp only
      rw [numR_no (.inr (.inr rfl)), secR_n]
    | some dd =>
      simp only
      rw [numR_yes _ _ _ f2, off_R (by rw [List.length_drop]; omega)]
      cases hz : zonK (l.drop 22) with
      | none => rw [hnc ((zonK (l.drop 22)).isSome = true) (by rw [hz]; exact Bool.false_ne_true) (fun h => h.2.2.2.2.2.2.2.2.2.2.2.2.2.1), secR_z]
      | some z =>
        have hl8 : ((l.drop 13).take 8).length = 8 := by rw [List.length_take, List.length_drop]; omega
        have d2 : ∀ j k, j + k ≤ 8 → (digOk k (((l.drop 13).take 8).drop j) ↔ digOk k (l.drop (13 + j))) := fun j k hjk => by rw [digOk_take _ hjk, List.drop_drop]
        have t2 : ∀ j k, j + k ≤ 8 → ((((l.drop 13).take 8).drop j).take k) = (l.drop (13 + j)).take k := fun j k hjk => by rw [take_drop_take _ hjk, List.drop_drop]
        have a2 : ∀ j, j < 8 → ((l.drop 13).take 8)[j]? = (l.drop (13 + j)).head? := fun j hj => by rw [List.getElem?_take, if_pos hj, List.getElem?_drop, List.head?_drop]
        have d20 := d2 0 2 (by omega)
        have t20 := t2 0 2 (by omega)
        rw [List.drop_zero] at d20 t20
        have hci : intC l ↔ (digOk 2 ((l.drop 13).take 8) ∧ ((l.drop 13).take 8)[2]? = some 58 ∧ digOk 2 (((l.drop 13).take 8).drop 3) ∧ ((l.drop 13).take 8)[5]? = some 58 ∧ digOk 2 (((l.drop 13).take 8).drop 6)) := by
          rw [d20, d2 3 2 (by omega), d2 6 2 (by omega), a2 2 (by omega), a2 5 (by omega)]
          unfold intC
          rw [hd, hz]
          have e0 : l.head? = some 34 := by rw [← m0]; cases l <;> rfl
          have e3 : (l.drop 3).head? = some 45 := by rw [headD]; exact m3
          have e7 : (l.drop 7).head? = some 45 := by rw [headD]; exact m7
          have e12 : (l.drop 12).head? = some 32 := by rw [headD]; exact m12
          have e21 : (l.drop 21).head? = some 32 := by rw [headD]; exact m21
          have e27 : (l.drop 27).head? = some 34 := by rw [headD]; exact m27
          constructor
          · rintro ⟨_, _, _, _, _, _, _, g1, g2, g3, g4, g5, _, _, _⟩
            exact ⟨g1, g2, g3, g4, g5⟩
          · rintro ⟨g1, g2, g3, g4, g5⟩
            exact ⟨e0, rfl, e3, by rw [← hmi]; exact f2, e7, c4, e12, g1, g2, g3, g4, g5, e21, rfl, e27⟩
        rcases clock_I _ hl8 with ⟨g1, g2, g3, g4, g5, gc⟩ | ⟨gn, gc⟩
        · rw [gc, t20, t2 3 2 (by omega), t2 6 2 (by omega)]
          have hcy := hci.2 ⟨g1, g2, g3, g4, g5⟩
          have eD : intD l = dd := by unfold intD; rw [hd]; rfl
          have eZ : intZ l = z := by unfold intZ; rw [hz]; rfl
          have eM : intM l = m := hmi.symm
          have eY : numOf ((l.drop 8).take 4) = intY l := rfl
          have eH : numOf ((l.drop (13 + 0)).take 2) = intH l := rfl
          have eI : numOf ((l.drop (13 + 3)).take 2) = intI l := rfl
          have eX : numOf ((l.drop (13 + 6)).take 2) = intX l := rfl
          rw [eH, eI, eX, eY, eD, eZ, eM]
          by_cases hx : intX l ≤ 59
          · rw [if_pos ⟨hcy, h28, hx⟩]
            exact mom_sec _ _ _ _ _ hx
          · rw [if_neg (fun h => hx h.2.2), if_pos (by omega), secR_s]
        · rw [hnc _ gn hci.1, gc, secR_s]
  · rw [if_neg hm]
    refine if_neg fun h => hm ?_
    obtain ⟨⟨e0, _, e3, _, e7, _, e12, _, _, _, _, _, e21, _, e27⟩, h28, _⟩ := h
    rw [headD] at e3 e7 e12 e21 e27
    exact ⟨h28, by rw [← e0]; cases l <;> rfl, e3, e7, e12, e21, e27⟩
end Go.Proofs.YtpmjlhpbknppiaaDoor
