/- The document's day's text is the program's. No program. -/
import Derived.Test.YtpmjlhpbknppiaaDoorDrR
import Derived.Test.YtpmjlhpbknppiaaDoorChars5
import Derived.Test.YtpmjlhpbknppiaaDoorDsE
import Derived.Test.YtpmjlhpbknppiaaDoorDtL
import Derived.Test.YtpmjlhpbknppiaaDoorDtT
import Derived.Test.YtpmjlhpbknppiaaDoorDsD
import Derived.Test.YtpmjlhpbknppiaaDoorGd02
import Derived.Test.YtpmjlhpbknppiaaDoorGd01
import Derived.Test.YtpmjlhpbknppiaaDoorGd03
namespace Go.Proofs.YtpmjlhpbknppiaaDoor
open Go Go.RowKit

theorem split_hit : ∀ (p r cur : List UInt8), (∀ x ∈ p, x ≠ 45) → splitAux 45 (p ++ 45 :: r) cur = (cur ++ p) :: splitAux 45 r []
  | [], r, cur, _ => by
    show splitAux 45 (45 :: r) cur = _
    rw [splitAux, if_pos rfl, List.append_nil]
  | c :: p, r, cur, h => by
    show splitAux 45 (c :: (p ++ 45 :: r)) cur = _
    rw [splitAux, if_neg (h c (List.mem_cons_self ..)), split_hit p r (cur ++ [c]) (fun x hx => h x (List.mem_cons_of_mem _ hx)), List.append_assoc]
    rfl
theorem split_end : ∀ (p cur : List UInt8), (∀ x ∈ p, x ≠ 45) → splitAux 45 p cur = [cur ++ p]
  | [], cur, _ => by rw [splitAux, List.append_nil]
  | c :: p, cur, h => by
    rw [splitAux, if_neg (h c (List.mem_cons_self ..)), split_end p (cur ++ [c]) (fun x hx => h x (List.mem_cons_of_mem _ hx)), List.append_assoc]
    rfl
theorem split_cases : ∀ l : List UInt8, (∀ x ∈ l, x ≠ 45) ∨ ∃ p r, l = p ++ 45 :: r ∧ ∀ x ∈ p, x ≠ 45
  | [] => .inl (fun x hx => by cases hx)
  | c :: l => by
    by_cases hc : c = 45
    · subst hc
      exact .inr ⟨[], l, rfl, fun x hx => by cases hx⟩
    · rcases split_cases l with h | ⟨p, r, rfl, h⟩
      · left
        intro x hx
        rcases List.mem_cons.1 hx with rfl | hx
        · exact hc
        · exact h x hx
      · right
        refine ⟨c :: p, r, rfl, ?_⟩
        intro x hx
        rcases List.mem_cons.1 hx with rfl | hx
        · exact hc
        · exact h x hx
theorem split_three {x a b c : List UInt8} (h : splitS 45 x = [a, b, c]) : x = a ++ 45 :: (b ++ 45 :: c) := by
  unfold splitS at h
  rcases split_cases x with h1 | ⟨p, r, rfl, h1⟩
  · rw [split_end x [] h1] at h
    cases h
  · rw [split_hit p r [] h1] at h
    have e1 := (List.cons.inj h).1
    have h2 := (List.cons.inj h).2
    rcases split_cases r with h3 | ⟨q, r2, rfl, h3⟩
    · rw [split_end r [] h3] at h2
      cases h2
    · rw [split_hit q r2 [] h3] at h2
      have e2 := (List.cons.inj h2).1
      have h4 := (List.cons.inj h2).2
      rcases split_cases r2 with h5 | ⟨q2, r3, rfl, h5⟩
      · rw [split_end r2 [] h5] at h4
        have e3 := (List.cons.inj h4).1
        rw [← e1, ← e2, ← e3]
        rfl
      · rw [split_hit q2 r3 [] h5] at h4
        have h6 := (List.cons.inj h4).2
        have h7 := (splitAux_length 45 r3 []).1
        rw [h6] at h7
        simp at h7
theorem dig_no45 {p : List UInt8} (h : p.all isDig = true) : ∀ x ∈ p, x ≠ 45 := by
  intro x hx e
  have := (List.all_eq_true.1 h) x hx
  rw [e] at this
  revert this
  decide
theorem mon_no45 : ∀ i, i < 12 → (45 : UInt8) ∉ foldS (monN i).data.toList := by
  intro i h
  match i, h with
  | 0, _ => decide
  | 1, _ => decide
  | 2, _ => decide
  | 3, _ => decide
  | 4, _ => decide
  | 5, _ => decide
  | 6, _ => decide
  | 7, _ => decide
  | 8, _ => decide
  | 9, _ => decide
  | 10, _ => decide
  | 11, _ => decide
  | n + 12, h => omega
theorem monI_no45 {b : List UInt8} (h3 : b.length = 3) (hm : monI b < 12) : ∀ x ∈ b, x ≠ 45 := by
  intro x hx e
  have hg : monI b < monthsL.length := hm
  have hp := List.findIdx_getElem (p := fun m : List UInt8 × Nat => decide (3 ≤ b.length) && decide (foldS (b.take 3) = foldS m.1)) (xs := monthsL) (w := hg)
  have hp2 : foldS (b.take 3) = foldS monthsL[monI b].1 := by
    simp only [Bool.and_eq_true, decide_eq_true_eq] at hp
    exact hp.2
  rw [List.take_of_length_le (by omega), ← monN_at _ hg] at hp2
  refine mon_no45 (monI b) hm ?_
  rw [← hp2]
  unfold foldS
  rw [List.mem_map]
  exact ⟨x, hx, by rw [e]; decide⟩
/-- The document's number of a day's text. -/
def dayR (x : List UInt8) : Option Int := match splitS 45 x with
  | [a, b, c] => numR (digK c 4 4) (monR b) (digK a 1 2)
  | _ => none
def dayN' (x : List UInt8) : Option Int := match dayK x with
  | some p => numberK p.1 p.2.1 p.2.2
  | none => none
theorem day_fwd {x : List UInt8} (hb : bareC x) (hl : x.length = nD x + 9) : ∃ a b c, splitS 45 x = [a, b, c] ∧ numR (digK c 4 4) (monR b) (digK a 1 2) = numberK (dayV x).1 (dayV x).2.1 (dayV x).2.2 := by
  obtain ⟨h1, h2, h3, h4, h5⟩ := hb
  have n1 := nD_one x
  have n2 := nD_two x
  have ea : (x.take (nD x)).all isDig = true ∧ (x.take (nD x)).length = nD x := by
    refine ⟨?_, by rw [List.length_take]; omega⟩
    unfold nD
    by_cases g : digOk 2 x
    · rw [if_pos g]; exact g.2
    · rw [if_neg g]
      rcases h1 with h1 | h1
      · exact absurd h1 g
      · exact h1.2
  have cons1 : ∀ k, (x.drop k).head? = some 45 → x.drop k = 45 :: x.drop (k + 1) := by
    intro k hk
    cases hd : x.drop k with
    | nil => rw [hd] at hk; cases hk
    | cons y r =>
      rw [hd] at hk
      have : y = 45 := Option.some.inj hk
      have e : x.drop (k + 1) = r := by
        rw [← List.drop_drop, hd]
        rfl
      rw [e, this]
  have e0 : x = x.take (nD x) ++ 45 :: ((x.drop (nD x + 1)).take 3 ++ 45 :: x.drop (nD x + 5)) := by
    have k1 := cons1 (nD x) h2
    have k2 := cons1 (nD x + 4) h4
    have k3 : x.drop (nD x + 1) = (x.drop (nD x + 1)).take 3 ++ x.drop (nD x + 4) := by
      conv => lhs; rw [← List.take_append_drop 3 (x.drop (nD x + 1))]
      rw [List.drop_drop]
    rw [k2] at k3
    conv => lhs; rw [← List.take_append_drop (nD x) x, k1, k3]
  have hb3 : ((x.drop (nD x + 1)).take 3).length = 3 := by rw [List.length_take, List.length_drop]; omega
  have hmt : monI ((x.drop (nD x + 1)).take 3) = monI (x.drop (nD x + 1)) := monI_t3 (by rw [List.length_drop]; omega)
  have hc4 : (x.drop (nD x + 5)).take 4 = x.drop (nD x + 5) := List.take_of_length_le (by rw [List.length_drop]; omega)
  have hcd : (x.drop (nD x + 5)).all isDig = true := by have := h5.2; rw [hc4] at this; exact this
  refine ⟨x.take (nD x), (x.drop (nD x + 1)).take 3, x.drop (nD x + 5), ?_, ?_⟩
  · unfold splitS
    conv => lhs; rw [e0]
    rw [split_hit _ _ _ (dig_no45 ea.1), split_hit _ _ _ (monI_no45 hb3 (by rw [hmt]; exact h3)), split_end _ _ (dig_no45 hcd)]
    rfl
  · have f1 : monR ((x.drop (nD x + 1)).take 3) = monI (x.drop (nD x + 1)) + 1 := by
      rcases monOf_R ((x.drop (nD x + 1)).take 3) with ⟨m, f1, f2, f3⟩ | ⟨f1, f2⟩
      · unfold monOf at f1
        rw [hmt, if_pos ⟨hb3, h3⟩] at f1
        rw [f3, Option.some.inj f1]
      · unfold monOf at f1
        rw [hmt, if_pos ⟨hb3, h3⟩] at f1
        cases f1
    rw [f1, digK_of (by rw [ea.2]; omega) (by rw [ea.2]; omega) ea.1, digK_of (by rw [List.length_drop]; omega) (by rw [List.length_drop]; omega) hcd, numR_yes _ _ _ h3]
    unfold dayV
    rw [hc4]
theorem day_bwd {a b c : List UInt8} (hn : dayK (a ++ 45 :: (b ++ 45 :: c)) = none) : numR (digK c 4 4) (monR b) (digK a 1 2) = none := by
  by_cases ha : 1 ≤ a.length ∧ a.length ≤ 2 ∧ a.all isDig = true
  case neg => exact numR_no (.inr (.inr (digK_no ha)))
  by_cases hc : 4 ≤ c.length ∧ c.length ≤ 4 ∧ c.all isDig = true
  case neg => exact numR_no (.inl (digK_no hc))
  rcases monOf_R b with ⟨m, f1, f2, f3⟩ | ⟨f1, f2⟩
  case inr => rw [f2]; exact numR_no (.inr (.inl rfl))
  exfalso
  have hb : b.length = 3 ∧ monI b < 12 := by
    unfold monOf at f1
    split at f1
    · next h => exact h
    · cases f1
  obtain ⟨x, hx⟩ : ∃ x, x = a ++ 45 :: (b ++ 45 :: c) := ⟨_, rfl⟩
  have hxl : x.length = a.length + 9 := by rw [hx]; simp; omega
  have dA : x.drop a.length = 45 :: (b ++ 45 :: c) := by rw [hx, List.drop_left]
  have dA1 : x.drop (a.length + 1) = b ++ 45 :: c := by rw [← List.drop_drop, dA]; rfl
  have dA4 : x.drop (a.length + 4) = 45 :: c := by
    rw [show a.length + 4 = a.length + 1 + 3 from rfl, ← List.drop_drop, dA1, ← hb.1, List.drop_left]
  have dA5 : x.drop (a.length + 5) = c := by rw [show a.length + 5 = a.length + 4 + 1 from rfl, ← List.drop_drop, dA4]; rfl
  have tA : x.take a.length = a := by rw [hx, List.take_left]
  have hnD : nD x = a.length ∧ (digOk 2 x ∨ digOk 1 x) := by
    unfold nD
    by_cases h2 : a.length = 2
    · have g : digOk 2 x := ⟨by omega, by rw [← h2, tA]; exact ha.2.2⟩
      rw [if_pos g]
      exact ⟨h2.symm, .inl g⟩
    · have h1 : a.length = 1 := by omega
      have g : ¬ digOk 2 x := by
        intro g
        have e : x.take 2 = a ++ [45] := by
          rw [hx, List.take_append, h1]
          rw [List.take_of_length_le (by omega)]
          rfl
        have := g.2
        rw [e, List.all_append] at this
        simp only [Bool.and_eq_true] at this
        have h9 := this.2
        revert h9
        decide
      rw [if_neg g]
      exact ⟨h1.symm, .inr ⟨by omega, by rw [← h1, tA]; exact ha.2.2⟩⟩
  have hbc : bareC x := by
    unfold bareC
    rw [hnD.1, dA, dA1, dA4, dA5]
    refine ⟨hnD.2, rfl, ?_, rfl, ⟨hc.1, ?_⟩⟩
    · have := monI_t3 (x := b ++ 45 :: c) (by simp; omega)
      rw [← hb.1, List.take_left] at this
      rw [← this]
      exact hb.2
    · rw [List.take_of_length_le (by omega)]
      exact hc.2.2
  have := dayK_some hbc (by rw [hnD.1]; exact hxl)
  rw [hx, hn] at this
  cases this
theorem day_R2 (x : List UInt8) : dayN' x = dayR x := by
  unfold dayN' dayR
  cases hk : dayK x with
  | some p =>
    obtain ⟨k1, k2, k3⟩ := dayK_inv hk
    obtain ⟨a, b, c, e1, e2⟩ := day_fwd k1 k2
    rw [e1]
    simp only
    rw [e2, k3]
  | none =>
    simp only
    split
    · next a b c h =>
      have e := split_three h
      rw [e] at hk
      exact (day_bwd hk).symm
    · rfl
theorem parseDay_R (l : List UInt8) : parseDayK l = dayR (if quotD l = true then innD l else l) := by
  rw [← day_R2]
  unfold parseDayK dayQ dayN'
  by_cases hq : quotD l = true
  · rw [if_pos hq, if_pos hq]
    cases dayK (innD l) <;> rfl
  · rw [if_neg hq, if_neg hq]
    cases dayK l <;> rfl
end Go.Proofs.YtpmjlhpbknppiaaDoor

/- Contract of the document's number of a day's text. -/
namespace Go.Proofs.YtpmjlhpbknppiaaDoor
open Go Go.RowKit

def dayPs : List (List UInt8) → Option Int
  | [a, b, c] => numR (digK c 4 4) (monR b) (digK a 1 2)
  | _ => none
theorem dayPs_no {ps : List (List UInt8)} (h : ¬ ps.length = 3) : dayPs ps = none := by
  unfold dayPs
  split
  · exact absurd rfl h
  · rfl
theorem dayR_ps (x : List UInt8) : dayR x = dayPs (splitS 45 x) := rfl
theorem splitAux_le (c : UInt8) : ∀ (l cur : List UInt8), ∀ t ∈ splitAux c l cur, t.length ≤ cur.length + l.length
  | [], cur, t, ht => by
    rw [splitAux, List.mem_singleton] at ht
    rw [ht]
    simp
  | b :: l, cur, t, ht => by
    rw [splitAux] at ht
    simp only [List.length_cons]
    split at ht
    · rcases List.mem_cons.1 ht with rfl | ht
      · omega
      · have := splitAux_le c l [] t ht
        simp at this
        omega
    · have := splitAux_le c l (cur ++ [b]) t ht
      simp at this
      omega
theorem splitS_le {c : UInt8} {l : List UInt8} (t : List UInt8) (ht : t ∈ splitS c l) : t.length ≤ l.length := by
  have := splitAux_le c l [] t ht
  simpa using this
set_option maxRecDepth 100000 in
set_option maxHeartbeats 8000000 in
theorem refParseDay_any (s : ByteArray) (w : World) (hs : s.size ≤ 1000000) :
    Calls Tryd.prog 10 #[.string s] w fun e w' => e = .returned (numV' (parseDayK s.data.toList)) ∧ Below w.heap.size w w' := by
  by_cases h2 : 1 < s.size
  case neg =>
    have i1 : decide ((1 : Int) < (s.size : Int)) = false := decide_eq_false (by omega)
    have hQ : (if quotD s.data.toList = true then innD s.data.toList else s.data.toList) = s.data.toList := by
      rw [if_neg]
      unfold quotD
      rw [decide_eq_false (by rw [len_toList]; omega)]
      decide
    have HSp : Hid (∀ w, Calls Tryd.prog 36 #[.string s, .int .u8 45] w fun e w' => ∃ v, e = .returned v ∧ w'.ownsRow w.heap.size 9 1 v (splitS 45 s.data.toList).length ((splitS 45 s.data.toList).map strV) ∧ Below w.heap.size w w') := fun w => refSplit_any s 45 w (by omega)
    have hSl : ∀ t ∈ splitS 45 s.data.toList, t.length ≤ s.size := by
      intro t ht
      have := splitS_le _ ht
      rw [len_toList] at this
      exact this
    obtain ⟨ps, hps⟩ : ∃ ps, ps = splitS 45 s.data.toList := ⟨_, rfl⟩
    rw [← hps] at HSp hSl
    have HD : Hid (parseDayK s.data.toList = dayPs ps) := by
      unfold Hid
      rw [hps, parseDay_R, hQ]
      rfl
    have HSl : Hid (∀ t ∈ ps, t.length ≤ 1000000) := fun t ht => by
      have := hSl t ht
      omega
    clear hps hSl hQ
    go_enter Tryd.func10, Tryd.ntmps10
    go_wp2_with fail
    with_reducible refine (HSp.out _).mono ?_
    rintro e w1 ⟨v, rfl, hown, hb⟩
    have htx := txts_owned hown HSl.out (by omega)
    have HB := Lib.hid hb
    clear hown hb
    obtain ⟨tao, tcap, rfl, htc, htm, hat⟩ := htx
    have HAt := Lib.hid hat
    unfold maxLen at htm
    clear hat HSp
    by_cases h3 : ps.length = 3
    case neg =>
      have i3 : (((txL ps).length : Int) != 3) = true := bne_yes (by rw [txL_len]; omega)
      have HR : Hid (parseDayK s.data.toList = none) := by
        unfold Hid
        rw [HD.out]
        exact dayPs_no h3
      go_wp2_with fail
      go_ret2
      exact ⟨by rw [HR.out]; rfl, HB.out⟩
    rcases ps with _ | ⟨a, _ | ⟨b, _ | ⟨c, _ | ⟨d, r⟩⟩⟩⟩
    · cases h3
    · cases h3
    · cases h3
    · have hl3 : (txL [a, b, c]).length = 3 := rfl
      obtain ⟨B0, off, rfl, hbk, _, q0, _⟩ := HAt.out 0 (by rw [hl3]; decide)
      obtain ⟨_, _, e1, _, _, q1, _⟩ := HAt.out 1 (by rw [hl3]; decide)
      cases e1
      obtain ⟨_, _, e2, _, _, q2, _⟩ := HAt.out 2 (by rw [hl3]; decide)
      cases e2
      obtain ⟨Ab, hAb⟩ : ∃ T : ByteArray, T = ⟨a.toArray⟩ := ⟨_, rfl⟩
      have lAb : Ab.data.toList = a := by rw [hAb]
      have zAb : Ab.size ≤ 1000000 := by rw [← len_toList, lAb]; have := HSl.out a (by simp); omega
      have c0 : w1.cell? ⟨B0, off, none⟩ = some (.string Ab) := by rw [hAb]; exact q0
      obtain ⟨Bb, hBb⟩ : ∃ T : ByteArray, T = ⟨b.toArray⟩ := ⟨_, rfl⟩
      have lBb : Bb.data.toList = b := by rw [hBb]
      have zBb : Bb.size ≤ 1000000 := by rw [← len_toList, lBb]; have := HSl.out b (by simp); omega
      have c1 : w1.cell? ⟨B0, off + 1, none⟩ = some (.string Bb) := by rw [hBb]; exact q1
      obtain ⟨Cb, hCb⟩ : ∃ T : ByteArray, T = ⟨c.toArray⟩ := ⟨_, rfl⟩
      have lCb : Cb.data.toList = c := by rw [hCb]
      have zCb : Cb.size ≤ 1000000 := by rw [← len_toList, lCb]; have := HSl.out c (by simp); omega
      have c2 : w1.cell? ⟨B0, off + 2, none⟩ = some (.string Cb) := by rw [hCb]; exact q2
      rw [hl3] at htc ⊢
      clear q0 q1 q2 HAt hAb hBb hCb h3
      have HD2 : Hid (parseDayK s.data.toList = numR (digK c 4 4) (monR b) (digK a 1 2)) := HD.out
      obtain ⟨yy, hyy⟩ : ∃ Y, Y = digK c 4 4 := ⟨_, rfl⟩
      obtain ⟨mo, hmo⟩ : ∃ Y, Y = monR b := ⟨_, rfl⟩
      obtain ⟨da, hda⟩ : ∃ Y, Y = digK a 1 2 := ⟨_, rfl⟩
      obtain ⟨R, hR⟩ : ∃ R0, R0 = numR yy mo da := ⟨_, rfl⟩
      have hyb := digK_b c 4 4 (by decide)
      have hmob := monR_le b
      have hdab := digK_b a 1 2 (by decide)
      rw [← hyy, ← hmo, ← hda, ← hR] at HD2
      rw [← hyy] at hyb
      rw [← hmo] at hmob
      rw [← hda] at hdab
      have HYc := Lib.hid (fun w => refDigits_any Cb 4 4 4 4 rfl rfl (by decide) (by omega) w)
      rw [lCb, ← hyy] at HYc
      have HDa := Lib.hid (fun w => refDigits_any Ab 1 2 1 2 rfl rfl (by decide) (by omega) w)
      rw [lAb, ← hda] at HDa
      have HMo := Lib.hid (fun w => refMonth_any Bb (by omega) w)
      rw [lBb, ← hmo] at HMo
      have HN := Lib.hid (fun w => refNumber_any yy mo da hyb.1 (by omega) (by omega) (by omega) hdab.1 (by omega) w)
      rw [← hR] at HN
      have y0 : ∀ z : BW w1, z.v.cell? ⟨B0, off, none⟩ = some (.string Ab) := BW.cell c0
      have y1 : ∀ z : BW w1, z.v.cell? ⟨B0, off + 1, none⟩ = some (.string Bb) := BW.cell c1
      have y2 : ∀ z : BW w1, z.v.cell? ⟨B0, off + 2, none⟩ = some (.string Cb) := BW.cell c2
      clear hyy hmo hda hR
      rcases R with _ | n
      · unfold numV' at HN
        go_wp2_with fail
        refine wp_region_below (by kernel_rfl) (by kernel_rfl) ?_
        repeat (go_big_quiet_step (first
          | (go_at_call 28; first | (with_reducible exact BW.calls_same (HYc.out _)) | (with_reducible exact BW.calls_same (HDa.out _)))
          | (go_at_call 32; exact BW.calls (HMo.out _))
          | (go_at_call 31; exact BW.calls_same (HN.out _))))
        refine wpQuiet_nil ?_
        rintro _ ⟨zz, rfl⟩
        have HB3 : Hid (Below w.heap.size w zz.v) := HB.out.trans (zz.h.mono HB.out.size)
        go_wp2_with fail
        go_ret2
        exact ⟨by rw [HD2.out]; rfl, HB3.out⟩
      · unfold numV' at HN
        go_wp2_with fail
        refine wp_region_below (by kernel_rfl) (by kernel_rfl) ?_
        repeat (go_big_quiet_step (first
          | (go_at_call 28; first | (with_reducible exact BW.calls_same (HYc.out _)) | (with_reducible exact BW.calls_same (HDa.out _)))
          | (go_at_call 32; exact BW.calls (HMo.out _))
          | (go_at_call 31; exact BW.calls_same (HN.out _))))
        refine wpQuiet_nil ?_
        rintro _ ⟨zz, rfl⟩
        have HB3 : Hid (Below w.heap.size w zz.v) := HB.out.trans (zz.h.mono HB.out.size)
        go_wp2_with fail
        go_ret2
        exact ⟨by rw [HD2.out]; rfl, HB3.out⟩
    · simp at h3
  have i1 : decide ((1 : Int) < (s.size : Int)) = true := decide_eq_true (by omega)
  have hh0 : s.data.toList.head? = some (s[0]'(by omega)) := by
    rw [List.head?_eq_getElem?]
    exact list_at s 0 (by omega)
  have hhl : (s.data.toList.drop (s.data.toList.length - 1)).head? = some (s[s.size - 1]'(by omega)) := by
    rw [List.head?_drop, len_toList]
    exact list_at s (s.size - 1) (by omega)
  by_cases h34 : (s[0]'(by omega)).toNat = 34
  case neg =>
    have j0 : (((s[0]'(by omega)).toNat : Int) == 34) = false := byte_no 34 h34
    have hQ : (if quotD s.data.toList = true then innD s.data.toList else s.data.toList) = s.data.toList := by
      rw [if_neg]
      unfold quotD
      rw [hh0, decide_eq_false (fun h => h34 ((u8_eq 34 (by omega)).2 (Option.some.inj h.2.1)))]
      decide
    clear hh0 hhl
    have HSp : Hid (∀ w, Calls Tryd.prog 36 #[.string s, .int .u8 45] w fun e w' => ∃ v, e = .returned v ∧ w'.ownsRow w.heap.size 9 1 v (splitS 45 s.data.toList).length ((splitS 45 s.data.toList).map strV) ∧ Below w.heap.size w w') := fun w => refSplit_any s 45 w (by omega)
    have hSl : ∀ t ∈ splitS 45 s.data.toList, t.length ≤ s.size := by
      intro t ht
      have := splitS_le _ ht
      rw [len_toList] at this
      exact this
    obtain ⟨ps, hps⟩ : ∃ ps, ps = splitS 45 s.data.toList := ⟨_, rfl⟩
    rw [← hps] at HSp hSl
    have HD : Hid (parseDayK s.data.toList = dayPs ps) := by
      unfold Hid
      rw [hps, parseDay_R, hQ]
      rfl
    have HSl : Hid (∀ t ∈ ps, t.length ≤ 1000000) := fun t ht => by
      have := hSl t ht
      omega
    clear hps hSl hQ
    go_enter Tryd.func10, Tryd.ntmps10
    go_wp2_with fail
    with_reducible refine (HSp.out _).mono ?_
    rintro e w1 ⟨v, rfl, hown, hb⟩
    have htx := txts_owned hown HSl.out (by omega)
    have HB := Lib.hid hb
    clear hown hb
    obtain ⟨tao, tcap, rfl, htc, htm, hat⟩ := htx
    have HAt := Lib.hid hat
    unfold maxLen at htm
    clear hat HSp
    by_cases h3 : ps.length = 3
    case neg =>
      have i3 : (((txL ps).length : Int) != 3) = true := bne_yes (by rw [txL_len]; omega)
      have HR : Hid (parseDayK s.data.toList = none) := by
        unfold Hid
        rw [HD.out]
        exact dayPs_no h3
      go_wp2_with fail
      go_ret2
      exact ⟨by rw [HR.out]; rfl, HB.out⟩
    rcases ps with _ | ⟨a, _ | ⟨b, _ | ⟨c, _ | ⟨d, r⟩⟩⟩⟩
    · cases h3
    · cases h3
    · cases h3
    · have hl3 : (txL [a, b, c]).length = 3 := rfl
      obtain ⟨B0, off, rfl, hbk, _, q0, _⟩ := HAt.out 0 (by rw [hl3]; decide)
      obtain ⟨_, _, e1, _, _, q1, _⟩ := HAt.out 1 (by rw [hl3]; decide)
      cases e1
      obtain ⟨_, _, e2, _, _, q2, _⟩ := HAt.out 2 (by rw [hl3]; decide)
      cases e2
      obtain ⟨Ab, hAb⟩ : ∃ T : ByteArray, T = ⟨a.toArray⟩ := ⟨_, rfl⟩
      have lAb : Ab.data.toList = a := by rw [hAb]
      have zAb : Ab.size ≤ 1000000 := by rw [← len_toList, lAb]; have := HSl.out a (by simp); omega
      have c0 : w1.cell? ⟨B0, off, none⟩ = some (.string Ab) := by rw [hAb]; exact q0
      obtain ⟨Bb, hBb⟩ : ∃ T : ByteArray, T = ⟨b.toArray⟩ := ⟨_, rfl⟩
      have lBb : Bb.data.toList = b := by rw [hBb]
      have zBb : Bb.size ≤ 1000000 := by rw [← len_toList, lBb]; have := HSl.out b (by simp); omega
      have c1 : w1.cell? ⟨B0, off + 1, none⟩ = some (.string Bb) := by rw [hBb]; exact q1
      obtain ⟨Cb, hCb⟩ : ∃ T : ByteArray, T = ⟨c.toArray⟩ := ⟨_, rfl⟩
      have lCb : Cb.data.toList = c := by rw [hCb]
      have zCb : Cb.size ≤ 1000000 := by rw [← len_toList, lCb]; have := HSl.out c (by simp); omega
      have c2 : w1.cell? ⟨B0, off + 2, none⟩ = some (.string Cb) := by rw [hCb]; exact q2
      rw [hl3] at htc ⊢
      clear q0 q1 q2 HAt hAb hBb hCb h3
      have HD2 : Hid (parseDayK s.data.toList = numR (digK c 4 4) (monR b) (digK a 1 2)) := HD.out
      obtain ⟨yy, hyy⟩ : ∃ Y, Y = digK c 4 4 := ⟨_, rfl⟩
      obtain ⟨mo, hmo⟩ : ∃ Y, Y = monR b := ⟨_, rfl⟩
      obtain ⟨da, hda⟩ : ∃ Y, Y = digK a 1 2 := ⟨_, rfl⟩
      obtain ⟨R, hR⟩ : ∃ R0, R0 = numR yy mo da := ⟨_, rfl⟩
      have hyb := digK_b c 4 4 (by decide)
      have hmob := monR_le b
      have hdab := digK_b a 1 2 (by decide)
      rw [← hyy, ← hmo, ← hda, ← hR] at HD2
      rw [← hyy] at hyb
      rw [← hmo] at hmob
      rw [← hda] at hdab
      have HYc := Lib.hid (fun w => refDigits_any Cb 4 4 4 4 rfl rfl (by decide) (by omega) w)
      rw [lCb, ← hyy] at HYc
      have HDa := Lib.hid (fun w => refDigits_any Ab 1 2 1 2 rfl rfl (by decide) (by omega) w)
      rw [lAb, ← hda] at HDa
      have HMo := Lib.hid (fun w => refMonth_any Bb (by omega) w)
      rw [lBb, ← hmo] at HMo
      have HN := Lib.hid (fun w => refNumber_any yy mo da hyb.1 (by omega) (by omega) (by omega) hdab.1 (by omega) w)
      rw [← hR] at HN
      have y0 : ∀ z : BW w1, z.v.cell? ⟨B0, off, none⟩ = some (.string Ab) := BW.cell c0
      have y1 : ∀ z : BW w1, z.v.cell? ⟨B0, off + 1, none⟩ = some (.string Bb) := BW.cell c1
      have y2 : ∀ z : BW w1, z.v.cell? ⟨B0, off + 2, none⟩ = some (.string Cb) := BW.cell c2
      clear hyy hmo hda hR
      rcases R with _ | n
      · unfold numV' at HN
        go_wp2_with fail
        refine wp_region_below (by kernel_rfl) (by kernel_rfl) ?_
        repeat (go_big_quiet_step (first
          | (go_at_call 28; first | (with_reducible exact BW.calls_same (HYc.out _)) | (with_reducible exact BW.calls_same (HDa.out _)))
          | (go_at_call 32; exact BW.calls (HMo.out _))
          | (go_at_call 31; exact BW.calls_same (HN.out _))))
        refine wpQuiet_nil ?_
        rintro _ ⟨zz, rfl⟩
        have HB3 : Hid (Below w.heap.size w zz.v) := HB.out.trans (zz.h.mono HB.out.size)
        go_wp2_with fail
        go_ret2
        exact ⟨by rw [HD2.out]; rfl, HB3.out⟩
      · unfold numV' at HN
        go_wp2_with fail
        refine wp_region_below (by kernel_rfl) (by kernel_rfl) ?_
        repeat (go_big_quiet_step (first
          | (go_at_call 28; first | (with_reducible exact BW.calls_same (HYc.out _)) | (with_reducible exact BW.calls_same (HDa.out _)))
          | (go_at_call 32; exact BW.calls (HMo.out _))
          | (go_at_call 31; exact BW.calls_same (HN.out _))))
        refine wpQuiet_nil ?_
        rintro _ ⟨zz, rfl⟩
        have HB3 : Hid (Below w.heap.size w zz.v) := HB.out.trans (zz.h.mono HB.out.size)
        go_wp2_with fail
        go_ret2
        exact ⟨by rw [HD2.out]; rfl, HB3.out⟩
    · simp at h3
  have j0 : (((s[0]'(by omega)).toNat : Int) == 34) = true := byte_yes 34 h34
  by_cases h35 : (s[s.size - 1]'(by omega)).toNat = 34
  case neg =>
    have j1 : (((s[s.size - 1]'(by omega)).toNat : Int) == 34) = false := byte_no 34 h35
    have hQ : (if quotD s.data.toList = true then innD s.data.toList else s.data.toList) = s.data.toList := by
      rw [if_neg]
      unfold quotD
      rw [hhl, decide_eq_false (fun h => h35 ((u8_eq 34 (by omega)).2 (Option.some.inj h.2.2)))]
      decide
    clear hh0 hhl
    have HSp : Hid (∀ w, Calls Tryd.prog 36 #[.string s, .int .u8 45] w fun e w' => ∃ v, e = .returned v ∧ w'.ownsRow w.heap.size 9 1 v (splitS 45 s.data.toList).length ((splitS 45 s.data.toList).map strV) ∧ Below w.heap.size w w') := fun w => refSplit_any s 45 w (by omega)
    have hSl : ∀ t ∈ splitS 45 s.data.toList, t.length ≤ s.size := by
      intro t ht
      have := splitS_le _ ht
      rw [len_toList] at this
      exact this
    obtain ⟨ps, hps⟩ : ∃ ps, ps = splitS 45 s.data.toList := ⟨_, rfl⟩
    rw [← hps] at HSp hSl
    have HD : Hid (parseDayK s.data.toList = dayPs ps) := by
      unfold Hid
      rw [hps, parseDay_R, hQ]
      rfl
    have HSl : Hid (∀ t ∈ ps, t.length ≤ 1000000) := fun t ht => by
      have := hSl t ht
      omega
    clear hps hSl hQ
    go_enter Tryd.func10, Tryd.ntmps10
    go_wp2_with fail
    with_reducible refine (HSp.out _).mono ?_
    rintro e w1 ⟨v, rfl, hown, hb⟩
    have htx := txts_owned hown HSl.out (by omega)
    have HB := Lib.hid hb
    clear hown hb
    obtain ⟨tao, tcap, rfl, htc, htm, hat⟩ := htx
    have HAt := Lib.hid hat
    unfold maxLen at htm
    clear hat HSp
    by_cases h3 : ps.length = 3
    case neg =>
      have i3 : (((txL ps).length : Int) != 3) = true := bne_yes (by rw [txL_len]; omega)
      have HR : Hid (parseDayK s.data.toList = none) := by
        unfold Hid
        rw [HD.out]
        exact dayPs_no h3
      go_wp2_with fail
      go_ret2
      exact ⟨by rw [HR.out]; rfl, HB.out⟩
    rcases ps with _ | ⟨a, _ | ⟨b, _ | ⟨c, _ | ⟨d, r⟩⟩⟩⟩
    · cases h3
    · cases h3
    · cases h3
    · have hl3 : (txL [a, b, c]).length = 3 := rfl
      obtain ⟨B0, off, rfl, hbk, _, q0, _⟩ := HAt.out 0 (by rw [hl3]; decide)
      obtain ⟨_, _, e1, _, _, q1, _⟩ := HAt.out 1 (by rw [hl3]; decide)
      cases e1
      obtain ⟨_, _, e2, _, _, q2, _⟩ := HAt.out 2 (by rw [hl3]; decide)
      cases e2
      obtain ⟨Ab, hAb⟩ : ∃ T : ByteArray, T = ⟨a.toArray⟩ := ⟨_, rfl⟩
      have lAb : Ab.data.toList = a := by rw [hAb]
      have zAb : Ab.size ≤ 1000000 := by rw [← len_toList, lAb]; have := HSl.out a (by simp); omega
      have c0 : w1.cell? ⟨B0, off, none⟩ = some (.string Ab) := by rw [hAb]; exact q0
      obtain ⟨Bb, hBb⟩ : ∃ T : ByteArray, T = ⟨b.toArray⟩ := ⟨_, rfl⟩
      have lBb : Bb.data.toList = b := by rw [hBb]
      have zBb : Bb.size ≤ 1000000 := by rw [← len_toList, lBb]; have := HSl.out b (by simp); omega
      have c1 : w1.cell? ⟨B0, off + 1, none⟩ = some (.string Bb) := by rw [hBb]; exact q1
      obtain ⟨Cb, hCb⟩ : ∃ T : ByteArray, T = ⟨c.toArray⟩ := ⟨_, rfl⟩
      have lCb : Cb.data.toList = c := by rw [hCb]
      have zCb : Cb.size ≤ 1000000 := by rw [← len_toList, lCb]; have := HSl.out c (by simp); omega
      have c2 : w1.cell? ⟨B0, off + 2, none⟩ = some (.string Cb) := by rw [hCb]; exact q2
      rw [hl3] at htc ⊢
      clear q0 q1 q2 HAt hAb hBb hCb h3
      have HD2 : Hid (parseDayK s.data.toList = numR (digK c 4 4) (monR b) (digK a 1 2)) := HD.out
      obtain ⟨yy, hyy⟩ : ∃ Y, Y = digK c 4 4 := ⟨_, rfl⟩
      obtain ⟨mo, hmo⟩ : ∃ Y, Y = monR b := ⟨_, rfl⟩
      obtain ⟨da, hda⟩ : ∃ Y, Y = digK a 1 2 := ⟨_, rfl⟩
      obtain ⟨R, hR⟩ : ∃ R0, R0 = numR yy mo da := ⟨_, rfl⟩
      have hyb := digK_b c 4 4 (by decide)
      have hmob := monR_le b
      have hdab := digK_b a 1 2 (by decide)
      rw [← hyy, ← hmo, ← hda, ← hR] at HD2
      rw [← hyy] at hyb
      rw [← hmo] at hmob
      rw [← hda] at hdab
      have HYc := Lib.hid (fun w => refDigits_any Cb 4 4 4 4 rfl rfl (by decide) (by omega) w)
      rw [lCb, ← hyy] at HYc
      have HDa := Lib.hid (fun w => refDigits_any Ab 1 2 1 2 rfl rfl (by decide) (by omega) w)
      rw [lAb, ← hda] at HDa
      have HMo := Lib.hid (fun w => refMonth_any Bb (by omega) w)
      rw [lBb, ← hmo] at HMo
      have HN := Lib.hid (fun w => refNumber_any yy mo da hyb.1 (by omega) (by omega) (by omega) hdab.1 (by omega) w)
      rw [← hR] at HN
      have y0 : ∀ z : BW w1, z.v.cell? ⟨B0, off, none⟩ = some (.string Ab) := BW.cell c0
      have y1 : ∀ z : BW w1, z.v.cell? ⟨B0, off + 1, none⟩ = some (.string Bb) := BW.cell c1
      have y2 : ∀ z : BW w1, z.v.cell? ⟨B0, off + 2, none⟩ = some (.string Cb) := BW.cell c2
      clear hyy hmo hda hR
      rcases R with _ | n
      · unfold numV' at HN
        go_wp2_with fail
        refine wp_region_below (by kernel_rfl) (by kernel_rfl) ?_
        repeat (go_big_quiet_step (first
          | (go_at_call 28; first | (with_reducible exact BW.calls_same (HYc.out _)) | (with_reducible exact BW.calls_same (HDa.out _)))
          | (go_at_call 32; exact BW.calls (HMo.out _))
          | (go_at_call 31; exact BW.calls_same (HN.out _))))
        refine wpQuiet_nil ?_
        rintro _ ⟨zz, rfl⟩
        have HB3 : Hid (Below w.heap.size w zz.v) := HB.out.trans (zz.h.mono HB.out.size)
        go_wp2_with fail
        go_ret2
        exact ⟨by rw [HD2.out]; rfl, HB3.out⟩
      · unfold numV' at HN
        go_wp2_with fail
        refine wp_region_below (by kernel_rfl) (by kernel_rfl) ?_
        repeat (go_big_quiet_step (first
          | (go_at_call 28; first | (with_reducible exact BW.calls_same (HYc.out _)) | (with_reducible exact BW.calls_same (HDa.out _)))
          | (go_at_call 32; exact BW.calls (HMo.out _))
          | (go_at_call 31; exact BW.calls_same (HN.out _))))
        refine wpQuiet_nil ?_
        rintro _ ⟨zz, rfl⟩
        have HB3 : Hid (Below w.heap.size w zz.v) := HB.out.trans (zz.h.mono HB.out.size)
        go_wp2_with fail
        go_ret2
        exact ⟨by rw [HD2.out]; rfl, HB3.out⟩
    · simp at h3
  have j1 : (((s[s.size - 1]'(by omega)).toNat : Int) == 34) = true := byte_yes 34 h35
  have hQ : (if quotD s.data.toList = true then innD s.data.toList else s.data.toList) = (s.extract 1 (s.size - 1)).data.toList := by
    rw [if_pos]
    · unfold innD
      rw [extract_toList, len_toList]
      congr 1
    · unfold quotD
      rw [hh0, hhl, len_toList]
      exact decide_eq_true ⟨by omega, congrArg some ((u8_eq 34 (by omega)).1 h34), congrArg some ((u8_eq 34 (by omega)).1 h35)⟩
  clear hh0 hhl
  obtain ⟨S, hS⟩ : ∃ S, S = s.extract 1 (s.size - 1) := ⟨_, rfl⟩
  have hSz : S.size ≤ 1000000 := by rw [hS, extract_size' s 1 (s.size - 1) (by omega)]; omega
  rw [← hS] at hQ
  have HSp : Hid (∀ w, Calls Tryd.prog 36 #[.string S, .int .u8 45] w fun e w' => ∃ v, e = .returned v ∧ w'.ownsRow w.heap.size 9 1 v (splitS 45 S.data.toList).length ((splitS 45 S.data.toList).map strV) ∧ Below w.heap.size w w') := fun w => refSplit_any S 45 w (by omega)
  have hSl : ∀ t ∈ splitS 45 S.data.toList, t.length ≤ S.size := by
    intro t ht
    have := splitS_le _ ht
    rw [len_toList] at this
    exact this
  obtain ⟨ps, hps⟩ : ∃ ps, ps = splitS 45 S.data.toList := ⟨_, rfl⟩
  rw [← hps] at HSp hSl
  have HD : Hid (parseDayK s.data.toList = dayPs ps) := by
    unfold Hid
    rw [hps, parseDay_R, hQ]
    rfl
  have HSl : Hid (∀ t ∈ ps, t.length ≤ 1000000) := fun t ht => by
    have := hSl t ht
    omega
  clear hps hSl hQ
  go_enter Tryd.func10, Tryd.ntmps10
  go_wp2_with fail
  rw [← hS]
  clear hS
  with_reducible refine (HSp.out _).mono ?_
  rintro e w1 ⟨v, rfl, hown, hb⟩
  have htx := txts_owned hown HSl.out (by omega)
  have HB := Lib.hid hb
  clear hown hb
  obtain ⟨tao, tcap, rfl, htc, htm, hat⟩ := htx
  have HAt := Lib.hid hat
  unfold maxLen at htm
  clear hat HSp
  by_cases h3 : ps.length = 3
  case neg =>
    have i3 : (((txL ps).length : Int) != 3) = true := bne_yes (by rw [txL_len]; omega)
    have HR : Hid (parseDayK s.data.toList = none) := by
      unfold Hid
      rw [HD.out]
      exact dayPs_no h3
    go_wp2_with fail
    go_ret2
    exact ⟨by rw [HR.out]; rfl, HB.out⟩
  rcases ps with _ | ⟨a, _ | ⟨b, _ | ⟨c, _ | ⟨d, r⟩⟩⟩⟩
  · cases h3
  · cases h3
  · cases h3
  · have hl3 : (txL [a, b, c]).length = 3 := rfl
    obtain ⟨B0, off, rfl, hbk, _, q0, _⟩ := HAt.out 0 (by rw [hl3]; decide)
    obtain ⟨_, _, e1, _, _, q1, _⟩ := HAt.out 1 (by rw [hl3]; decide)
    cases e1
    obtain ⟨_, _, e2, _, _, q2, _⟩ := HAt.out 2 (by rw [hl3]; decide)
    cases e2
    obtain ⟨Ab, hAb⟩ : ∃ T : ByteArray, T = ⟨a.toArray⟩ := ⟨_, rfl⟩
    have lAb : Ab.data.toList = a := by rw [hAb]
    have zAb : Ab.size ≤ 1000000 := by rw [← len_toList, lAb]; have := HSl.out a (by simp); omega
    have c0 : w1.cell? ⟨B0, off, none⟩ = some (.string Ab) := by rw [hAb]; exact q0
    obtain ⟨Bb, hBb⟩ : ∃ T : ByteArray, T = ⟨b.toArray⟩ := ⟨_, rfl⟩
    have lBb : Bb.data.toList = b := by rw [hBb]
    have zBb : Bb.size ≤ 1000000 := by rw [← len_toList, lBb]; have := HSl.out b (by simp); omega
    have c1 : w1.cell? ⟨B0, off + 1, none⟩ = some (.string Bb) := by rw [hBb]; exact q1
    obtain ⟨Cb, hCb⟩ : ∃ T : ByteArray, T = ⟨c.toArray⟩ := ⟨_, rfl⟩
    have lCb : Cb.data.toList = c := by rw [hCb]
    have zCb : Cb.size ≤ 1000000 := by rw [← len_toList, lCb]; have := HSl.out c (by simp); omega
    have c2 : w1.cell? ⟨B0, off + 2, none⟩ = some (.string Cb) := by rw [hCb]; exact q2
    rw [hl3] at htc ⊢
    clear q0 q1 q2 HAt hAb hBb hCb h3
    have HD2 : Hid (parseDayK s.data.toList = numR (digK c 4 4) (monR b) (digK a 1 2)) := HD.out
    obtain ⟨yy, hyy⟩ : ∃ Y, Y = digK c 4 4 := ⟨_, rfl⟩
    obtain ⟨mo, hmo⟩ : ∃ Y, Y = monR b := ⟨_, rfl⟩
    obtain ⟨da, hda⟩ : ∃ Y, Y = digK a 1 2 := ⟨_, rfl⟩
    obtain ⟨R, hR⟩ : ∃ R0, R0 = numR yy mo da := ⟨_, rfl⟩
    have hyb := digK_b c 4 4 (by decide)
    have hmob := monR_le b
    have hdab := digK_b a 1 2 (by decide)
    rw [← hyy, ← hmo, ← hda, ← hR] at HD2
    rw [← hyy] at hyb
    rw [← hmo] at hmob
    rw [← hda] at hdab
    have HYc := Lib.hid (fun w => refDigits_any Cb 4 4 4 4 rfl rfl (by decide) (by omega) w)
    rw [lCb, ← hyy] at HYc
    have HDa := Lib.hid (fun w => refDigits_any Ab 1 2 1 2 rfl rfl (by decide) (by omega) w)
    rw [lAb, ← hda] at HDa
    have HMo := Lib.hid (fun w => refMonth_any Bb (by omega) w)
    rw [lBb, ← hmo] at HMo
    have HN := Lib.hid (fun w => refNumber_any yy mo da hyb.1 (by omega) (by omega) (by omega) hdab.1 (by omega) w)
    rw [← hR] at HN
    have y0 : ∀ z : BW w1, z.v.cell? ⟨B0, off, none⟩ = some (.string Ab) := BW.cell c0
    have y1 : ∀ z : BW w1, z.v.cell? ⟨B0, off + 1, none⟩ = some (.string Bb) := BW.cell c1
    have y2 : ∀ z : BW w1, z.v.cell? ⟨B0, off + 2, none⟩ = some (.string Cb) := BW.cell c2
    clear hyy hmo hda hR
    rcases R with _ | n
    · unfold numV' at HN
      go_wp2_with fail
      refine wp_region_below (by kernel_rfl) (by kernel_rfl) ?_
      repeat (go_big_quiet_step (first
        | (go_at_call 28; first | (with_reducible exact BW.calls_same (HYc.out _)) | (with_reducible exact BW.calls_same (HDa.out _)))
        | (go_at_call 32; exact BW.calls (HMo.out _))
        | (go_at_call 31; exact BW.calls_same (HN.out _))))
      refine wpQuiet_nil ?_
      rintro _ ⟨zz, rfl⟩
      have HB3 : Hid (Below w.heap.size w zz.v) := HB.out.trans (zz.h.mono HB.out.size)
      go_wp2_with fail
      go_ret2
      exact ⟨by rw [HD2.out]; rfl, HB3.out⟩
    · unfold numV' at HN
      go_wp2_with fail
      refine wp_region_below (by kernel_rfl) (by kernel_rfl) ?_
      repeat (go_big_quiet_step (first
        | (go_at_call 28; first | (with_reducible exact BW.calls_same (HYc.out _)) | (with_reducible exact BW.calls_same (HDa.out _)))
        | (go_at_call 32; exact BW.calls (HMo.out _))
        | (go_at_call 31; exact BW.calls_same (HN.out _))))
      refine wpQuiet_nil ?_
      rintro _ ⟨zz, rfl⟩
      have HB3 : Hid (Below w.heap.size w zz.v) := HB.out.trans (zz.h.mono HB.out.size)
      go_wp2_with fail
      go_ret2
      exact ⟨by rw [HD2.out]; rfl, HB3.out⟩
  · simp at h3
end Go.Proofs.YtpmjlhpbknppiaaDoor

/- The law DateParses. -/
namespace Go.Proofs.YtpmjlhpbknppiaaDoor
open Go Go.RowKit

theorem momV_form (x : Option (Int × Int)) : ∃ A Z b, momV x = .tuple #[.agg #[.int .i64 A, .int .i64 Z], .bool b] := by
  cases x with
  | none => exact ⟨0, 0, false, rfl⟩
  | some p => exact ⟨p.1, p.2, true, rfl⟩
theorem numV_form (x : Option Int) : ∃ n b, numV' x = .tuple #[.int .i64 n, .bool b] := by
  cases x with
  | none => exact ⟨0, false, rfl⟩
  | some n => exact ⟨n, true, rfl⟩
theorem parseK_R (l : List UInt8) : parseK l = refTs (textsL l) := by
  unfold parseK
  refine parse_R _ fun t ht => (bet_parts l).1 t ?_
  unfold textsL at ht
  split at ht
  · exact List.mem_of_mem_tail ht
  · exact ht
theorem two_at {w : World} {B : Nat} {A Z : Int} {t : TypeId} (h : w.heap[B]? = some (.cells #[.int .i64 A, .int .i64 Z] t (0, 0))) : w.cell? ⟨B, 0, none⟩ = some (.int .i64 A) ∧ w.cell? ⟨B, 1, none⟩ = some (.int .i64 Z) := by
  constructor <;> simp [World.cell?, h]
set_option maxRecDepth 100000 in
set_option maxHeartbeats 8000000 in
theorem dateParses_of (HI : IntOk) (s : ByteArray) (w : World) (hE : envD w) :
    Calls Tryd.prog 3 #[.string s] w fun e w' => e = .returned (.bool true) ∧ Below w.heap.size w w' := by
  have HAw := Lib.hid (fun w h => awake_any HI w h)
  have HEn := Lib.hid hE
  clear hE HI
  by_cases hs : 200 < s.size
  · have i1 : decide ((200 : Int) < (s.size : Int)) = true := decide_eq_true (by omega)
    go_enter Tryd.func3, Tryd.ntmps3
    go_wp2_with fail
    with_reducible refine (HAw.out _ HEn.out).mono ?_
    rintro e w1 ⟨rfl, hb⟩
    have HB := Lib.hid hb
    clear hb
    go_wp2_with fail
    go_ret
    exact ⟨rfl, HB.out⟩
  · have i1 : decide ((200 : Int) < (s.size : Int)) = false := decide_eq_false (by omega)
    have HP := Lib.hid (fun w h => parse_any s w (by omega) h)
    have HRP := Lib.hid (fun w => refParse_any s w (by omega))
    rw [parseK_R] at HP
    have HQ := Lib.hid (fun w h => parseInternal_any s w (by omega) h)
    have HRQ := Lib.hid (fun w => refParseInternal_any s w)
    rw [int_R] at HQ
    have HD := Lib.hid (fun w h => parseDay_any s w (by omega) h)
    have HRD := Lib.hid (fun w => refParseDay_any s w (by omega))
    obtain ⟨A, Z, b, e1⟩ := momV_form (refTs (textsL s.data.toList))
    obtain ⟨A2, Z2, b2, e2⟩ := momV_form (intR s.data.toList)
    obtain ⟨n, b3, e3⟩ := numV_form (parseDayK s.data.toList)
    rw [e1] at HP HRP
    rw [e2] at HQ HRQ
    rw [e3] at HD HRD
    clear e1 e2 e3
    have q1 : (A == A) = true := beq_yes rfl
    have q2 : (Z == Z) = true := beq_yes rfl
    have q3 : (b == b) = true := by cases b <;> rfl
    have q4 : (A2 == A2) = true := beq_yes rfl
    have q5 : (Z2 == Z2) = true := beq_yes rfl
    have q6 : (b2 == b2) = true := by cases b2 <;> rfl
    have q7 : (n == n) = true := beq_yes rfl
    have q8 : (b3 == b3) = true := by cases b3 <;> rfl
    go_enter Tryd.func3, Tryd.ntmps3
    go_wp2_with fail
    with_reducible refine (HAw.out _ HEn.out).mono ?_
    rintro e w1 ⟨rfl, hb⟩
    have HB := Lib.hid hb
    clear hb
    go_wp2_with fail
    with_reducible refine (HP.out _ (HEn.out.below HB.out)).mono ?_
    rintro e v0 ⟨rfl, hb⟩
    replace HB := Lib.hid (HB.out.trans (hb.mono HB.out.size))
    clear hb
    obtain ⟨Y0, hY⟩ : ∃ W, W = v0.alloc (.cells #[.int .i64 A, .int .i64 Z] 24) := ⟨_, rfl⟩
    obtain ⟨B0, hB⟩ : ∃ B, B = v0.heap.size := ⟨_, rfl⟩
    have hb : Below v0.heap.size v0 Y0 := by rw [hY]; exact (Below.refl _ _).alloc (Nat.le_refl _) _
    have K0 : Hid (Y0.heap[B0]? = some (.cells #[.int .i64 A, .int .i64 Z] 24 (0, 0))) := by rw [hY, hB]; exact heap_alloc_new v0 _
    have L0 : Hid (B0 < Y0.heap.size) := by rw [hY, hB]; unfold Hid; simp
    replace HB := Lib.hid (HB.out.trans (hb.mono HB.out.size))
    go_wp2_with fail
    rw [← hY, ← hB]
    clear hb hY hB
    with_reducible refine (HRP.out _ ).mono ?_
    rintro e v1 ⟨rfl, hb⟩
    replace HB := Lib.hid (HB.out.trans (hb.mono HB.out.size))
    replace K0 := Lib.hid ((hb.block _ L0.out).trans K0.out)
    replace L0 := Lib.hid (Nat.lt_of_lt_of_le L0.out hb.size)
    clear hb
    obtain ⟨Y1, hY⟩ : ∃ W, W = v1.alloc (.cells #[.int .i64 A, .int .i64 Z] 27) := ⟨_, rfl⟩
    obtain ⟨B1, hB⟩ : ∃ B, B = v1.heap.size := ⟨_, rfl⟩
    have hb : Below v1.heap.size v1 Y1 := by rw [hY]; exact (Below.refl _ _).alloc (Nat.le_refl _) _
    have K1 : Hid (Y1.heap[B1]? = some (.cells #[.int .i64 A, .int .i64 Z] 27 (0, 0))) := by rw [hY, hB]; exact heap_alloc_new v1 _
    have L1 : Hid (B1 < Y1.heap.size) := by rw [hY, hB]; unfold Hid; simp
    replace HB := Lib.hid (HB.out.trans (hb.mono HB.out.size))
    replace K0 := Lib.hid ((hb.block _ L0.out).trans K0.out)
    replace L0 := Lib.hid (Nat.lt_of_lt_of_le L0.out hb.size)
    go_wp2_with fail
    rw [← hY, ← hB]
    clear hb hY hB
    with_reducible refine (HQ.out _ (HEn.out.below HB.out)).mono ?_
    rintro e v2 ⟨rfl, hb⟩
    replace HB := Lib.hid (HB.out.trans (hb.mono HB.out.size))
    replace K0 := Lib.hid ((hb.block _ L0.out).trans K0.out)
    replace L0 := Lib.hid (Nat.lt_of_lt_of_le L0.out hb.size)
    replace K1 := Lib.hid ((hb.block _ L1.out).trans K1.out)
    replace L1 := Lib.hid (Nat.lt_of_lt_of_le L1.out hb.size)
    clear hb
    obtain ⟨Y2, hY⟩ : ∃ W, W = v2.alloc (.cells #[.int .i64 A2, .int .i64 Z2] 24) := ⟨_, rfl⟩
    obtain ⟨B2, hB⟩ : ∃ B, B = v2.heap.size := ⟨_, rfl⟩
    have hb : Below v2.heap.size v2 Y2 := by rw [hY]; exact (Below.refl _ _).alloc (Nat.le_refl _) _
    have K2 : Hid (Y2.heap[B2]? = some (.cells #[.int .i64 A2, .int .i64 Z2] 24 (0, 0))) := by rw [hY, hB]; exact heap_alloc_new v2 _
    have L2 : Hid (B2 < Y2.heap.size) := by rw [hY, hB]; unfold Hid; simp
    replace HB := Lib.hid (HB.out.trans (hb.mono HB.out.size))
    replace K0 := Lib.hid ((hb.block _ L0.out).trans K0.out)
    replace L0 := Lib.hid (Nat.lt_of_lt_of_le L0.out hb.size)
    replace K1 := Lib.hid ((hb.block _ L1.out).trans K1.out)
    replace L1 := Lib.hid (Nat.lt_of_lt_of_le L1.out hb.size)
    go_wp2_with fail
    rw [← hY, ← hB]
    clear hb hY hB
    with_reducible refine (HRQ.out _ ).mono ?_
    rintro e v3 ⟨rfl, hb⟩
    replace HB := Lib.hid (HB.out.trans (hb.mono HB.out.size))
    replace K0 := Lib.hid ((hb.block _ L0.out).trans K0.out)
    replace L0 := Lib.hid (Nat.lt_of_lt_of_le L0.out hb.size)
    replace K1 := Lib.hid ((hb.block _ L1.out).trans K1.out)
    replace L1 := Lib.hid (Nat.lt_of_lt_of_le L1.out hb.size)
    replace K2 := Lib.hid ((hb.block _ L2.out).trans K2.out)
    replace L2 := Lib.hid (Nat.lt_of_lt_of_le L2.out hb.size)
    clear hb
    obtain ⟨Y3, hY⟩ : ∃ W, W = v3.alloc (.cells #[.int .i64 A2, .int .i64 Z2] 27) := ⟨_, rfl⟩
    obtain ⟨B3, hB⟩ : ∃ B, B = v3.heap.size := ⟨_, rfl⟩
    have hb : Below v3.heap.size v3 Y3 := by rw [hY]; exact (Below.refl _ _).alloc (Nat.le_refl _) _
    have K3 : Hid (Y3.heap[B3]? = some (.cells #[.int .i64 A2, .int .i64 Z2] 27 (0, 0))) := by rw [hY, hB]; exact heap_alloc_new v3 _
    have L3 : Hid (B3 < Y3.heap.size) := by rw [hY, hB]; unfold Hid; simp
    replace HB := Lib.hid (HB.out.trans (hb.mono HB.out.size))
    replace K0 := Lib.hid ((hb.block _ L0.out).trans K0.out)
    replace L0 := Lib.hid (Nat.lt_of_lt_of_le L0.out hb.size)
    replace K1 := Lib.hid ((hb.block _ L1.out).trans K1.out)
    replace L1 := Lib.hid (Nat.lt_of_lt_of_le L1.out hb.size)
    replace K2 := Lib.hid ((hb.block _ L2.out).trans K2.out)
    replace L2 := Lib.hid (Nat.lt_of_lt_of_le L2.out hb.size)
    go_wp2_with fail
    rw [← hY, ← hB]
    clear hb hY hB
    with_reducible refine (HD.out _ (HEn.out.below HB.out)).mono ?_
    rintro e v4 ⟨rfl, hb⟩
    replace HB := Lib.hid (HB.out.trans (hb.mono HB.out.size))
    replace K0 := Lib.hid ((hb.block _ L0.out).trans K0.out)
    replace L0 := Lib.hid (Nat.lt_of_lt_of_le L0.out hb.size)
    replace K1 := Lib.hid ((hb.block _ L1.out).trans K1.out)
    replace L1 := Lib.hid (Nat.lt_of_lt_of_le L1.out hb.size)
    replace K2 := Lib.hid ((hb.block _ L2.out).trans K2.out)
    replace L2 := Lib.hid (Nat.lt_of_lt_of_le L2.out hb.size)
    replace K3 := Lib.hid ((hb.block _ L3.out).trans K3.out)
    replace L3 := Lib.hid (Nat.lt_of_lt_of_le L3.out hb.size)
    clear hb
    go_wp2_with fail
    with_reducible refine (HRD.out _ ).mono ?_
    rintro e v5 ⟨rfl, hb⟩
    replace HB := Lib.hid (HB.out.trans (hb.mono HB.out.size))
    replace K0 := Lib.hid ((hb.block _ L0.out).trans K0.out)
    replace L0 := Lib.hid (Nat.lt_of_lt_of_le L0.out hb.size)
    replace K1 := Lib.hid ((hb.block _ L1.out).trans K1.out)
    replace L1 := Lib.hid (Nat.lt_of_lt_of_le L1.out hb.size)
    replace K2 := Lib.hid ((hb.block _ L2.out).trans K2.out)
    replace L2 := Lib.hid (Nat.lt_of_lt_of_le L2.out hb.size)
    replace K3 := Lib.hid ((hb.block _ L3.out).trans K3.out)
    replace L3 := Lib.hid (Nat.lt_of_lt_of_le L3.out hb.size)
    clear hb
    obtain ⟨a0, z0⟩ := two_at K0.out
    obtain ⟨a1, z1⟩ := two_at K1.out
    obtain ⟨a2, z2⟩ := two_at K2.out
    obtain ⟨a3, z3⟩ := two_at K3.out
    go_wp2_with fail
    go_ret
    exact ⟨by simp, HB.out⟩
theorem dateParses_any (s : ByteArray) (w : World) (_hs : s.size ≤ 9223372036854775807) (hE : envD w) :
    Calls Tryd.prog 3 #[.string s] w fun e w' => e = .returned (.bool true) ∧ Below w.heap.size w w' := dateParses_of (fun sec zone w a b c d h => internal_any sec zone w a b c d h) s w hE
end Go.Proofs.YtpmjlhpbknppiaaDoor
