/- Layer 18: contracts of package wire: atLiteral, bracket. -/
import Derived.Test.YtkkdplccneeaiaaGreatDoorGbWrI
namespace Go.Proofs.YtkkdplccneeaiaaGreatDoor
open Go Go.RowKit

set_option maxRecDepth 100000 in
theorem watLiteral_any (b off cap : Nat) (l : List UInt8) (k : Nat) (B : Nat) (w : World) (hr : Rb w B b off cap l k) (hk : k ≤ l.length) :
    Calls Tryz.prog 58 #[.agg #[.slice (some ⟨b, off, none⟩) l.length cap, .int .i64 (k : Int)]] w fun e w' => e = .returned (.bool (litW (l.drop k)).isSome) ∧ Below w.heap.size w w' := by
  obtain ⟨w0, hw0⟩ : ∃ x, x = w.alloc (.cells #[.slice (some ⟨b, off, none⟩) l.length cap, .int .i64 (k : Int)] 52) := ⟨_, rfl⟩
  have HA := Lib.hid (hr.new _ hw0)
  have HB0 : Hid (Below w.heap.size w w0) := by unfold Hid; rw [hw0]; exact (Below.refl _ _).alloc (Nat.le_refl _) _
  have HL := Lib.hid (wliteral_any w.heap.size b off cap l k w0 HA.out hk)
  have HW0 := Lib.hid hw0
  clear hr
  unfold LtW at HL
  cases hx : litW (l.drop k) with
  | none =>
    rw [hx] at HL
    have HL := Lib.hid HL.out
    simp only at HL
    go_enter Tryz.func58, Tryz.ntmps58
    go_wp2_with fail
    rw [← HW0.out]
    clear hw0
    with_reducible refine HL.out.mono ?_
    rintro e w1 ⟨rfl, hb⟩
    have HB1 := Lib.hid (HB0.out.trans (hb.mono HB0.out.size))
    clear hb
    go_wp2_with fail
    go_ret
    exact ⟨rfl, HB1.out⟩
  | some p =>
    obtain ⟨t, q⟩ := p
    rw [hx] at HL
    have HL := Lib.hid HL.out
    simp only at HL
    go_enter Tryz.func58, Tryz.ntmps58
    go_wp2_with fail
    rw [← HW0.out]
    clear hw0
    with_reducible refine HL.out.mono ?_
    rintro e w1 ⟨f, k', rfl, _, _, _, _, _, _, hg⟩
    have HB1 := Lib.hid (HB0.out.trans (hg.toBelow (Nat.le_refl _) HB0.out.size))
    clear hg
    go_wp2_with fail
    go_ret
    exact ⟨rfl, HB1.out⟩
theorem brkW_nil (g : Nat) : brkW (g + 1) [] = none := rfl
theorem brkW_end (g : Nat) (r : List UInt8) : brkW (g + 1) (93 :: r) = some r := by unfold brkW; rw [if_pos rfl]
theorem brkW_quo_no {g : Nat} {r : List UInt8} (h : quoW r = none) : brkW (g + 1) (34 :: r) = none := by unfold brkW; rw [if_neg (by decide), if_pos rfl, h]
theorem brkW_quo {g : Nat} {r t q : List UInt8} (h : quoW r = some (t, q)) : brkW (g + 1) (34 :: r) = brkW g q := by conv => lhs; unfold brkW
                                                                                                                     rw [if_neg (by decide), if_pos rfl, h]
theorem brkW_bad {g : Nat} {r : List UInt8} {c : UInt8} (h1 : c ≠ 93) (h2 : c ≠ 34) (h3 : prB c = false) : brkW (g + 1) (c :: r) = none := by unfold brkW; rw [if_neg h1, if_neg h2, if_neg (by rw [h3]; decide)]
theorem brkW_step {g : Nat} {r : List UInt8} {c : UInt8} (h1 : c ≠ 93) (h2 : c ≠ 34) (h3 : prB c = true) : brkW (g + 1) (c :: r) = brkW g r := by conv => lhs; unfold brkW
                                                                                                                                                  rw [if_neg h1, if_neg h2, if_pos h3]
theorem quoW_len : ∀ {s t q : List UInt8}, quoW s = some (t, q) → q.length < s.length
  | [], t, q, h => by cases h
  | [c], t, q, h => by
    unfold quoW at h
    split at h
    · cases h; simp
    · cases h
  | c :: d :: r, t, q, h => by
    unfold quoW at h
    split at h
    · cases h; simp
    · split at h
      · split at h
        · cases hr : quoW r with
          | none => rw [hr] at h; cases h
          | some p =>
            obtain ⟨a, b⟩ := p
            rw [hr] at h
            cases h
            have := quoW_len hr
            simp
            omega
        · cases h
      · cases hr : quoW (d :: r) with
        | none => rw [hr] at h; cases h
        | some p =>
          obtain ⟨a, b⟩ := p
          rw [hr] at h
          cases h
          have := quoW_len hr
          simp at this ⊢
          omega
/-- What 'bracket' answers. -/
def BkW (B b off cap : Nat) (l : List UInt8) (k : Nat) (w : World) (o : Option (List UInt8)) (e : Ending) (w' : World) : Prop :=
  match o with
  | none => e = .returned (.bool false) ∧ ∃ k', k' ≤ l.length ∧ Rb w' B b off cap l k' ∧ Gr B w w'
  | some q => ∃ k', e = .returned (.bool true) ∧ k < k' ∧ k' ≤ l.length ∧ l.drop k' = q ∧ Rb w' B b off cap l k' ∧ Gr B w w'
theorem pre1_at {l : List UInt8} {j : Nat} (c : UInt8) (hj : j < l.length) (x : Bool) (h : ([c] : List UInt8).isPrefixOf (l.drop j) = x) : x = (l[j] == c) := by
  rw [drop_consL hj] at h
  rw [← h]
  by_cases hc : l[j] = c
  · rw [hc]
    simp
  · have e : (l[j] == c) = false := by simpa using hc
    rw [e, Bool.eq_false_iff]
    intro h2
    obtain ⟨r, hr⟩ := (isPre1 _ _).1 h2
    exact hc (List.cons.inj hr).1
set_option maxRecDepth 100000 in
set_option maxHeartbeats 4000000 in
theorem wbracket_any (B b off cap : Nat) (l : List UInt8) (k : Nat) (w : World) (hr : Rb w B b off cap l k) (hk : k < l.length) :
    Calls Tryz.prog 56 #[.pointer (some ⟨B, 0, none⟩)] w (BkW B b off cap l k w (brkW ((l.drop (k + 1)).length + 1) (l.drop (k + 1)))) := by
  have hsm := hr.sm
  have hBw := hr.ltB
  have HTk := Lib.hid (fun j q p W x hq hp hx (h : Rb W B b off cap l j) hj => wtakes_any B b off cap l j q p W hq hp h hj x hx)
  have HQ := Lib.hid (fun j W (h : Rb W B b off cap l j) hj => wquoted_any B b off cap l j W h hj)
  have HP := Lib.hid wplain_any
  have HR := Lib.hid hr
  have c0 := hr.c0
  have c1 := hr.c1
  have f1 := hr.f1
  have hkk : (k : Int) + 1 ≤ 1000000001 := by omega
  have HR0 := Lib.hid (hr.set (k + 1))
  have HG0 : Hid (Gr B w (w.setCell ⟨B, 1, none⟩ (.int .i64 ((k + 1 : Nat) : Int)))) := (Gr.refl B w).set 1 _
  have HK : Hid ((k : Int) + 1 = ((k + 1 : Nat) : Int)) := by unfold Hid; omega
  clear hr
  go_enter Tryz.func56, Tryz.ntmps56
  go_wp2_with fail
  rw [HK.out]
  go_loopg [] (l.length - (k + 1)) (fun g wr => ∃ (j n : Nat), g = l.length - j ∧ k < j ∧ j ≤ l.length ∧ Hid ((l.drop j).length < n) ∧ Hid (Rb wr B b off cap l j) ∧ Hid (Gr B w wr) ∧ Hid (brkW ((l.drop (k + 1)).length + 1) (l.drop (k + 1)) = brkW n (l.drop j)))
  case atStart => exact ⟨k + 1, _, rfl, by omega, by omega, Nat.lt_succ_self _, HR0.out, HG0.out, rfl⟩
  case round =>
    obtain ⟨j, n, rfl, hkj, hj, HN, HRj, HG, HS⟩ := hrel
    obtain ⟨n, rfl⟩ : ∃ m, n = m + 1 := ⟨n - 1, by have := HN.out; omega⟩
    have C0 := BW.cell HRj.out.c0
    have C1 := BW.cell HRj.out.c1
    by_cases hlt : j < l.length
    · have hd : ((j : Int) < (l.length : Int)) := by omega
      have HD := Lib.hid (drop_consL hlt)
      go_wp2_with fail
      refine wp_region_below (by kernel_rfl) (by kernel_rfl) ?_
      repeat (go_big_quiet_step (fail))
      refine wpQuiet_nil ?_
      rintro W1 ⟨⟨_, hb1⟩, rfl⟩
      have HR1 := Lib.hid (HRj.out.below hb1)
      have HG1 := Lib.hid (HG.out.below hb1)
      replace C0 := BW.cell HR1.out.c0
      replace C1 := BW.cell HR1.out.c1
      have C2 : ∀ z : BW W1, z.v.cell? ⟨b, off + j, none⟩ = some (.int .u8 (l[j].toNat : Int)) := BW.cell (HR1.out.at_ j hlt)
      clear hb1 HRj HG
      go_wp2_with fail
      refine wp_region_below (by kernel_rfl) (by kernel_rfl) ?_
      repeat (go_big_quiet_step (fail))
      refine wpQuiet_nil ?_
      rintro W2 ⟨⟨_, hb2⟩, rfl⟩
      have HR2 := Lib.hid (HR1.out.below hb2)
      have HG2 := Lib.hid (HG1.out.below hb2)
      clear hb2 HR1 HG1 C0 C1 C2
      obtain ⟨x1, hx1⟩ : ∃ x, ([93] : List UInt8).isPrefixOf (l.drop j) = x := ⟨_, rfl⟩
      have HX1 := Lib.hid (pre1_at 93 hlt x1 hx1)
      have HT1 := Lib.hid (HTk.out j ⟨#[93]⟩ [93] W2 x1 rfl (by decide) hx1 HR2.out hj)
      clear hx1
      go_wp2_with fail
      with_reducible refine HT1.out.mono ?_
      rintro e w3 ⟨rfl, hr3, hg3⟩
      have HG3 := Lib.hid (HG2.out.trans hg3)
      cases x1 with
      | true =>
        have HR3 : Hid (Rb w3 B b off cap l (j + 1)) := hr3
        clear hr3 hg3 HT1
        go_wp2_with fail
        try rw [Exit.noGoto_ret]
        go_ret
        have e1 : brkW ((l.drop (k + 1)).length + 1) (l.drop (k + 1)) = some (l.drop (j + 1)) := by
          rw [HS.out, HD.out, show l[j] = 93 by have := HX1.out; simpa using this.symm, brkW_end]
        rw [e1]
        exact ⟨j + 1, rfl, by omega, hlt, rfl, HR3.out, HG3.out⟩
      | false =>
        have hne1 : l[j] ≠ 93 := by have := HX1.out; simpa using this.symm
        have HR3 : Hid (Rb w3 B b off cap l j) := hr3
        clear hr3 hg3 HT1 HR2 HG2
        obtain ⟨x2, hx2⟩ : ∃ x, ([34] : List UInt8).isPrefixOf (l.drop j) = x := ⟨_, rfl⟩
        have HX2 := Lib.hid (pre1_at 34 hlt x2 hx2)
        have HT2 := Lib.hid (HTk.out j ⟨#[34]⟩ [34] w3 x2 rfl (by decide) hx2 HR3.out hj)
        have HNe1 := Lib.hid hne1
        clear hx2 hne1
        go_wp2_with fail
        with_reducible refine HT2.out.mono ?_
        rintro e w4 ⟨rfl, hr4, hg4⟩
        have HG4 := Lib.hid (HG3.out.trans hg4)
        cases x2 with
        | true =>
          have HR4 : Hid (Rb w4 B b off cap l (j + 1)) := hr4
          have HE : Hid (l[j] = 34) := by have := HX2.out; unfold Hid; simpa using this.symm
          have HQ1 := Lib.hid (HQ.out (j + 1) w4 HR4.out hlt)
          clear hr4 hg4 HT2 HR3 HG3
          unfold QuoW at HQ1
          cases hq : quoW (l.drop (j + 1)) with
          | none =>
            rw [hq] at HQ1
            have HQ1 := Lib.hid HQ1.out
            simp only at HQ1
            have HB : Hid (brkW ((l.drop (k + 1)).length + 1) (l.drop (k + 1)) = none) := by
              unfold Hid
              rw [HS.out, HD.out, HE.out, brkW_quo_no hq]
            clear hq
            go_wp2_with fail
            with_reducible refine HQ1.out.mono ?_
            rintro e w5 ⟨rfl, k5, hk5, hr5, hg5⟩
            have HR5 := Lib.hid hr5
            have HG5 := Lib.hid (HG4.out.trans hg5)
            clear hr5 hg5
            go_wp2_with fail
            try rw [Exit.noGoto_ret]
            go_ret
            rw [HB.out]
            exact ⟨rfl, k5, hk5, HR5.out, HG5.out⟩
          | some p =>
            obtain ⟨t, q⟩ := p
            rw [hq] at HQ1
            have HQ1 := Lib.hid HQ1.out
            simp only at HQ1
            have HB : Hid (brkW ((l.drop (k + 1)).length + 1) (l.drop (k + 1)) = brkW n q) := by
              unfold Hid
              rw [HS.out, HD.out, HE.out, brkW_quo hq]
            have HQL := Lib.hid (quoW_len hq)
            clear hq
            go_wp2_with fail
            with_reducible refine HQ1.out.mono ?_
            rintro e w5 ⟨v5, k5, rfl, _, _, hk5, hr5, hd5, hg5⟩
            have HR5 := Lib.hid hr5
            have HG5 := Lib.hid (HG4.out.trans hg5)
            have HD5 := Lib.hid hd5
            have hjk : j < k5 := by
              have h1 := HQL.out
              rw [← hd5, List.length_drop, List.length_drop] at h1
              omega
            clear hr5 hg5 hd5
            go_wp2_with fail
            go_roundg (l.length - k5)
            case measure => omega
            case rel =>
              refine ⟨k5, n, rfl, by omega, hk5, ?_, HR5.out, HG5.out, ?_⟩
              · have h1 := HN.out
                unfold Hid
                simp only [List.length_drop] at h1 ⊢
                omega
              · unfold Hid
                rw [HB.out, HD5.out]
        | false =>
          have hne2 : l[j] ≠ 34 := by have := HX2.out; simpa using this.symm
          have HR4 : Hid (Rb w4 B b off cap l j) := hr4
          have HPj := Lib.hid (HP.out l[j] w4)
          clear hr4 hg4 HT2 HR3 HG3
          rcases Bool.eq_false_or_eq_true (prB l[j]) with hp | hp
          · have HB : Hid (brkW ((l.drop (k + 1)).length + 1) (l.drop (k + 1)) = brkW n (l.drop (j + 1))) := by
              unfold Hid
              rw [HS.out, HD.out, brkW_step HNe1.out hne2 hp]
            rw [hp] at HPj
            have c1' := HR4.out.c1
            have c0' := HR4.out.c0
            have f1' := HR4.out.f1
            clear hne2 hp
            go_wp2_with fail
            with_reducible refine HPj.out.mono ?_
            rintro e w5 ⟨rfl, rfl⟩
            go_wp2_with fail
            go_roundg (l.length - (j + 1))
            case measure => omega
            case rel =>
              refine ⟨j + 1, n, rfl, by omega, hlt, ?_, HR4.out.set (j + 1), HG4.out.set 1 _, HB.out⟩
              have h1 := HN.out
              unfold Hid
              simp only [List.length_drop] at h1 ⊢
              omega
          · have HB : Hid (brkW ((l.drop (k + 1)).length + 1) (l.drop (k + 1)) = none) := by
              unfold Hid
              rw [HS.out, HD.out, brkW_bad HNe1.out hne2 hp]
            rw [hp] at HPj
            clear hne2 hp
            go_wp2_with fail
            with_reducible refine HPj.out.mono ?_
            rintro e w5 ⟨rfl, rfl⟩
            go_wp2_with fail
            try rw [Exit.noGoto_ret]
            go_ret
            rw [HB.out]
            exact ⟨rfl, j, hj, HR4.out, HG4.out⟩
    · have HB : Hid (brkW ((l.drop (k + 1)).length + 1) (l.drop (k + 1)) = none) := by
        unfold Hid
        rw [HS.out, List.drop_eq_nil_of_le (by omega : l.length ≤ j), brkW_nil]
      go_wp2_with fail
      refine wp_region_below (by kernel_rfl) (by kernel_rfl) ?_
      repeat (go_big_quiet_step (fail))
      refine wpQuiet_nil ?_
      rintro W1 ⟨⟨_, hb1⟩, rfl⟩
      have HR1 := Lib.hid (HRj.out.below hb1)
      have HG1 := Lib.hid (HG.out.below hb1)
      clear hb1
      go_wp2_with fail
      try simp only [Exit.noGoto_normal]
      go_ret
      rw [HB.out]
      exact ⟨rfl, j, hj, HR1.out, HG1.out⟩
end Go.Proofs.YtkkdplccneeaiaaGreatDoor

/- Layer 18: contracts of package wire: word. -/
namespace Go.Proofs.YtkkdplccneeaiaaGreatDoor
open Go Go.RowKit

theorem wordB_iff (c : UInt8) : wordB c = true ↔ (33 ≤ c.toNat ∧ c.toNat ≤ 126) ∧ c ≠ 40 ∧ c ≠ 41 ∧ c ≠ 34 := by
  unfold wordB prB
  simp only [Bool.and_eq_true, decide_eq_true_iff, bne_iff_ne]
  constructor
  · rintro ⟨⟨⟨⟨h1, h2⟩, h3⟩, h4⟩, h5⟩
    refine ⟨⟨?_, h1.2⟩, h3, h4, h5⟩
    have : c.toNat ≠ 32 := fun e => h2 (toNat_eq e)
    omega
  · rintro ⟨h1, h3, h4, h5⟩
    refine ⟨⟨⟨⟨by omega, ?_⟩, h3⟩, h4⟩, h5⟩
    rintro rfl
    exact absurd h1.1 (by decide)
theorem endW_cons (c : UInt8) (r : List UInt8) : endW (c :: r) = (!wordB c || (litW (c :: r)).isSome) := by
  unfold endW
  simp only
  congr 1
  rw [Bool.eq_iff_iff]
  simp only [Bool.or_eq_true, decide_eq_true_iff, beq_iff_eq, Bool.not_eq_true', ← Bool.not_eq_true]
  rw [wordB_iff]
  constructor
  · rintro (((h | h) | h) | h)
    · omega
    · exact fun h2 => h2.2.1 h
    · exact fun h2 => h2.2.2.1 h
    · exact fun h2 => h2.2.2.2 h
  · intro h
    by_cases h1 : c = 40
    · exact .inl (.inl (.inr h1))
    · by_cases h2 : c = 41
      · exact .inl (.inr h2)
      · by_cases h3 : c = 34
        · exact .inr h3
        · refine .inl (.inl (.inl ?_))
          apply Decidable.byContradiction
          intro h4
          exact h ⟨by omega, h1, h2, h3⟩
theorem wrdW_end {g : Nat} {acc s : List UInt8} (h : endW s = true) : wrdW (g + 1) acc s = some (acc, s) := by unfold wrdW; rw [if_pos h]
theorem wrdW_step {g : Nat} {acc r : List UInt8} {c : UInt8} (h : endW (c :: r) = false) (h2 : c ≠ 91) : wrdW (g + 1) acc (c :: r) = wrdW g (acc ++ [c]) r := by
  conv => lhs; unfold wrdW
  rw [if_neg (by rw [h]; decide)]
  simp only
  rw [if_neg h2]
theorem endW_91 (r : List UInt8) : endW (91 :: r) = false := by
  rw [endW_cons, litW_not (by decide) (by decide)]
  rfl
theorem wrdW_brk_no {g : Nat} {acc r : List UInt8} (h : brkW (r.length + 1) r = none) : wrdW (g + 1) acc (91 :: r) = none := by
  conv => lhs; unfold wrdW
  rw [if_neg (by rw [endW_91]; decide)]
  simp only
  rw [if_pos trivial, h]
theorem wrdW_brk {g : Nat} {acc r q : List UInt8} (h : brkW (r.length + 1) r = some q) : wrdW (g + 1) acc (91 :: r) = wrdW g (acc ++ 91 :: r.take (r.length - q.length)) q := by
  conv => lhs; unfold wrdW
  rw [if_neg (by rw [endW_91]; decide)]
  simp only
  rw [if_pos trivial, h]
/-- What 'word' answers. -/
def WdW (B b off cap : Nat) (l : List UInt8) (k : Nat) (w : World) (o : Option (List UInt8 × List UInt8)) (e : Ending) (w' : World) : Prop :=
  match o with
  | none => e = .returned (.tuple #[.slice none 0 0, .bool false]) ∧ ∃ k', k' ≤ l.length ∧ Rb w' B b off cap l k' ∧ Gr B w w'
  | some (t, r) => ∃ k' : Nat, e = .returned (.tuple #[cutV b off k k', .bool (decide (k < k'))]) ∧ k ≤ k' ∧ k' ≤ l.length ∧ (l.drop k).take (k' - k) = t ∧ l.drop k' = r ∧ Rb w' B b off cap l k' ∧ Gr B w w'
theorem take_upto {l : List UInt8} {k j m : Nat} (h1 : k ≤ j) (h2 : j ≤ m) (_ : m ≤ l.length) : (l.drop k).take (m - k) = (l.drop k).take (j - k) ++ (l.drop j).take (m - j) := by
  rw [show m - k = (j - k) + (m - j) by omega, List.take_add, List.drop_drop]
  congr 3
  omega
set_option maxRecDepth 100000 in
set_option maxHeartbeats 4000000 in
theorem wword1_any (B b off cap : Nat) (l : List UInt8) (k : Nat) (w : World) (hr : Rb w B b off cap l k) (hk : k ≤ l.length) :
    Calls Tryz.prog 39 #[.pointer (some ⟨B, 0, none⟩)] w (WdW B b off cap l k w (wrdW ((l.drop k).length + 1) [] (l.drop k))) := by
  have hsm := hr.sm
  have hBw := hr.ltB
  have HBk := Lib.hid (fun j W (h : Rb W B b off cap l j) hj => wbracket_any B b off cap l j W h hj)
  have HLi := Lib.hid (fun j W (h : Rb W B b off cap l j) hj => watLiteral_any b off cap l j B W h hj)
  have HWd := Lib.hid wword_any
  have HCut := Lib.hid (fun j W (h : Rb W B b off cap l j) hkj hj => wcut_any B b off cap l j k j W h hkj hj)
  have HR := Lib.hid hr
  have c0 := hr.c0
  have c1 := hr.c1
  clear hr
  go_enter Tryz.func39, Tryz.ntmps39
  go_wp2_with fail
  try go_step3
  go_wp2_with fail
  try go_step3
  go_wp2_with fail
  go_loopg [] (l.length - k) (fun g wr => ∃ (j n : Nat), g = l.length - j ∧ k ≤ j ∧ j ≤ l.length ∧ Hid ((l.drop j).length < n) ∧ Hid (Rb wr B b off cap l j) ∧ Hid (Gr B w wr) ∧ Hid (wrdW ((l.drop k).length + 1) [] (l.drop k) = wrdW n ((l.drop k).take (j - k)) (l.drop j)))
  case atStart => exact ⟨k, _, rfl, by omega, hk, Nat.lt_succ_self _, HR.out, Gr.refl _ _, by unfold Hid; rw [Nat.sub_self]; rfl⟩
  case round =>
    obtain ⟨j, n, rfl, hkj, hj, HN, HRj, HG, HS⟩ := hrel
    obtain ⟨n, rfl⟩ : ∃ m, n = m + 1 := ⟨n - 1, by have := HN.out; omega⟩
    have C0 := BW.cell HRj.out.c0
    have C1 := BW.cell HRj.out.c1
    by_cases hlt : j < l.length
    · have hd : ((j : Int) < (l.length : Int)) := by omega
      have HD := Lib.hid (drop_consL hlt)
      go_wp2_with fail
      refine wp_region_below (by kernel_rfl) (by kernel_rfl) ?_
      repeat (go_big_quiet_step (fail))
      refine wpQuiet_nil ?_
      rintro W1 ⟨⟨_, hb1⟩, rfl⟩
      have HR1 := Lib.hid (HRj.out.below hb1)
      have HG1 := Lib.hid (HG.out.below hb1)
      replace C0 := BW.cell HR1.out.c0
      replace C1 := BW.cell HR1.out.c1
      have C2 : ∀ z : BW W1, z.v.cell? ⟨b, off + j, none⟩ = some (.int .u8 (l[j].toNat : Int)) := BW.cell (HR1.out.at_ j hlt)
      clear hb1 HRj HG
      go_wp2_with fail
      refine wp_region_below (by kernel_rfl) (by kernel_rfl) ?_
      repeat (go_big_quiet_step (fail))
      refine wpQuiet_nil ?_
      rintro W2 ⟨⟨_, hb2⟩, rfl⟩
      have HR2 := Lib.hid (HR1.out.below hb2)
      have HG2 := Lib.hid (HG1.out.below hb2)
      clear hb2 HR1 HG1 C0 C1 C2
      by_cases h91 : l[j] = 91
      · have b91 : (((l[j].toNat : Nat) : Int) == 91) = true := by rw [h91]; rfl
        have HBj := Lib.hid (HBk.out j W2 HR2.out hlt)
        unfold BkW at HBj
        cases hq : brkW ((l.drop (j + 1)).length + 1) (l.drop (j + 1)) with
        | none =>
          rw [hq] at HBj
          have HBj := Lib.hid HBj.out
          simp only at HBj
          have HE : Hid (wrdW ((l.drop k).length + 1) [] (l.drop k) = none) := by
            unfold Hid
            rw [HS.out, HD.out, h91, wrdW_brk_no hq]
          clear hq h91
          go_wp2_with fail
          with_reducible refine HBj.out.mono ?_
          rintro e w3 ⟨rfl, k3, hk3, hr3, hg3⟩
          have HR3 := Lib.hid hr3
          have HG3 := Lib.hid (HG2.out.trans hg3)
          clear hr3 hg3
          go_wp2_with fail
          try rw [Exit.noGoto_ret]
          go_ret2
          rw [HE.out]
          exact ⟨rfl, k3, hk3, HR3.out, HG3.out⟩
        | some q =>
          rw [hq] at HBj
          have HBj := Lib.hid HBj.out
          simp only at HBj
          have HE : Hid (wrdW ((l.drop k).length + 1) [] (l.drop k) = wrdW n ((l.drop k).take (j - k) ++ 91 :: (l.drop (j + 1)).take ((l.drop (j + 1)).length - q.length)) q) := by
            unfold Hid
            rw [HS.out, HD.out, h91, wrdW_brk hq]
          have H91 := Lib.hid h91
          clear hq h91
          go_wp2_with fail
          with_reducible refine HBj.out.mono ?_
          rintro e w3 ⟨k3, rfl, hjk, hk3, hd3, hr3, hg3⟩
          have HR3 := Lib.hid hr3
          have HG3 := Lib.hid (HG2.out.trans hg3)
          have HD3 := Lib.hid hd3
          clear hr3 hg3 hd3
          go_wp2_with fail
          go_roundg (l.length - k3)
          case measure => omega
          case rel =>
            refine ⟨k3, n, rfl, by omega, hk3, ?_, HR3.out, HG3.out, ?_⟩
            · have h1 := HN.out
              unfold Hid
              simp only [List.length_drop] at h1 ⊢
              omega
            · unfold Hid
              rw [HE.out, ← HD3.out]
              congr 1
              rw [take_upto hkj (Nat.le_of_lt hjk) hk3, HD.out, H91.out]
              rw [show k3 - j = (k3 - (j + 1)) + 1 by omega, List.take_succ_cons]
              congr 3
              rw [List.length_drop, List.length_drop]
              omega
      · have b91 : (((l[j].toNat : Nat) : Int) == 91) = false := beq_no (fun e => h91 (toNat_eq (by show l[j].toNat = _; exact Int.ofNat.inj e)))
        have HWj := Lib.hid (HWd.out l[j] W2)
        rcases Bool.eq_false_or_eq_true (wordB l[j]) with hw | hw
        · have HLj := Lib.hid (HLi.out j W2 HR2.out hj)
          have d0 := HR2.out.c0
          have d1 := HR2.out.c1
          cases hx : (litW (l.drop j)).isSome with
          | true =>
            have HE : Hid (wrdW ((l.drop k).length + 1) [] (l.drop k) = some ((l.drop k).take (j - k), l.drop j)) := by
              unfold Hid
              rw [HS.out]
              exact wrdW_end (by rw [HD.out, endW_cons, ← HD.out, hx, Bool.or_true])
            rw [hw] at HWj
            rw [hx] at HLj
            clear h91 hw hx
            go_wp2_with fail
            with_reducible refine HWj.out.mono ?_
            rintro e w3 ⟨rfl, rfl⟩
            go_wp2_with fail
            with_reducible refine HLj.out.mono ?_
            rintro e w4 ⟨rfl, hb4⟩
            have HR4 := Lib.hid (HR2.out.below hb4)
            have HG4 := Lib.hid (HG2.out.below hb4)
            clear hb4
            go_wp2_with fail
            have D1 := BW.cell HR4.out.c1
            have HC := Lib.hid (fun z : BW w4 => HCut.out j z.v (HR4.out.below z.h) hkj hj)
            refine wp_region_below (by kernel_rfl) (by kernel_rfl) ?_
            repeat (go_big_quiet_step (first | (go_at_call 55; exact BW.calls (HC.out _))))
            refine wpQuiet_nil ?_
            rintro W5 ⟨⟨_, hb5⟩, rfl⟩
            go_wp2_with fail
            go_ret2
            rw [HE.out]
            exact ⟨j, by simp, hkj, hj, rfl, rfl, HR4.out.below hb5, HG4.out.below hb5⟩
          | false =>
            have HE : Hid (wrdW ((l.drop k).length + 1) [] (l.drop k) = wrdW n ((l.drop k).take (j + 1 - k)) (l.drop (j + 1))) := by
              unfold Hid
              have h1 : endW (l[j] :: l.drop (j + 1)) = false := by rw [endW_cons, ← HD.out, hx, hw]; rfl
              rw [HS.out, HD.out, wrdW_step h1 h91]
              congr 1
              rw [take_upto hkj (Nat.le_succ j) hlt, HD.out, show j.succ - j = 1 by omega]
              rfl
            rw [hw] at HWj
            rw [hx] at HLj
            clear h91 hw hx
            go_wp2_with fail
            with_reducible refine HWj.out.mono ?_
            rintro e w3 ⟨rfl, rfl⟩
            go_wp2_with fail
            with_reducible refine HLj.out.mono ?_
            rintro e w4 ⟨rfl, hb4⟩
            have HR4 := Lib.hid (HR2.out.below hb4)
            have HG4 := Lib.hid (HG2.out.below hb4)
            clear hb4 d0 d1
            have d1 := HR4.out.c1
            have f1 := HR4.out.f1
            go_wp2_with fail
            go_roundg (l.length - (j + 1))
            case measure => omega
            case rel =>
              refine ⟨j + 1, n, rfl, by omega, hlt, ?_, HR4.out.set (j + 1), HG4.out.set 1 _, HE.out⟩
              have h1 := HN.out
              unfold Hid
              simp only [List.length_drop] at h1 ⊢
              omega
        · have HE : Hid (wrdW ((l.drop k).length + 1) [] (l.drop k) = some ((l.drop k).take (j - k), l.drop j)) := by
            unfold Hid
            rw [HS.out]
            exact wrdW_end (by rw [HD.out, endW_cons, hw]; rfl)
          rw [hw] at HWj
          clear h91 hw
          go_wp2_with fail
          with_reducible refine HWj.out.mono ?_
          rintro e w3 ⟨rfl, rfl⟩
          go_wp2_with fail
          have D1 := BW.cell HR2.out.c1
          have HC := Lib.hid (fun z : BW W2 => HCut.out j z.v (HR2.out.below z.h) hkj hj)
          refine wp_region_below (by kernel_rfl) (by kernel_rfl) ?_
          repeat (go_big_quiet_step (first | (go_at_call 55; exact BW.calls (HC.out _))))
          refine wpQuiet_nil ?_
          rintro W5 ⟨⟨_, hb5⟩, rfl⟩
          go_wp2_with fail
          go_ret2
          rw [HE.out]
          exact ⟨j, by simp, hkj, hj, rfl, rfl, HR2.out.below hb5, HG2.out.below hb5⟩
    · have HE : Hid (wrdW ((l.drop k).length + 1) [] (l.drop k) = some ((l.drop k).take (j - k), l.drop j)) := by
        unfold Hid
        rw [HS.out]
        exact wrdW_end (by rw [List.drop_eq_nil_of_le (by omega : l.length ≤ j)]; rfl)
      go_wp2_with fail
      refine wp_region_below (by kernel_rfl) (by kernel_rfl) ?_
      repeat (go_big_quiet_step (fail))
      refine wpQuiet_nil ?_
      rintro W1 ⟨⟨_, hb1⟩, rfl⟩
      have HR1 := Lib.hid (HRj.out.below hb1)
      have HG1 := Lib.hid (HG.out.below hb1)
      clear hb1 C0 C1
      go_wp2_with fail
      have D1 := BW.cell HR1.out.c1
      have HC := Lib.hid (fun z : BW W1 => HCut.out j z.v (HR1.out.below z.h) hkj hj)
      refine wp_region_below (by kernel_rfl) (by kernel_rfl) ?_
      repeat (go_big_quiet_step (first | (go_at_call 55; exact BW.calls (HC.out _))))
      refine wpQuiet_nil ?_
      rintro W5 ⟨⟨_, hb5⟩, rfl⟩
      go_wp2_with fail
      go_ret2
      rw [HE.out]
      exact ⟨j, by simp, hkj, hj, rfl, rfl, HR1.out.below hb5, HG1.out.below hb5⟩
end Go.Proofs.YtkkdplccneeaiaaGreatDoor

/- Layer 18: contracts of package wire: token. -/
namespace Go.Proofs.YtkkdplccneeaiaaGreatDoor
open Go Go.RowKit

theorem tok_quo (r : List UInt8) : tokW (34 :: r) = (quoW r).map fun p => (2, p.1, p.2) := by
  unfold tokW
  rw [litW_not (by decide) (by decide)]
  simp only
  rw [if_neg (by decide), if_neg (by decide), if_neg (by decide), if_pos trivial]
theorem tok_lit {s t q : List UInt8} (h : litW s = some (t, q)) : tokW s = some (2, t, q) := by
  unfold tokW
  rw [h]
theorem tok_word {c : UInt8} {r : List UInt8} (h : litW (c :: r) = none) (h1 : c ≠ 40) (h2 : c ≠ 41) (h3 : c ≠ 32) (h4 : c ≠ 34) : tokW (c :: r) = (wrdW ((c :: r).length + 1) [] (c :: r)).bind fun p => if p.1 = [] then none else some (1, p.1, p.2) := by
  unfold tokW
  rw [h]
  simp only
  rw [if_neg h1, if_neg h2, if_neg h3, if_neg h4]
  cases wrdW ((c :: r).length + 1) [] (c :: r) <;> rfl
/-- What 'token' answers. -/
def TkW (B b off cap : Nat) (l : List UInt8) (k : Nat) (w : World) (o : Option (Nat × List UInt8 × List UInt8)) (e : Ending) (w' : World) : Prop :=
  match o with
  | none => ∃ (kd : Nat) (t : List UInt8), e = .returned (.tuple #[.agg #[.int .i64 (kd : Int), .string ⟨t.toArray⟩], .bool false]) ∧ Gr B w w'
  | some (kd, t, r) => ∃ k' : Nat, e = .returned (.tuple #[.agg #[.int .i64 (kd : Int), .string ⟨t.toArray⟩], .bool true]) ∧ k < k' ∧ k' ≤ l.length ∧ l.drop k' = r ∧ Rb w' B b off cap l k' ∧ Gr B w w'
theorem take_nil_iff {l : List UInt8} {k k' : Nat} (h : k ≤ k') (h2 : k' ≤ l.length) : (l.drop k).take (k' - k) = [] ↔ ¬ k < k' := by
  constructor
  · intro e
    have := congrArg List.length e
    rw [List.length_take, List.length_drop] at this
    simp at this
    omega
  · intro e
    rw [show k' - k = 0 by omega]
    rfl
set_option maxRecDepth 100000 in
set_option maxHeartbeats 4000000 in
theorem wtoken_any (B b off cap : Nat) (l : List UInt8) (k : Nat) (w : World) (hr : Rb w B b off cap l k) (hk : k < l.length) :
    Calls Tryz.prog 28 #[.pointer (some ⟨B, 0, none⟩)] w (TkW B b off cap l k w (tokW (l.drop k))) := by
  have hBw := hr.ltB
  have hbw := hr.lt
  have hsm := hr.sm
  have hmx := hr.mx
  have hle := hr.le
  have hkl : k ≤ l.length := by omega
  have HTk := Lib.hid (fun j q p W x hq hp hx (h : Rb W B b off cap l j) hj => wtakes_any B b off cap l j q p W hq hp h hj x hx)
  have HQ := Lib.hid (fun j W (h : Rb W B b off cap l j) hj => wquoted_any B b off cap l j W h hj)
  have HLi := Lib.hid (fun j W (h : Rb W B b off cap l j) hj => wliteral_any B b off cap l j W h hj)
  have HWd := Lib.hid (fun j W (h : Rb W B b off cap l j) hj => wword1_any B b off cap l j W h hj)
  have HD := Lib.hid (drop_consL hk)
  have HB0 : Hid (B2 (w.alloc (.cells #[.int .i64 0, .string ⟨#[]⟩] 31)) w.heap.size 31 (.int .i64 0) (.string ⟨#[]⟩)) := B2.new _ _ _ _
  have HA0 : Hid (Below w.heap.size w (w.alloc (.cells #[.int .i64 0, .string ⟨#[]⟩] 31))) := (Below.refl _ _).alloc (Nat.le_refl _) _
  have HR0 := Lib.hid (hr.below HA0.out)
  have HG0 : Hid (Gr B w (w.alloc (.cells #[.int .i64 0, .string ⟨#[]⟩] 31))) := (Gr.refl B w).below HA0.out
  obtain ⟨w0, hw0⟩ : ∃ x, x = w.alloc (.cells #[.int .i64 0, .string ⟨#[]⟩] 31) := ⟨_, rfl⟩
  rw [← hw0] at HB0 HR0 HG0
  have HW0 := Lib.hid hw0
  have HW : Hid (∀ (W : World) (u v : Value), Below w.heap.size W ((W.setCell ⟨w.heap.size, 0, none⟩ u).setCell ⟨w.heap.size, 1, none⟩ v)) := fun W u v => ((Below.refl w.heap.size W).setCell (p := ⟨w.heap.size, 0, none⟩) (Nat.le_refl _) u).setCell (p := ⟨w.heap.size, 1, none⟩) (Nat.le_refl _) v
  clear hr hw0 HA0
  go_enter Tryz.func28, Tryz.ntmps28
  obtain ⟨x1, hx1⟩ : ∃ x, ([40] : List UInt8).isPrefixOf (l.drop k) = x := ⟨_, rfl⟩
  have HX1 := Lib.hid (pre1_at 40 hk x1 hx1)
  have HT1 := Lib.hid (HTk.out k ⟨#[40]⟩ [40] w0 x1 rfl (by decide) hx1 HR0.out hkl)
  clear hx1
  go_wp2_with fail
  rw [← HW0.out]
  with_reducible refine HT1.out.mono ?_
  rintro e w1 ⟨rfl, hr1, hg1⟩
  have HB1 := Lib.hid (HB0.out.gr hg1 (by omega))
  have HG1 := Lib.hid (HG0.out.trans hg1)
  cases x1 with
  | true =>
    have HR1 : Hid (Rb w1 B b off cap l (k + 1)) := hr1
    have HE : Hid (tokW (l.drop k) = some (3, [], l.drop (k + 1))) := by unfold Hid; rw [HD.out, show l[k] = 40 by have := HX1.out; simpa using this.symm, tok_open]
    have c0 := HB1.out.c0
    have c1 := HB1.out.c1
    have f0 := HB1.out.f 0
    have f1 := HB1.out.f 1
    clear hr1 hg1 HT1
    go_wp2_with fail
    (try simp only [Exit.inBlock, Exit.then])
    refine bodyPost_ret (results_cell_rowW (P := Tryz.prog) Tryz.results28 _ _ w.heap.size 31 _ (0, 0) _ rfl ((HB1.out.set0 (.int .i64 3)).set1 (.string ⟨#[]⟩)) Tryz.underlying31 rfl (by kernel_rfl)) rfl ?_
    rw [HE.out]
    exact ⟨k + 1, rfl, by omega, hk, rfl, HR1.out.low (HW.out _ _ _) hBw hbw, HG1.out.low (HW.out _ _ _)⟩
  | false =>
    have HR1 : Hid (Rb w1 B b off cap l k) := hr1
    have HNe1 : Hid (l[k] ≠ 40) := by have := HX1.out; unfold Hid; simpa using this.symm
    clear hr1 hg1 HT1 HB0 HG0 HR0
    obtain ⟨x2, hx2⟩ : ∃ x, ([41] : List UInt8).isPrefixOf (l.drop k) = x := ⟨_, rfl⟩
    have HX2 := Lib.hid (pre1_at 41 hk x2 hx2)
    have HT2 := Lib.hid (HTk.out k ⟨#[41]⟩ [41] w1 x2 rfl (by decide) hx2 HR1.out hkl)
    clear hx2
    go_wp2_with fail
    with_reducible refine HT2.out.mono ?_
    rintro e w2 ⟨rfl, hr2, hg2⟩
    have HB2 := Lib.hid (HB1.out.gr hg2 (by omega))
    have HG2 := Lib.hid (HG1.out.trans hg2)
    cases x2 with
    | true =>
      have HR2 : Hid (Rb w2 B b off cap l (k + 1)) := hr2
      have HE : Hid (tokW (l.drop k) = some (4, [], l.drop (k + 1))) := by unfold Hid; rw [HD.out, show l[k] = 41 by have := HX2.out; simpa using this.symm, tok_close]
      have c0 := HB2.out.c0
      have c1 := HB2.out.c1
      have f0 := HB2.out.f 0
      have f1 := HB2.out.f 1
      clear hr2 hg2 HT2
      go_wp2_with fail
      (try simp only [Exit.inBlock, Exit.then])
      refine bodyPost_ret (results_cell_rowW (P := Tryz.prog) Tryz.results28 _ _ w.heap.size 31 _ (0, 0) _ rfl ((HB2.out.set0 (.int .i64 4)).set1 (.string ⟨#[]⟩)) Tryz.underlying31 rfl (by kernel_rfl)) rfl ?_
      rw [HE.out]
      exact ⟨k + 1, rfl, by omega, hk, rfl, HR2.out.low (HW.out _ _ _) hBw hbw, HG2.out.low (HW.out _ _ _)⟩
    | false =>
      have HR2 : Hid (Rb w2 B b off cap l k) := hr2
      have HNe2 : Hid (l[k] ≠ 41) := by have := HX2.out; unfold Hid; simpa using this.symm
      clear hr2 hg2 HT2 HB1 HG1 HR1
      obtain ⟨x3, hx3⟩ : ∃ x, ([32] : List UInt8).isPrefixOf (l.drop k) = x := ⟨_, rfl⟩
      have HX3 := Lib.hid (pre1_at 32 hk x3 hx3)
      have HT3 := Lib.hid (HTk.out k ⟨#[32]⟩ [32] w2 x3 rfl (by decide) hx3 HR2.out hkl)
      clear hx3
      go_wp2_with fail
      with_reducible refine HT3.out.mono ?_
      rintro e w3 ⟨rfl, hr3, hg3⟩
      have HB3 := Lib.hid (HB2.out.gr hg3 (by omega))
      have HG3 := Lib.hid (HG2.out.trans hg3)
      cases x3 with
      | true =>
        have HR3 : Hid (Rb w3 B b off cap l (k + 1)) := hr3
        have HE : Hid (tokW (l.drop k) = some (5, [], l.drop (k + 1))) := by unfold Hid; rw [HD.out, show l[k] = 32 by have := HX3.out; simpa using this.symm, tok_space]
        have c0 := HB3.out.c0
        have c1 := HB3.out.c1
        have f0 := HB3.out.f 0
        have f1 := HB3.out.f 1
        clear hr3 hg3 HT3
        go_wp2_with fail
        (try simp only [Exit.inBlock, Exit.then])
        refine bodyPost_ret (results_cell_rowW (P := Tryz.prog) Tryz.results28 _ _ w.heap.size 31 _ (0, 0) _ rfl ((HB3.out.set0 (.int .i64 5)).set1 (.string ⟨#[]⟩)) Tryz.underlying31 rfl (by kernel_rfl)) rfl ?_
        rw [HE.out]
        exact ⟨k + 1, rfl, by omega, hk, rfl, HR3.out.low (HW.out _ _ _) hBw hbw, HG3.out.low (HW.out _ _ _)⟩
      | false =>
        have HR3 : Hid (Rb w3 B b off cap l k) := hr3
        have HNe3 : Hid (l[k] ≠ 32) := by have := HX3.out; unfold Hid; simpa using this.symm
        clear hr3 hg3 HT3 HB2 HG2 HR2
        obtain ⟨x4, hx4⟩ : ∃ x, ([34] : List UInt8).isPrefixOf (l.drop k) = x := ⟨_, rfl⟩
        have HX4 := Lib.hid (pre1_at 34 hk x4 hx4)
        have HT4 := Lib.hid (HTk.out k ⟨#[34]⟩ [34] w3 x4 rfl (by decide) hx4 HR3.out hkl)
        clear hx4
        go_wp2_with fail
        with_reducible refine HT4.out.mono ?_
        rintro e w4 ⟨rfl, hr4, hg4⟩
        have HB4 := Lib.hid (HB3.out.gr hg4 (by omega))
        have HG4 := Lib.hid (HG3.out.trans hg4)
        cases x4 with
        | true =>
          have HR4 : Hid (Rb w4 B b off cap l (k + 1)) := hr4
          have HE : Hid (tokW (l.drop k) = (quoW (l.drop (k + 1))).map fun p => (2, p.1, p.2)) := by unfold Hid; rw [HD.out, show l[k] = 34 by have := HX4.out; simpa using this.symm, tok_quo]
          have HQ1 := Lib.hid (HQ.out (k + 1) w4 HR4.out hk)
          unfold QuoW at HQ1
          clear hr4 hg4 HT4 HB3 HG3 HR3
          cases hq : quoW (l.drop (k + 1)) with
          | none =>
            rw [hq] at HQ1 HE
            have HQ1 := Lib.hid HQ1.out
            simp only at HQ1
            clear hq
            go_wp2_with fail
            with_reducible refine HQ1.out.mono ?_
            rintro e w5 ⟨rfl, k5, hk5, hr5, hg5⟩
            have HB5 := Lib.hid (HB4.out.gr hg5 (by omega))
            have HG5 := Lib.hid (HG4.out.trans hg5)
            have hcv := bytesArg_string (W := w5) (v := .slice none 0 0) (l := []) ⟨none, 0, rfl, Nat.le_refl _, Nat.zero_le _, .inl rfl⟩
            have c0 := HB5.out.c0
            have c1 := HB5.out.c1
            have f0 := HB5.out.f 0
            have f1 := HB5.out.f 1
            clear hr5 hg5
            go_wp2_with fail
            (try simp only [Exit.inBlock, Exit.then])
            refine bodyPost_ret (results_cell_rowW (P := Tryz.prog) Tryz.results28 _ _ w.heap.size 31 _ (0, 0) _ rfl ((HB5.out.set0 (.int .i64 2)).set1 (.string ⟨#[]⟩)) Tryz.underlying31 rfl (by kernel_rfl)) rfl ?_
            rw [HE.out]
            exact ⟨2, [], rfl, HG5.out.low (HW.out _ _ _)⟩
          | some p =>
            obtain ⟨t, q⟩ := p
            rw [hq] at HQ1 HE
            have HQ1 := Lib.hid HQ1.out
            simp only at HQ1
            have HQL := Lib.hid (quoW_len hq)
            clear hq
            go_wp2_with fail
            with_reducible refine HQ1.out.mono ?_
            rintro e w5 ⟨v5, k5, rfl, hv5, _, hk5, hr5, hd5, hg5⟩
            have HR5 := Lib.hid hr5
            have HB5 := Lib.hid (HB4.out.gr hg5 (by omega))
            have HG5 := Lib.hid (HG4.out.trans hg5)
            have HD5 := Lib.hid hd5
            have hcv := bytesArg_string hv5
            have c0 := HB5.out.c0
            have c1 := HB5.out.c1
            have f0 := HB5.out.f 0
            have f1 := HB5.out.f 1
            have hlt5 : k < k5 := by
              have h1 := HQL.out
              rw [← hd5, List.length_drop, List.length_drop] at h1
              omega
            clear hr5 hg5 hv5 hd5
            go_wp2_with fail
            (try simp only [Exit.inBlock, Exit.then])
            refine bodyPost_ret (results_cell_rowW (P := Tryz.prog) Tryz.results28 _ _ w.heap.size 31 _ (0, 0) _ rfl ((HB5.out.set0 (.int .i64 2)).set1 (.string ⟨t.toArray⟩)) Tryz.underlying31 rfl (by kernel_rfl)) rfl ?_
            rw [HE.out]
            exact ⟨k5, rfl, hlt5, hk5, HD5.out, HR5.out.low (HW.out _ _ _) hBw hbw, HG5.out.low (HW.out _ _ _)⟩
        | false =>
          have HR4 : Hid (Rb w4 B b off cap l k) := hr4
          have HNe4 : Hid (l[k] ≠ 34) := by have := HX4.out; unfold Hid; simpa using this.symm
          have HL1 := Lib.hid (HLi.out k w4 HR4.out hkl)
          unfold LtW at HL1
          clear hr4 hg4 HT4 HB3 HG3 HR3
          cases hx : litW (l.drop k) with
          | some p =>
            obtain ⟨t, q⟩ := p
            have HE := Lib.hid (tok_lit hx)
            rw [hx] at HL1
            have HL1 := Lib.hid HL1.out
            simp only at HL1
            clear hx
            go_wp2_with fail
            with_reducible refine HL1.out.mono ?_
            rintro e w5 ⟨f, k5, rfl, hlt5, hf5, hk5, ht5, hd5, hr5, hg5⟩
            have HR5 := Lib.hid hr5
            have HB5 := Lib.hid (HB4.out.gr hg5 (by omega))
            have HG5 := Lib.hid (HG4.out.trans hg5)
            have HD5 := Lib.hid hd5
            have hcv := bytesArg_string (cutV_arg hr5.src hf5 hk5 (by omega))
            rw [ht5] at hcv
            have c0 := HB5.out.c0
            have c1 := HB5.out.c1
            have f0 := HB5.out.f 0
            have f1 := HB5.out.f 1
            clear hr5 hg5 hd5 ht5
            generalize cutV b off f k5 = v5 at hcv ⊢
            go_wp2_with fail
            (try simp only [Exit.inBlock, Exit.then])
            refine bodyPost_ret (results_cell_rowW (P := Tryz.prog) Tryz.results28 _ _ w.heap.size 31 _ (0, 0) _ rfl ((HB5.out.set0 (.int .i64 2)).set1 (.string ⟨t.toArray⟩)) Tryz.underlying31 rfl (by kernel_rfl)) rfl ?_
            rw [HE.out]
            exact ⟨k5, rfl, hlt5, hk5, HD5.out, HR5.out.low (HW.out _ _ _) hBw hbw, HG5.out.low (HW.out _ _ _)⟩
          | none =>
            have hE0 := hx
            rw [HD.out] at hE0
            have hE1 := tok_word hE0 HNe1.out HNe2.out HNe3.out HNe4.out
            rw [← HD.out] at hE1
            rw [hx] at HL1
            have HL1 := Lib.hid HL1.out
            simp only at HL1
            clear hx hE0
            go_wp2_with fail
            with_reducible refine HL1.out.mono ?_
            rintro e w5 ⟨rfl, hb5⟩
            have HR5 := Lib.hid (HR4.out.below hb5)
            have HB5 := Lib.hid (HB4.out.below hb5)
            have HG5 := Lib.hid (HG4.out.below hb5)
            have HW1 := Lib.hid (HWd.out k w5 HR5.out hkl)
            unfold WdW at HW1
            clear hb5 HR4 HB4 HG4 HL1
            cases hy : wrdW ((l.drop k).length + 1) [] (l.drop k) with
            | none =>
              rw [hy] at hE1 HW1
              have HE : Hid (tokW (l.drop k) = none) := hE1
              have HW1 := Lib.hid HW1.out
              simp only at HW1
              clear hy hE1
              go_wp2_with fail
              with_reducible refine HW1.out.mono ?_
              rintro e w6 ⟨rfl, k6, hk6, hr6, hg6⟩
              have HB6 := Lib.hid (HB5.out.gr hg6 (by omega))
              have HG6 := Lib.hid (HG5.out.trans hg6)
              have hcv := bytesArg_string (W := w6) (v := .slice none 0 0) (l := []) ⟨none, 0, rfl, Nat.le_refl _, Nat.zero_le _, .inl rfl⟩
              have c0 := HB6.out.c0
              have c1 := HB6.out.c1
              have f0 := HB6.out.f 0
              have f1 := HB6.out.f 1
              clear hr6 hg6
              go_wp2_with fail
              (try simp only [Exit.inBlock, Exit.then])
              refine bodyPost_ret (results_cell_rowW (P := Tryz.prog) Tryz.results28 _ _ w.heap.size 31 _ (0, 0) _ rfl ((HB6.out.set0 (.int .i64 1)).set1 (.string ⟨#[]⟩)) Tryz.underlying31 rfl (by kernel_rfl)) rfl ?_
              rw [HE.out]
              exact ⟨1, [], rfl, HG6.out.low (HW.out _ _ _)⟩
            | some p =>
              obtain ⟨t, q⟩ := p
              rw [hy] at hE1 HW1
              have HW1 := Lib.hid HW1.out
              simp only at HW1
              simp only [Option.bind_some] at hE1
              have HE1 := Lib.hid hE1
              clear hy hE1
              go_wp2_with fail
              with_reducible refine HW1.out.mono ?_
              rintro e w6 ⟨k6, rfl, hkk, hk6, ht6, hd6, hr6, hg6⟩
              have HR6 := Lib.hid hr6
              have HB6 := Lib.hid (HB5.out.gr hg6 (by omega))
              have HG6 := Lib.hid (HG5.out.trans hg6)
              have HD6 := Lib.hid hd6
              have hnil := take_nil_iff hkk hk6
              rw [ht6] at hnil
              have HNil := Lib.hid hnil
              have hcv := bytesArg_string (cutV_arg hr6.src hkk hk6 (by omega))
              rw [ht6] at hcv
              have c0 := HB6.out.c0
              have c1 := HB6.out.c1
              have f0 := HB6.out.f 0
              have f1 := HB6.out.f 1
              have HLt : Hid (decide (k < k6) = true ↔ k < k6) := decide_eq_true_iff
              clear hr6 hg6 hd6 ht6 hnil
              generalize cutV b off k k6 = v6 at hcv ⊢
              generalize decide (k < k6) = x6 at HLt ⊢
              go_wp2_with fail
              (try simp only [Exit.inBlock, Exit.then])
              refine bodyPost_ret (results_cell_rowW (P := Tryz.prog) Tryz.results28 _ _ w.heap.size 31 _ (0, 0) _ rfl ((HB6.out.set0 (.int .i64 1)).set1 (.string ⟨t.toArray⟩)) Tryz.underlying31 rfl (by kernel_rfl)) rfl ?_
              cases x6 with
              | true =>
                have hlt := HLt.out.1 rfl
                rw [HE1.out, if_neg (fun e => HNil.out.1 e hlt)]
                exact ⟨k6, rfl, hlt, hk6, HD6.out, HR6.out.low (HW.out _ _ _) hBw hbw, HG6.out.low (HW.out _ _ _)⟩
              | false =>
                have hlt : ¬ k < k6 := fun h => by have := HLt.out.2 h; cases this
                rw [HE1.out, if_pos (HNil.out.2 hlt)]
                exact ⟨1, t, rfl, HG6.out.low (HW.out _ _ _)⟩
end Go.Proofs.YtkkdplccneeaiaaGreatDoor
