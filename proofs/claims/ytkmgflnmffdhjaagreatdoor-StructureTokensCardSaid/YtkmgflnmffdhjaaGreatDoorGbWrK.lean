/- Layer 18: contracts of package wire: literal, atLiteral. -/
import Derived.Test.YtkmgflnmffdhjaaGreatDoorGbWrH
namespace Go.Proofs.YtkmgflnmffdhjaaGreatDoor
open Go Go.RowKit

theorem litW_nohead {l : List UInt8} (h : headW l = none) : litW l = none := by unfold litW; rw [h]
theorem litW_noend {l r : List UInt8} {n : Nat} {w : Bool} (h : headW l = some (n, w, r)) (h2 : ([13, 10] : List UInt8).isPrefixOf r = false) : litW l = none := by
  unfold litW
  rw [h]
  split
  · next q e =>
    cases e
    simp at h2
  · rfl
theorem litW_end {l q : List UInt8} {n : Nat} {w : Bool} (h : headW l = some (n, w, 13 :: 10 :: q)) : litW l = if q.length < n then none else some (q.take n, q.drop n) := by
  unfold litW
  rw [h]
  rfl
theorem numSpec_le {s : List UInt8} {n : Nat} (h : numSpec s = some n) : n ≤ 4294967295 := by
  unfold numSpec at h
  split at h
  · cases h
  · next h1 =>
    cases h
    omega
theorem headB_le {s q : List UInt8} {n : Nat} {w : Bool} (h : headB s = some (n, w, q)) : n ≤ 4294967295 := by
  unfold headB at h
  cases hn : numSpec (s.takeWhile isDig) with
  | none => rw [hn] at h; cases h
  | some m =>
    rw [hn] at h
    simp only at h
    split at h
    · cases h; exact numSpec_le hn
    · cases h; exact numSpec_le hn
    · cases h
theorem headW_le {s q : List UInt8} {n : Nat} {w : Bool} (h : headW s = some (n, w, q)) : n ≤ 4294967295 := by
  unfold headW at h
  split at h
  · exact headB_le h
  · exact headB_le h
  · cases h
theorem headB_lt {s q : List UInt8} {n : Nat} {w : Bool} (h : headB s = some (n, w, q)) : q.length < s.length := by
  unfold headB at h
  cases hn : numSpec (s.takeWhile isDig) with
  | none => rw [hn] at h; cases h
  | some m =>
    rw [hn] at h
    simp only at h
    have e : (s.dropWhile isDig).length ≤ s.length := (List.dropWhile_suffix isDig).length_le
    split at h
    · next p e2 => cases h; rw [e2] at e; simp at e; omega
    · next p e2 => cases h; rw [e2] at e; simp at e; omega
    · cases h
theorem headW_len {s q : List UInt8} {n : Nat} {w : Bool} (h : headW s = some (n, w, q)) : q.length < s.length := by
  unfold headW at h
  split at h
  · have := headB_lt h; simp; omega
  · have := headB_lt h; simp; omega
  · cases h
theorem headW_lt {l : List UInt8} {k k1 n : Nat} {w : Bool} (h : headW (l.drop k) = some (n, w, l.drop k1)) (_ : k ≤ l.length) (_ : k1 ≤ l.length) : k < k1 := by
  have := headW_len h
  rw [List.length_drop, List.length_drop] at this
  omega
/-- What 'literal' answers. -/
def LtW (B b off cap : Nat) (l : List UInt8) (k : Nat) (w : World) (o : Option (List UInt8 × List UInt8)) (e : Ending) (w' : World) : Prop :=
  match o with
  | none => e = .returned (.tuple #[.slice none 0 0, .bool false]) ∧ Below w.heap.size w w'
  | some (t, r) => ∃ (f k' : Nat), e = .returned (.tuple #[cutV b off f k', .bool true]) ∧ k < k' ∧ f ≤ k' ∧ k' ≤ l.length ∧ (l.drop f).take (k' - f) = t ∧ l.drop k' = r ∧ Rb w' B b off cap l k' ∧ Gr B w w'
theorem Rb.new {w w0 : World} {B b off cap k : Nat} {l : List UInt8} (h : Rb w B b off cap l k) (t : TypeId) (he : w0 = w.alloc (.cells #[.slice (some ⟨b, off, none⟩) l.length cap, .int .i64 (k : Int)] t)) : Rb w0 w.heap.size b off cap l k := by
  subst he
  have h2 := B2.new w t (.slice (some ⟨b, off, none⟩) l.length cap) (.int .i64 (k : Int))
  have hb : Below w.heap.size w (w.alloc (.cells #[.slice (some ⟨b, off, none⟩) l.length cap, .int .i64 (k : Int)] t)) := (Below.refl _ _).alloc (Nat.le_refl _) _
  exact ⟨h2.c0, h2.c1, h2.f 1, by have := h.lt; omega, h.le, h.mx, h.sm, by have := h.lt; have := hb.size; omega, fun j hj => (hb.cell (p := ⟨b, off + j, none⟩) h.lt).trans (h.at_ j hj)⟩
theorem Gr.toBelow {B n : Nat} {a b : World} (h : Gr B a b) (h1 : n ≤ B) (h2 : n ≤ a.heap.size) : Below n a b :=
  below_grownW h (fun q hq => by cases hq; exact h1) h2
set_option maxRecDepth 100000 in
set_option maxHeartbeats 4000000 in
theorem wliteral_any (B b off cap : Nat) (l : List UInt8) (k : Nat) (w : World) (hr : Rb w B b off cap l k) (hk : k ≤ l.length) :
    Calls Tryz.prog 28 #[.pointer (some ⟨B, 0, none⟩)] w (LtW B b off cap l k w (litW (l.drop k))) := by
  have hBw := hr.ltB
  have hbw := hr.lt
  have hsm := hr.sm
  have hmx := hr.mx
  have hle := hr.le
  have c0 := hr.c0
  have c1 := hr.c1
  have HR := Lib.hid hr
  obtain ⟨w0, hw0⟩ : ∃ x, x = w.alloc (.cells #[.slice (some ⟨b, off, none⟩) l.length cap, .int .i64 (k : Int)] 48) := ⟨_, rfl⟩
  have HA := Lib.hid (hr.new _ hw0)
  have HB0 : Hid (Below w.heap.size w w0) := by unfold Hid; rw [hw0]; exact (Below.refl _ _).alloc (Nat.le_refl _) _
  have HH := Lib.hid (whead_any w.heap.size b off cap l k w0 HA.out hk)
  unfold HdW at HH
  have HTk := Lib.hid (fun j q p W x hq hp hx (h : Rb W w.heap.size b off cap l j) hj => wtakes_any w.heap.size b off cap l j q p W hq hp h hj x hx)
  have HCut := Lib.hid (fun k f t W (h : Rb W B b off cap l k) hf ht => wcut_any B b off cap l k f t W h hf ht)
  have HW0 := Lib.hid hw0
  clear hr
  go_enter Tryz.func28, Tryz.ntmps28
  go_wp2_with fail
  rw [← HW0.out]
  clear hw0
  with_reducible refine HH.out.mono ?_
  rintro e w1 ⟨n, u, x, k1, rfl, hr1, hk1, hg1, hh1⟩
  have HR1 := Lib.hid hr1
  have HB1 := Lib.hid (HB0.out.trans (hg1.toBelow (Nat.le_refl _) HB0.out.size))
  cases x with
  | false =>
    have HE : Hid (litW (l.drop k) = none) := litW_nohead hh1
    clear hr1 hg1 hh1 HH
    go_wp2_with fail
    go_ret2
    rw [HE.out]
    exact ⟨rfl, HB1.out.alloc HB1.out.size _⟩
  | true =>
    have hh1' : headW (l.drop k) = some (n, !u, l.drop k1) := hh1
    have hn := headW_le hh1'
    have HKK : Hid (k < k1) := headW_lt hh1' hk hk1
    obtain ⟨x2, hx2⟩ : ∃ x, ([13, 10] : List UInt8).isPrefixOf (l.drop k1) = x := ⟨_, rfl⟩
    obtain ⟨w2, hw2⟩ : ∃ x, x = w1.alloc (.cells #[.int .i64 (n : Int), .bool u] 114) := ⟨_, rfl⟩
    have HR2 : Hid (Rb w2 w.heap.size b off cap l k1) := by unfold Hid; rw [hw2]; exact HR1.out.below ((Below.refl _ _).alloc (Nat.le_refl _) _)
    have HB2 : Hid (Below w.heap.size w w2) := by unfold Hid; rw [hw2]; exact HB1.out.alloc HB1.out.size _
    have HN2 : Hid (B2 w2 w1.heap.size 114 (.int .i64 (n : Int)) (.bool u)) := by unfold Hid; rw [hw2]; exact B2.new _ _ _ _
    have HT2 := Lib.hid (HTk.out k1 ⟨#[13, 10]⟩ [13, 10] w2 x2 rfl (by decide) hx2 HR2.out hk1)
    have hww : w.heap.size < w1.heap.size := HR1.out.ltB
    have HW2 := Lib.hid hw2
    clear hr1 hg1 hh1 HH c0 c1 HR1 HB1
    cases x2 with
    | false =>
      have HE : Hid (litW (l.drop k) = none) := litW_noend hh1' hx2
      clear hh1' hx2
      go_wp2_with fail
      rw [← HW2.out]
      clear hw2
      with_reducible refine HT2.out.mono ?_
      rintro e w3 ⟨rfl, _, hg3⟩
      have HB3 := Lib.hid (HB2.out.trans (hg3.toBelow (Nat.le_refl _) HB2.out.size))
      clear hg3
      go_wp2_with fail
      go_ret2
      rw [HE.out]
      exact ⟨rfl, HB3.out⟩
    | true =>
      obtain ⟨e2, hk2⟩ := pre_drop hx2 hk1
      have hk2' : k1 + 2 ≤ l.length := hk2
      have hE0 : litW (l.drop k) = if (l.drop (k1 + 2)).length < n then none else some ((l.drop (k1 + 2)).take n, (l.drop (k1 + 2)).drop n) := by
        rw [e2] at hh1'
        exact litW_end hh1'
      rw [List.length_drop] at hE0
      clear hh1' hx2 e2 hk2
      obtain ⟨f, hf⟩ : ∃ f, f = k1 + 2 := ⟨_, rfl⟩
      have HKf : Hid (∀ w', Rb w' w.heap.size b off cap l (if true = true then k1 + ([13, 10] : List UInt8).length else k1) → Rb w' w.heap.size b off cap l f) := by unfold Hid; intro w' h; rw [hf]; exact h
      have hkf : k < f := by
        have := HKK.out
        omega
      rw [← hf] at hE0 hk2'
      clear hf
      by_cases hlt : l.length - f < n
      · have HE : Hid (litW (l.drop k) = none) := by unfold Hid; rw [hE0, if_pos hlt]
        clear hE0
        have hi : (l.length : Int) - (f : Int) < (n : Int) := by omega
        go_wp2_with fail
        rw [← HW2.out]
        clear hw2
        with_reducible refine HT2.out.mono ?_
        rintro e w3 ⟨rfl, hr3, hg3⟩
        have HR3 := Lib.hid (HKf.out _ hr3)
        have HN3 := Lib.hid (HN2.out.gr hg3 (by omega))
        have HB3 := Lib.hid (HB2.out.trans (hg3.toBelow (Nat.le_refl _) HB2.out.size))
        have d0 := HR3.out.c0
        have d1 := HR3.out.c1
        have n0 := HN3.out.c0
        clear hg3 hr3
        go_wp2_with fail
        go_ret2
        rw [HE.out]
        exact ⟨rfl, HB3.out⟩
      · have HE : Hid (litW (l.drop k) = some ((l.drop f).take n, l.drop (f + n))) := by unfold Hid; rw [hE0, if_neg hlt, List.drop_drop]
        clear hE0
        have hi : ¬ (l.length : Int) - (f : Int) < (n : Int) := by omega
        go_wp2_with fail
        rw [← HW2.out]
        clear hw2
        with_reducible refine HT2.out.mono ?_
        rintro e w3 ⟨rfl, hr3, hg3⟩
        have HR3 := Lib.hid (HKf.out _ hr3)
        have HN3 := Lib.hid (HN2.out.gr hg3 (by omega))
        have HB3 := Lib.hid (HB2.out.trans (hg3.toBelow (Nat.le_refl _) HB2.out.size))
        have HRB3 := Lib.hid (HR.out.below HB3.out)
        have d0 := HR3.out.c0
        have d1 := HR3.out.c1
        have n0 := HN3.out.c0
        have b1 := HRB3.out.c1
        have f1 := HRB3.out.f1
        clear hg3 hr3
        obtain ⟨t, ht⟩ : ∃ t, t = f + n := ⟨_, rfl⟩
        have HTI : Hid ((f : Int) + (n : Int) = (t : Int)) := by unfold Hid; omega
        have HT := Lib.hid ht
        have htl : t ≤ l.length := by omega
        have hbb : (f : Int) + (n : Int) ≤ 1000000000000 := by omega
        have hft : f ≤ t := by omega
        clear ht
        go_wp2_with fail
        rw [HTI.out]
        obtain ⟨w4, hw4⟩ : ∃ x, x = w3.setCell ⟨B, 1, none⟩ (.int .i64 (t : Int)) := ⟨_, rfl⟩
        rw [← hw4]
        have HR4 : Hid (Rb w4 B b off cap l t) := by unfold Hid; rw [hw4]; exact HRB3.out.set t
        have hA4 : w4.heap[w.heap.size]? = w3.heap[w.heap.size]? := by rw [hw4]; exact Below.heap_setCell w3 ⟨B, 1, none⟩ _ _ (by show w.heap.size ≠ B; omega)
        have d4 : w4.cell? ⟨w.heap.size, 1, none⟩ = some (.int .i64 (f : Int)) := (World.cell?_of_block (a := ⟨w.heap.size, 1, none⟩) hA4).trans d1
        have HG4 : Hid (Gr B w w4) := by unfold Hid; rw [hw4]; exact ((Gr.refl B w).below HB3.out).set 1 _
        have D4 := BW.cell d4
        have D5 := BW.cell HR4.out.c1
        have HC := Lib.hid (fun z : BW w4 => HCut.out t f t z.v (HR4.out.below z.h) hft htl)
        clear hw4 hA4 d4 d0 d1 n0 b1 f1 HR3 HRB3 HB3 HN3
        refine wp_region_below (by kernel_rfl) (by kernel_rfl) ?_
        repeat (go_big_quiet_step (first | (go_at_call 50; exact BW.calls (HC.out _))))
        refine wpQuiet_nil ?_
        rintro W5 ⟨⟨_, hb5⟩, rfl⟩
        go_wp2_with fail
        go_ret2
        rw [HE.out]
        have hT := HT.out
        exact ⟨f, t, rfl, by omega, hft, htl, by rw [hT, Nat.add_sub_cancel_left], by rw [hT], HR4.out.below hb5, HG4.out.below hb5⟩
end Go.Proofs.YtkmgflnmffdhjaaGreatDoor

/- Layer 18: contracts of package wire: atLiteral, bracket. -/
namespace Go.Proofs.YtkmgflnmffdhjaaGreatDoor
open Go Go.RowKit

set_option maxRecDepth 100000 in
theorem watLiteral_any (b off cap : Nat) (l : List UInt8) (k : Nat) (B : Nat) (w : World) (hr : Rb w B b off cap l k) (hk : k ≤ l.length) :
    Calls Tryz.prog 53 #[.agg #[.slice (some ⟨b, off, none⟩) l.length cap, .int .i64 (k : Int)]] w fun e w' => e = .returned (.bool (litW (l.drop k)).isSome) ∧ Below w.heap.size w w' := by
  obtain ⟨w0, hw0⟩ : ∃ x, x = w.alloc (.cells #[.slice (some ⟨b, off, none⟩) l.length cap, .int .i64 (k : Int)] 48) := ⟨_, rfl⟩
  have HA := Lib.hid (hr.new _ hw0)
  have HB0 : Hid (Below w.heap.size w w0) := by unfold Hid; rw [hw0]; exact (Below.refl _ _).alloc (Nat.le_refl _) _
  have HL := Lib.hid (wliteral_any w.heap.size b off cap l k w0 HA.out hk)
  have HW0 := Lib.hid hw0
  clear hr
  unfold LtW at HL
  cases hx : litW (l.drop k) with
  | none =>
    rw [hx] at HL
    have HL := Lib.hid HL.out
    simp only at HL
    go_enter Tryz.func53, Tryz.ntmps53
    go_wp2_with fail
    rw [← HW0.out]
    clear hw0
    with_reducible refine HL.out.mono ?_
    rintro e w1 ⟨rfl, hb⟩
    have HB1 := Lib.hid (HB0.out.trans (hb.mono HB0.out.size))
    clear hb
    go_wp2_with fail
    go_ret
    exact ⟨rfl, HB1.out⟩
  | some p =>
    obtain ⟨t, q⟩ := p
    rw [hx] at HL
    have HL := Lib.hid HL.out
    simp only at HL
    go_enter Tryz.func53, Tryz.ntmps53
    go_wp2_with fail
    rw [← HW0.out]
    clear hw0
    with_reducible refine HL.out.mono ?_
    rintro e w1 ⟨f, k', rfl, _, _, _, _, _, _, hg⟩
    have HB1 := Lib.hid (HB0.out.trans (hg.toBelow (Nat.le_refl _) HB0.out.size))
    clear hg
    go_wp2_with fail
    go_ret
    exact ⟨rfl, HB1.out⟩
theorem brkW_nil (g : Nat) : brkW (g + 1) [] = none := rfl
theorem brkW_end (g : Nat) (r : List UInt8) : brkW (g + 1) (93 :: r) = some r := by unfold brkW; rw [if_pos rfl]
theorem brkW_quo_no {g : Nat} {r : List UInt8} (h : quoW r = none) : brkW (g + 1) (34 :: r) = none := by unfold brkW; rw [if_neg (by decide), if_pos rfl, h]
theorem brkW_quo {g : Nat} {r t q : List UInt8} (h : quoW r = some (t, q)) : brkW (g + 1) (34 :: r) = brkW g q := by conv => lhs; unfold brkW
                                                                                                                     rw [if_neg (by decide), if_pos rfl, h]
theorem brkW_bad {g : Nat} {r : List UInt8} {c : UInt8} (h1 : c ≠ 93) (h2 : c ≠ 34) (h3 : prB c = false) : brkW (g + 1) (c :: r) = none := by unfold brkW; rw [if_neg h1, if_neg h2, if_neg (by rw [h3]; decide)]
theorem brkW_step {g : Nat} {r : List UInt8} {c : UInt8} (h1 : c ≠ 93) (h2 : c ≠ 34) (h3 : prB c = true) : brkW (g + 1) (c :: r) = brkW g r := by conv => lhs; unfold brkW
                                                                                                                                                  rw [if_neg h1, if_neg h2, if_pos h3]
theorem quoW_len : ∀ {s t q : List UInt8}, quoW s = some (t, q) → q.length < s.length
  | [], t, q, h => by cases h
  | [c], t, q, h => by
    unfold quoW at h
    split at h
    · cases h; simp
    · cases h
  | c :: d :: r, t, q, h => by
    unfold quoW at h
    split at h
    · cases h; simp
    · split at h
      · split at h
        · cases hr : quoW r with
          | none => rw [hr] at h; cases h
          | some p =>
            obtain ⟨a, b⟩ := p
            rw [hr] at h
            cases h
            have := quoW_len hr
            simp
            omega
        · cases h
      · cases hr : quoW (d :: r) with
        | none => rw [hr] at h; cases h
        | some p =>
          obtain ⟨a, b⟩ := p
          rw [hr] at h
          cases h
          have := quoW_len hr
          simp at this ⊢
          omega
/-- What 'bracket' answers. -/
def BkW (B b off cap : Nat) (l : List UInt8) (k : Nat) (w : World) (o : Option (List UInt8)) (e : Ending) (w' : World) : Prop :=
  match o with
  | none => e = .returned (.bool false) ∧ ∃ k', k' ≤ l.length ∧ Rb w' B b off cap l k' ∧ Gr B w w'
  | some q => ∃ k', e = .returned (.bool true) ∧ k < k' ∧ k' ≤ l.length ∧ l.drop k' = q ∧ Rb w' B b off cap l k' ∧ Gr B w w'
theorem pre1_at {l : List UInt8} {j : Nat} (c : UInt8) (hj : j < l.length) (x : Bool) (h : ([c] : List UInt8).isPrefixOf (l.drop j) = x) : x = (l[j] == c) := by
  rw [drop_consL hj] at h
  rw [← h]
  by_cases hc : l[j] = c
  · rw [hc]
    simp
  · have e : (l[j] == c) = false := by simpa using hc
    rw [e, Bool.eq_false_iff]
    intro h2
    obtain ⟨r, hr⟩ := (isPre1 _ _).1 h2
    exact hc (List.cons.inj hr).1
set_option maxRecDepth 100000 in
set_option maxHeartbeats 4000000 in
theorem wbracket_any (B b off cap : Nat) (l : List UInt8) (k : Nat) (w : World) (hr : Rb w B b off cap l k) (hk : k < l.length) :
    Calls Tryz.prog 51 #[.pointer (some ⟨B, 0, none⟩)] w (BkW B b off cap l k w (brkW ((l.drop (k + 1)).length + 1) (l.drop (k + 1)))) := by
  have hsm := hr.sm
  have hBw := hr.ltB
  have HTk := Lib.hid (fun j q p W x hq hp hx (h : Rb W B b off cap l j) hj => wtakes_any B b off cap l j q p W hq hp h hj x hx)
  have HQ := Lib.hid (fun j W (h : Rb W B b off cap l j) hj => wquoted_any B b off cap l j W h hj)
  have HP := Lib.hid wplain_any
  have HR := Lib.hid hr
  have c0 := hr.c0
  have c1 := hr.c1
  have f1 := hr.f1
  have hkk : (k : Int) + 1 ≤ 1000000000001 := by omega
  have HR0 := Lib.hid (hr.set (k + 1))
  have HG0 : Hid (Gr B w (w.setCell ⟨B, 1, none⟩ (.int .i64 ((k + 1 : Nat) : Int)))) := (Gr.refl B w).set 1 _
  have HK : Hid ((k : Int) + 1 = ((k + 1 : Nat) : Int)) := by unfold Hid; omega
  clear hr
  go_enter Tryz.func51, Tryz.ntmps51
  go_wp2_with fail
  rw [HK.out]
  go_loopg [] (l.length - (k + 1)) (fun g wr => ∃ (j n : Nat), g = l.length - j ∧ k < j ∧ j ≤ l.length ∧ Hid ((l.drop j).length < n) ∧ Hid (Rb wr B b off cap l j) ∧ Hid (Gr B w wr) ∧ Hid (brkW ((l.drop (k + 1)).length + 1) (l.drop (k + 1)) = brkW n (l.drop j)))
  case atStart => exact ⟨k + 1, _, rfl, by omega, by omega, Nat.lt_succ_self _, HR0.out, HG0.out, rfl⟩
  case round =>
    obtain ⟨j, n, rfl, hkj, hj, HN, HRj, HG, HS⟩ := hrel
    obtain ⟨n, rfl⟩ : ∃ m, n = m + 1 := ⟨n - 1, by have := HN.out; omega⟩
    have C0 := BW.cell HRj.out.c0
    have C1 := BW.cell HRj.out.c1
    by_cases hlt : j < l.length
    · have hd : ((j : Int) < (l.length : Int)) := by omega
      have HD := Lib.hid (drop_consL hlt)
      go_wp2_with fail
      refine wp_region_below (by kernel_rfl) (by kernel_rfl) ?_
      repeat (go_big_quiet_step (fail))
      refine wpQuiet_nil ?_
      rintro W1 ⟨⟨_, hb1⟩, rfl⟩
      have HR1 := Lib.hid (HRj.out.below hb1)
      have HG1 := Lib.hid (HG.out.below hb1)
      replace C0 := BW.cell HR1.out.c0
      replace C1 := BW.cell HR1.out.c1
      have C2 : ∀ z : BW W1, z.v.cell? ⟨b, off + j, none⟩ = some (.int .u8 (l[j].toNat : Int)) := BW.cell (HR1.out.at_ j hlt)
      clear hb1 HRj HG
      go_wp2_with fail
      refine wp_region_below (by kernel_rfl) (by kernel_rfl) ?_
      repeat (go_big_quiet_step (fail))
      refine wpQuiet_nil ?_
      rintro W2 ⟨⟨_, hb2⟩, rfl⟩
      have HR2 := Lib.hid (HR1.out.below hb2)
      have HG2 := Lib.hid (HG1.out.below hb2)
      clear hb2 HR1 HG1 C0 C1 C2
      obtain ⟨x1, hx1⟩ : ∃ x, ([93] : List UInt8).isPrefixOf (l.drop j) = x := ⟨_, rfl⟩
      have HX1 := Lib.hid (pre1_at 93 hlt x1 hx1)
      have HT1 := Lib.hid (HTk.out j ⟨#[93]⟩ [93] W2 x1 rfl (by decide) hx1 HR2.out hj)
      clear hx1
      go_wp2_with fail
      with_reducible refine HT1.out.mono ?_
      rintro e w3 ⟨rfl, hr3, hg3⟩
      have HG3 := Lib.hid (HG2.out.trans hg3)
      cases x1 with
      | true =>
        have HR3 : Hid (Rb w3 B b off cap l (j + 1)) := hr3
        clear hr3 hg3 HT1
        go_wp2_with fail
        try rw [Exit.noGoto_ret]
        go_ret
        have e1 : brkW ((l.drop (k + 1)).length + 1) (l.drop (k + 1)) = some (l.drop (j + 1)) := by
          rw [HS.out, HD.out, show l[j] = 93 by have := HX1.out; simpa using this.symm, brkW_end]
        rw [e1]
        exact ⟨j + 1, rfl, by omega, hlt, rfl, HR3.out, HG3.out⟩
      | false =>
        have hne1 : l[j] ≠ 93 := by have := HX1.out; simpa using this.symm
        have HR3 : Hid (Rb w3 B b off cap l j) := hr3
        clear hr3 hg3 HT1 HR2 HG2
        obtain ⟨x2, hx2⟩ : ∃ x, ([34] : List UInt8).isPrefixOf (l.drop j) = x := ⟨_, rfl⟩
        have HX2 := Lib.hid (pre1_at 34 hlt x2 hx2)
        have HT2 := Lib.hid (HTk.out j ⟨#[34]⟩ [34] w3 x2 rfl (by decide) hx2 HR3.out hj)
        have HNe1 := Lib.hid hne1
        clear hx2 hne1
        go_wp2_with fail
        with_reducible refine HT2.out.mono ?_
        rintro e w4 ⟨rfl, hr4, hg4⟩
        have HG4 := Lib.hid (HG3.out.trans hg4)
        cases x2 with
        | true =>
          have HR4 : Hid (Rb w4 B b off cap l (j + 1)) := hr4
          have HE : Hid (l[j] = 34) := by have := HX2.out; unfold Hid; simpa using this.symm
          have HQ1 := Lib.hid (HQ.out (j + 1) w4 HR4.out hlt)
          clear hr4 hg4 HT2 HR3 HG3
          unfold QuoW at HQ1
          cases hq : quoW (l.drop (j + 1)) with
          | none =>
            rw [hq] at HQ1
            have HQ1 := Lib.hid HQ1.out
            simp only at HQ1
            have HB : Hid (brkW ((l.drop (k + 1)).length + 1) (l.drop (k + 1)) = none) := by
              unfold Hid
              rw [HS.out, HD.out, HE.out, brkW_quo_no hq]
            clear hq
            go_wp2_with fail
            with_reducible refine HQ1.out.mono ?_
            rintro e w5 ⟨rfl, k5, hk5, hr5, hg5⟩
            have HR5 := Lib.hid hr5
            have HG5 := Lib.hid (HG4.out.trans hg5)
            clear hr5 hg5
            go_wp2_with fail
            try rw [Exit.noGoto_ret]
            go_ret
            rw [HB.out]
            exact ⟨rfl, k5, hk5, HR5.out, HG5.out⟩
          | some p =>
            obtain ⟨t, q⟩ := p
            rw [hq] at HQ1
            have HQ1 := Lib.hid HQ1.out
            simp only at HQ1
            have HB : Hid (brkW ((l.drop (k + 1)).length + 1) (l.drop (k + 1)) = brkW n q) := by
              unfold Hid
              rw [HS.out, HD.out, HE.out, brkW_quo hq]
            have HQL := Lib.hid (quoW_len hq)
            clear hq
            go_wp2_with fail
            with_reducible refine HQ1.out.mono ?_
            rintro e w5 ⟨v5, k5, rfl, _, _, hk5, hr5, hd5, hg5⟩
            have HR5 := Lib.hid hr5
            have HG5 := Lib.hid (HG4.out.trans hg5)
            have HD5 := Lib.hid hd5
            have hjk : j < k5 := by
              have h1 := HQL.out
              rw [← hd5, List.length_drop, List.length_drop] at h1
              omega
            clear hr5 hg5 hd5
            go_wp2_with fail
            go_roundg (l.length - k5)
            case measure => omega
            case rel =>
              refine ⟨k5, n, rfl, by omega, hk5, ?_, HR5.out, HG5.out, ?_⟩
              · have h1 := HN.out
                unfold Hid
                simp only [List.length_drop] at h1 ⊢
                omega
              · unfold Hid
                rw [HB.out, HD5.out]
        | false =>
          have hne2 : l[j] ≠ 34 := by have := HX2.out; simpa using this.symm
          have HR4 : Hid (Rb w4 B b off cap l j) := hr4
          have HPj := Lib.hid (HP.out l[j] w4)
          clear hr4 hg4 HT2 HR3 HG3
          rcases Bool.eq_false_or_eq_true (prB l[j]) with hp | hp
          · have HB : Hid (brkW ((l.drop (k + 1)).length + 1) (l.drop (k + 1)) = brkW n (l.drop (j + 1))) := by
              unfold Hid
              rw [HS.out, HD.out, brkW_step HNe1.out hne2 hp]
            rw [hp] at HPj
            have c1' := HR4.out.c1
            have c0' := HR4.out.c0
            have f1' := HR4.out.f1
            clear hne2 hp
            go_wp2_with fail
            with_reducible refine HPj.out.mono ?_
            rintro e w5 ⟨rfl, rfl⟩
            go_wp2_with fail
            go_roundg (l.length - (j + 1))
            case measure => omega
            case rel =>
              refine ⟨j + 1, n, rfl, by omega, hlt, ?_, HR4.out.set (j + 1), HG4.out.set 1 _, HB.out⟩
              have h1 := HN.out
              unfold Hid
              simp only [List.length_drop] at h1 ⊢
              omega
          · have HB : Hid (brkW ((l.drop (k + 1)).length + 1) (l.drop (k + 1)) = none) := by
              unfold Hid
              rw [HS.out, HD.out, brkW_bad HNe1.out hne2 hp]
            rw [hp] at HPj
            clear hne2 hp
            go_wp2_with fail
            with_reducible refine HPj.out.mono ?_
            rintro e w5 ⟨rfl, rfl⟩
            go_wp2_with fail
            try rw [Exit.noGoto_ret]
            go_ret
            rw [HB.out]
            exact ⟨rfl, j, hj, HR4.out, HG4.out⟩
    · have HB : Hid (brkW ((l.drop (k + 1)).length + 1) (l.drop (k + 1)) = none) := by
        unfold Hid
        rw [HS.out, List.drop_eq_nil_of_le (by omega : l.length ≤ j), brkW_nil]
      go_wp2_with fail
      refine wp_region_below (by kernel_rfl) (by kernel_rfl) ?_
      repeat (go_big_quiet_step (fail))
      refine wpQuiet_nil ?_
      rintro W1 ⟨⟨_, hb1⟩, rfl⟩
      have HR1 := Lib.hid (HRj.out.below hb1)
      have HG1 := Lib.hid (HG.out.below hb1)
      clear hb1
      go_wp2_with fail
      try simp only [Exit.noGoto_normal]
      go_ret
      rw [HB.out]
      exact ⟨rfl, j, hj, HR1.out, HG1.out⟩
end Go.Proofs.YtkmgflnmffdhjaaGreatDoor

/- Layer 18: contracts of package wire: word. -/
namespace Go.Proofs.YtkmgflnmffdhjaaGreatDoor
open Go Go.RowKit

theorem wordB_iff (c : UInt8) : wordB c = true ↔ (33 ≤ c.toNat ∧ c.toNat ≤ 126) ∧ c ≠ 40 ∧ c ≠ 41 ∧ c ≠ 34 := by
  unfold wordB prB
  simp only [Bool.and_eq_true, decide_eq_true_iff, bne_iff_ne]
  constructor
  · rintro ⟨⟨⟨⟨h1, h2⟩, h3⟩, h4⟩, h5⟩
    refine ⟨⟨?_, h1.2⟩, h3, h4, h5⟩
    have : c.toNat ≠ 32 := fun e => h2 (toNat_eq e)
    omega
  · rintro ⟨h1, h3, h4, h5⟩
    refine ⟨⟨⟨⟨by omega, ?_⟩, h3⟩, h4⟩, h5⟩
    rintro rfl
    exact absurd h1.1 (by decide)
theorem endW_cons (c : UInt8) (r : List UInt8) : endW (c :: r) = (!wordB c || (litW (c :: r)).isSome) := by
  unfold endW
  simp only
  congr 1
  rw [Bool.eq_iff_iff]
  simp only [Bool.or_eq_true, decide_eq_true_iff, beq_iff_eq, Bool.not_eq_true', ← Bool.not_eq_true]
  rw [wordB_iff]
  constructor
  · rintro (((h | h) | h) | h)
    · omega
    · exact fun h2 => h2.2.1 h
    · exact fun h2 => h2.2.2.1 h
    · exact fun h2 => h2.2.2.2 h
  · intro h
    by_cases h1 : c = 40
    · exact .inl (.inl (.inr h1))
    · by_cases h2 : c = 41
      · exact .inl (.inr h2)
      · by_cases h3 : c = 34
        · exact .inr h3
        · refine .inl (.inl (.inl ?_))
          apply Decidable.byContradiction
          intro h4
          exact h ⟨by omega, h1, h2, h3⟩
theorem wrdW_end {g : Nat} {acc s : List UInt8} (h : endW s = true) : wrdW (g + 1) acc s = some (acc, s) := by unfold wrdW; rw [if_pos h]
theorem wrdW_step {g : Nat} {acc r : List UInt8} {c : UInt8} (h : endW (c :: r) = false) (h2 : c ≠ 91) : wrdW (g + 1) acc (c :: r) = wrdW g (acc ++ [c]) r := by
  conv => lhs; unfold wrdW
  rw [if_neg (by rw [h]; decide)]
  simp only
  rw [if_neg h2]
theorem endW_91 (r : List UInt8) : endW (91 :: r) = false := by
  rw [endW_cons, litW_not (by decide) (by decide)]
  rfl
theorem wrdW_brk_no {g : Nat} {acc r : List UInt8} (h : brkW (r.length + 1) r = none) : wrdW (g + 1) acc (91 :: r) = none := by
  conv => lhs; unfold wrdW
  rw [if_neg (by rw [endW_91]; decide)]
  simp only
  rw [if_pos trivial, h]
theorem wrdW_brk {g : Nat} {acc r q : List UInt8} (h : brkW (r.length + 1) r = some q) : wrdW (g + 1) acc (91 :: r) = wrdW g (acc ++ 91 :: r.take (r.length - q.length)) q := by
  conv => lhs; unfold wrdW
  rw [if_neg (by rw [endW_91]; decide)]
  simp only
  rw [if_pos trivial, h]
/-- What 'word' answers. -/
def WdW (B b off cap : Nat) (l : List UInt8) (k : Nat) (w : World) (o : Option (List UInt8 × List UInt8)) (e : Ending) (w' : World) : Prop :=
  match o with
  | none => e = .returned (.tuple #[.slice none 0 0, .bool false]) ∧ ∃ k', k' ≤ l.length ∧ Rb w' B b off cap l k' ∧ Gr B w w'
  | some (t, r) => ∃ k' : Nat, e = .returned (.tuple #[cutV b off k k', .bool (decide (k < k'))]) ∧ k ≤ k' ∧ k' ≤ l.length ∧ (l.drop k).take (k' - k) = t ∧ l.drop k' = r ∧ Rb w' B b off cap l k' ∧ Gr B w w'
theorem take_upto {l : List UInt8} {k j m : Nat} (h1 : k ≤ j) (h2 : j ≤ m) (_ : m ≤ l.length) : (l.drop k).take (m - k) = (l.drop k).take (j - k) ++ (l.drop j).take (m - j) := by
  rw [show m - k = (j - k) + (m - j) by omega, List.take_add, List.drop_drop]
  congr 3
  omega
set_option maxRecDepth 100000 in
set_option maxHeartbeats 4000000 in
theorem wword1_any (B b off cap : Nat) (l : List UInt8) (k : Nat) (w : World) (hr : Rb w B b off cap l k) (hk : k ≤ l.length) :
    Calls Tryz.prog 29 #[.pointer (some ⟨B, 0, none⟩)] w (WdW B b off cap l k w (wrdW ((l.drop k).length + 1) [] (l.drop k))) := by
  have hsm := hr.sm
  have hBw := hr.ltB
  have HBk := Lib.hid (fun j W (h : Rb W B b off cap l j) hj => wbracket_any B b off cap l j W h hj)
  have HLi := Lib.hid (fun j W (h : Rb W B b off cap l j) hj => watLiteral_any b off cap l j B W h hj)
  have HWd := Lib.hid wword_any
  have HCut := Lib.hid (fun j W (h : Rb W B b off cap l j) hkj hj => wcut_any B b off cap l j k j W h hkj hj)
  have HR := Lib.hid hr
  have c0 := hr.c0
  have c1 := hr.c1
  clear hr
  go_enter Tryz.func29, Tryz.ntmps29
  go_wp2_with fail
  try go_step3
  go_wp2_with fail
  try go_step3
  go_wp2_with fail
  go_loopg [] (l.length - k) (fun g wr => ∃ (j n : Nat), g = l.length - j ∧ k ≤ j ∧ j ≤ l.length ∧ Hid ((l.drop j).length < n) ∧ Hid (Rb wr B b off cap l j) ∧ Hid (Gr B w wr) ∧ Hid (wrdW ((l.drop k).length + 1) [] (l.drop k) = wrdW n ((l.drop k).take (j - k)) (l.drop j)))
  case atStart => exact ⟨k, _, rfl, by omega, hk, Nat.lt_succ_self _, HR.out, Gr.refl _ _, by unfold Hid; rw [Nat.sub_self]; rfl⟩
  case round =>
    obtain ⟨j, n, rfl, hkj, hj, HN, HRj, HG, HS⟩ := hrel
    obtain ⟨n, rfl⟩ : ∃ m, n = m + 1 := ⟨n - 1, by have := HN.out; omega⟩
    have C0 := BW.cell HRj.out.c0
    have C1 := BW.cell HRj.out.c1
    by_cases hlt : j < l.length
    · have hd : ((j : Int) < (l.length : Int)) := by omega
      have HD := Lib.hid (drop_consL hlt)
      go_wp2_with fail
      refine wp_region_below (by kernel_rfl) (by kernel_rfl) ?_
      repeat (go_big_quiet_step (fail))
      refine wpQuiet_nil ?_
      rintro W1 ⟨⟨_, hb1⟩, rfl⟩
      have HR1 := Lib.hid (HRj.out.below hb1)
      have HG1 := Lib.hid (HG.out.below hb1)
      replace C0 := BW.cell HR1.out.c0
      replace C1 := BW.cell HR1.out.c1
      have C2 : ∀ z : BW W1, z.v.cell? ⟨b, off + j, none⟩ = some (.int .u8 (l[j].toNat : Int)) := BW.cell (HR1.out.at_ j hlt)
      clear hb1 HRj HG
      go_wp2_with fail
      refine wp_region_below (by kernel_rfl) (by kernel_rfl) ?_
      repeat (go_big_quiet_step (fail))
      refine wpQuiet_nil ?_
      rintro W2 ⟨⟨_, hb2⟩, rfl⟩
      have HR2 := Lib.hid (HR1.out.below hb2)
      have HG2 := Lib.hid (HG1.out.below hb2)
      clear hb2 HR1 HG1 C0 C1 C2
      by_cases h91 : l[j] = 91
      · have b91 : (((l[j].toNat : Nat) : Int) == 91) = true := by rw [h91]; rfl
        have HBj := Lib.hid (HBk.out j W2 HR2.out hlt)
        unfold BkW at HBj
        cases hq : brkW ((l.drop (j + 1)).length + 1) (l.drop (j + 1)) with
        | none =>
          rw [hq] at HBj
          have HBj := Lib.hid HBj.out
          simp only at HBj
          have HE : Hid (wrdW ((l.drop k).length + 1) [] (l.drop k) = none) := by
            unfold Hid
            rw [HS.out, HD.out, h91, wrdW_brk_no hq]
          clear hq h91
          go_wp2_with fail
          with_reducible refine HBj.out.mono ?_
          rintro e w3 ⟨rfl, k3, hk3, hr3, hg3⟩
          have HR3 := Lib.hid hr3
          have HG3 := Lib.hid (HG2.out.trans hg3)
          clear hr3 hg3
          go_wp2_with fail
          try rw [Exit.noGoto_ret]
          go_ret2
          rw [HE.out]
          exact ⟨rfl, k3, hk3, HR3.out, HG3.out⟩
        | some q =>
          rw [hq] at HBj
          have HBj := Lib.hid HBj.out
          simp only at HBj
          have HE : Hid (wrdW ((l.drop k).length + 1) [] (l.drop k) = wrdW n ((l.drop k).take (j - k) ++ 91 :: (l.drop (j + 1)).take ((l.drop (j + 1)).length - q.length)) q) := by
            unfold Hid
            rw [HS.out, HD.out, h91, wrdW_brk hq]
          have H91 := Lib.hid h91
          clear hq h91
          go_wp2_with fail
          with_reducible refine HBj.out.mono ?_
          rintro e w3 ⟨k3, rfl, hjk, hk3, hd3, hr3, hg3⟩
          have HR3 := Lib.hid hr3
          have HG3 := Lib.hid (HG2.out.trans hg3)
          have HD3 := Lib.hid hd3
          clear hr3 hg3 hd3
          go_wp2_with fail
          go_roundg (l.length - k3)
          case measure => omega
          case rel =>
            refine ⟨k3, n, rfl, by omega, hk3, ?_, HR3.out, HG3.out, ?_⟩
            · have h1 := HN.out
              unfold Hid
              simp only [List.length_drop] at h1 ⊢
              omega
            · unfold Hid
              rw [HE.out, ← HD3.out]
              congr 1
              rw [take_upto hkj (Nat.le_of_lt hjk) hk3, HD.out, H91.out]
              rw [show k3 - j = (k3 - (j + 1)) + 1 by omega, List.take_succ_cons]
              congr 3
              rw [List.length_drop, List.length_drop]
              omega
      · have b91 : (((l[j].toNat : Nat) : Int) == 91) = false := beq_no (fun e => h91 (toNat_eq (by show l[j].toNat = _; exact Int.ofNat.inj e)))
        have HWj := Lib.hid (HWd.out l[j] W2)
        rcases Bool.eq_false_or_eq_true (wordB l[j]) with hw | hw
        · have HLj := Lib.hid (HLi.out j W2 HR2.out hj)
          have d0 := HR2.out.c0
          have d1 := HR2.out.c1
          cases hx : (litW (l.drop j)).isSome with
          | true =>
            have HE : Hid (wrdW ((l.drop k).length + 1) [] (l.drop k) = some ((l.drop k).take (j - k), l.drop j)) := by
              unfold Hid
              rw [HS.out]
              exact wrdW_end (by rw [HD.out, endW_cons, ← HD.out, hx, Bool.or_true])
            rw [hw] at HWj
            rw [hx] at HLj
            clear h91 hw hx
            go_wp2_with fail
            with_reducible refine HWj.out.mono ?_
            rintro e w3 ⟨rfl, rfl⟩
            go_wp2_with fail
            with_reducible refine HLj.out.mono ?_
            rintro e w4 ⟨rfl, hb4⟩
            have HR4 := Lib.hid (HR2.out.below hb4)
            have HG4 := Lib.hid (HG2.out.below hb4)
            clear hb4
            go_wp2_with fail
            have D1 := BW.cell HR4.out.c1
            have HC := Lib.hid (fun z : BW w4 => HCut.out j z.v (HR4.out.below z.h) hkj hj)
            refine wp_region_below (by kernel_rfl) (by kernel_rfl) ?_
            repeat (go_big_quiet_step (first | (go_at_call 50; exact BW.calls (HC.out _))))
            refine wpQuiet_nil ?_
            rintro W5 ⟨⟨_, hb5⟩, rfl⟩
            go_wp2_with fail
            go_ret2
            rw [HE.out]
            exact ⟨j, by simp, hkj, hj, rfl, rfl, HR4.out.below hb5, HG4.out.below hb5⟩
          | false =>
            have HE : Hid (wrdW ((l.drop k).length + 1) [] (l.drop k) = wrdW n ((l.drop k).take (j + 1 - k)) (l.drop (j + 1))) := by
              unfold Hid
              have h1 : endW (l[j] :: l.drop (j + 1)) = false := by rw [endW_cons, ← HD.out, hx, hw]; rfl
              rw [HS.out, HD.out, wrdW_step h1 h91]
              congr 1
              rw [take_upto hkj (Nat.le_succ j) hlt, HD.out, show j.succ - j = 1 by omega]
              rfl
            rw [hw] at HWj
            rw [hx] at HLj
            clear h91 hw hx
            go_wp2_with fail
            with_reducible refine HWj.out.mono ?_
            rintro e w3 ⟨rfl, rfl⟩
            go_wp2_with fail
            with_reducible refine HLj.out.mono ?_
            rintro e w4 ⟨rfl, hb4⟩
            have HR4 := Lib.hid (HR2.out.below hb4)
            have HG4 := Lib.hid (HG2.out.below hb4)
            clear hb4 d0 d1
            have d1 := HR4.out.c1
            have f1 := HR4.out.f1
            go_wp2_with fail
            go_roundg (l.length - (j + 1))
            case measure => omega
            case rel =>
              refine ⟨j + 1, n, rfl, by omega, hlt, ?_, HR4.out.set (j + 1), HG4.out.set 1 _, HE.out⟩
              have h1 := HN.out
              unfold Hid
              simp only [List.length_drop] at h1 ⊢
              omega
        · have HE : Hid (wrdW ((l.drop k).length + 1) [] (l.drop k) = some ((l.drop k).take (j - k), l.drop j)) := by
            unfold Hid
            rw [HS.out]
            exact wrdW_end (by rw [HD.out, endW_cons, hw]; rfl)
          rw [hw] at HWj
          clear h91 hw
          go_wp2_with fail
          with_reducible refine HWj.out.mono ?_
          rintro e w3 ⟨rfl, rfl⟩
          go_wp2_with fail
          have D1 := BW.cell HR2.out.c1
          have HC := Lib.hid (fun z : BW W2 => HCut.out j z.v (HR2.out.below z.h) hkj hj)
          refine wp_region_below (by kernel_rfl) (by kernel_rfl) ?_
          repeat (go_big_quiet_step (first | (go_at_call 50; exact BW.calls (HC.out _))))
          refine wpQuiet_nil ?_
          rintro W5 ⟨⟨_, hb5⟩, rfl⟩
          go_wp2_with fail
          go_ret2
          rw [HE.out]
          exact ⟨j, by simp, hkj, hj, rfl, rfl, HR2.out.below hb5, HG2.out.below hb5⟩
    · have HE : Hid (wrdW ((l.drop k).length + 1) [] (l.drop k) = some ((l.drop k).take (j - k), l.drop j)) := by
        unfold Hid
        rw [HS.out]
        exact wrdW_end (by rw [List.drop_eq_nil_of_le (by omega : l.length ≤ j)]; rfl)
      go_wp2_with fail
      refine wp_region_below (by kernel_rfl) (by kernel_rfl) ?_
      repeat (go_big_quiet_step (fail))
      refine wpQuiet_nil ?_
      rintro W1 ⟨⟨_, hb1⟩, rfl⟩
      have HR1 := Lib.hid (HRj.out.below hb1)
      have HG1 := Lib.hid (HG.out.below hb1)
      clear hb1 C0 C1
      go_wp2_with fail
      have D1 := BW.cell HR1.out.c1
      have HC := Lib.hid (fun z : BW W1 => HCut.out j z.v (HR1.out.below z.h) hkj hj)
      refine wp_region_below (by kernel_rfl) (by kernel_rfl) ?_
      repeat (go_big_quiet_step (first | (go_at_call 50; exact BW.calls (HC.out _))))
      refine wpQuiet_nil ?_
      rintro W5 ⟨⟨_, hb5⟩, rfl⟩
      go_wp2_with fail
      go_ret2
      rw [HE.out]
      exact ⟨j, by simp, hkj, hj, rfl, rfl, HR1.out.below hb5, HG1.out.below hb5⟩
end Go.Proofs.YtkmgflnmffdhjaaGreatDoor
