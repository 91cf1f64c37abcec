/- Contracts of package section: Check, whole. -/
import Derived.Test.YthcleaflhljdlaaGreatDoorSeI
namespace Go.Proofs.YthcleaflhljdlaaGreatDoor
open Go Go.RowKit

def boxO (p : List Int) (q : Int) (ns : List (List UInt8)) (c : Bool) (x y : Int) (a1 a2 : Option Addr) (c1 c2 : Nat) : Obj :=
  .cells #[.slice a1 p.length c1, .int .i64 q, .slice a2 ns.length c2, .bool c, .int .i64 x, .int .i64 y] 26
theorem len_zeroB {α : Type} (l : List α) : ((l.length : Int) == 0) = l.isEmpty := by
  cases l with
  | nil => rfl
  | cons x r =>
    rw [beq_no (by simp; omega)]
    rfl
theorem whatOk_024 (s : Spc) (h : s.what = 0 ∨ s.what = 1 ∨ s.what = 4) : whatOk s = s.names.isEmpty := by unfold whatOk; rw [if_pos h]
theorem whatOk_23 (s : Spc) (h : s.what = 2 ∨ s.what = 3) : whatOk s = namesOk s.names := by unfold whatOk; rw [if_neg (by omega), if_pos h]
theorem whatOk_5 (s : Spc) (h : s.what = 5) : whatOk s = (s.names.isEmpty && !s.path.isEmpty) := by unfold whatOk; rw [if_neg (by omega), if_neg (by omega), if_pos h]
theorem whatOk_no (s : Spc) (h : ¬ (s.what = 0 ∨ s.what = 1 ∨ s.what = 2 ∨ s.what = 3 ∨ s.what = 4 ∨ s.what = 5)) : whatOk s = false := by unfold whatOk; rw [if_neg (by omega), if_neg (by omega), if_neg (by omega)]
set_option maxRecDepth 100000 in
set_option maxHeartbeats 4000000 in
theorem isWhat_any (s : Spc) (a1 a2 : Option Addr) (c1 c2 : Nat) (w : World) (h : SpA w s a1 a2 c1 c2) :
    Calls Tryz.prog 24 #[spV s a1 a2 c1 c2] w fun e w' => e = .returned (.bool (whatOk s)) ∧ Below w.heap.size w w' := by
  obtain ⟨p, q, ns, c, x, y⟩ := s
  unfold spV
  simp only
  have HA := Lib.hid (fun W (hb : Below w.heap.size w W) => areNames_any ns a2 c2 W (h.below hb).rn h.hn)
  have HB : Hid (Below w.heap.size w (w.alloc (boxO p q ns c x y a1 a2 c1 c2))) := (Below.refl _ _).alloc (Nat.le_refl _) _
  unfold boxO at HB
  have HAb := Lib.hid (HA.out _ HB.out)
  have HZ := Lib.hid (len_zeroB ns)
  have HP := Lib.hid (len_zeroB p)
  have H0 := Lib.hid (whatOk_024 ⟨p, q, ns, c, x, y⟩)
  have H2 := Lib.hid (whatOk_23 ⟨p, q, ns, c, x, y⟩)
  have H5 := Lib.hid (whatOk_5 ⟨p, q, ns, c, x, y⟩)
  have HN := Lib.hid (whatOk_no ⟨p, q, ns, c, x, y⟩)
  clear h HA
  by_cases h0 : q = 0
  · subst h0
    have HE := Lib.hid (H0.out (.inl rfl))
    go_enter Tryz.func24, Tryz.ntmps24
    go_wp2_with fail
    go_ret
    exact ⟨ret_bool (by rw [HE.out]; exact HZ.out), HB.out⟩
  · by_cases h1 : q = 1
    · subst h1
      have HE := Lib.hid (H0.out (.inr (.inl rfl)))
      go_enter Tryz.func24, Tryz.ntmps24
      go_wp2_with fail
      go_ret
      exact ⟨ret_bool (by rw [HE.out]; exact HZ.out), HB.out⟩
    · by_cases h4 : q = 4
      · subst h4
        have HE := Lib.hid (H0.out (.inr (.inr rfl)))
        go_enter Tryz.func24, Tryz.ntmps24
        go_wp2_with fail
        go_ret
        exact ⟨ret_bool (by rw [HE.out]; exact HZ.out), HB.out⟩
      · by_cases h2 : q = 2
        · subst h2
          have HE := Lib.hid (H2.out (.inl rfl))
          go_enter Tryz.func24, Tryz.ntmps24
          go_wp2_with (go_at_call 40; refine HAb.out.mono ?_; rintro e w2 ⟨rfl, rfl⟩)
          go_ret
          exact ⟨ret_bool (by rw [HE.out]), HB.out⟩
        · by_cases h3 : q = 3
          · subst h3
            have HE := Lib.hid (H2.out (.inr rfl))
            go_enter Tryz.func24, Tryz.ntmps24
            go_wp2_with (go_at_call 40; refine HAb.out.mono ?_; rintro e w2 ⟨rfl, rfl⟩)
            go_ret
            exact ⟨ret_bool (by rw [HE.out]), HB.out⟩
          · by_cases h5 : q = 5
            · subst h5
              have HE := Lib.hid (H5.out rfl)
              cases ns with
              | nil =>
                have HPP : Hid (decide (0 < (p.length : Int)) = !p.isEmpty) := by
                  cases p with
                  | nil => rfl
                  | cons a b => exact decide_eq_true (by simp)
                go_enter Tryz.func24, Tryz.ntmps24
                go_wp2_with fail
                go_ret
                exact ⟨ret_bool (by rw [HE.out]; simpa using HPP.out), HB.out⟩
              | cons a b =>
                have b0 : (((b.length + 1 : Nat) : Int) == 0) = false := beq_no (by omega)
                go_enter Tryz.func24, Tryz.ntmps24
                go_wp2_with fail
                go_ret
                exact ⟨ret_bool (by rw [HE.out]; rfl), HB.out⟩
            · have b0 := beq_no h0
              have b1 := beq_no h1
              have b2 := beq_no h2
              have b3 := beq_no h3
              have b4 := beq_no h4
              have b5 := beq_no h5
              have HE := Lib.hid (HN.out (by simp only; omega))
              clear h0 h1 h2 h3 h4 h5
              go_enter Tryz.func24, Tryz.ntmps24
              go_wp2_with fail
              go_ret
              exact ⟨ret_bool (by rw [HE.out]), HB.out⟩
set_option maxRecDepth 100000 in
set_option maxHeartbeats 4000000 in
theorem isCut_any (s : Spc) (a1 a2 : Option Addr) (c1 c2 : Nat) (w : World) :
    Calls Tryz.prog 25 #[spV s a1 a2 c1 c2] w fun e w' => e = .returned (.bool (cutOk s)) ∧ Below w.heap.size w w' := by
  obtain ⟨p, q, ns, c, x, y⟩ := s
  unfold spV
  simp only
  have HI := Lib.hid isNumber_any
  have HB : Hid (Below w.heap.size w (w.alloc (boxO p q ns c x y a1 a2 c1 c2))) := (Below.refl _ _).alloc (Nat.le_refl _) _
  unfold boxO at HB
  cases c with
  | false =>
    have HE : Hid (cutOk ⟨p, q, ns, false, x, y⟩ = (decide (x = 0) && decide (y = 0))) := rfl
    by_cases h0 : x = 0
    · subst h0
      have HY : Hid ((y == 0) = decide (y = 0)) := by
        unfold Hid
        by_cases h : y = 0
        · subst h; rfl
        · rw [beq_no h, decide_eq_false h]
      go_enter Tryz.func25, Tryz.ntmps25
      go_wp2_with fail
      go_ret
      exact ⟨ret_bool (by rw [HE.out, HY.out]; simp), HB.out⟩
    · have b0 := beq_no h0
      have HX : Hid (decide (x = 0) = false) := decide_eq_false h0
      clear h0
      go_enter Tryz.func25, Tryz.ntmps25
      go_wp2_with fail
      go_ret
      exact ⟨ret_bool (by rw [HE.out, HX.out]; rfl), HB.out⟩
  | true =>
    have HE : Hid (cutOk ⟨p, q, ns, true, x, y⟩ = (numOk 0 x && numOk 1 y)) := rfl
    have HI1 := Lib.hid (HI.out x 0)
    have HI2 := Lib.hid (HI.out y 1)
    obtain ⟨b1, hb1⟩ : ∃ b, b = numOk 0 x := ⟨_, rfl⟩
    obtain ⟨b2, hb2⟩ : ∃ b, b = numOk 1 y := ⟨_, rfl⟩
    rw [← hb1] at HI1 HE
    rw [← hb2] at HI2 HE
    clear hb1 hb2
    cases b1 with
    | false =>
      go_enter Tryz.func25, Tryz.ntmps25
      go_wp2_with fail
      with_reducible refine (HI1.out _).mono ?_
      rintro e w2 ⟨rfl, rfl⟩
      go_wp2_with fail
      go_ret
      exact ⟨ret_bool (by rw [HE.out]; rfl), HB.out⟩
    | true =>
      go_enter Tryz.func25, Tryz.ntmps25
      go_wp2_with fail
      with_reducible refine (HI1.out _).mono ?_
      rintro e w2 ⟨rfl, rfl⟩
      go_wp2_with fail
      with_reducible refine (HI2.out _).mono ?_
      rintro e w2 ⟨rfl, rfl⟩
      go_wp2_with fail
      go_ret
      exact ⟨ret_bool (by rw [HE.out]; rfl), HB.out⟩
def errS (b : Bool) : Value := .int .i64 (if b = true then 0 else 1)
set_option maxRecDepth 100000 in
set_option maxHeartbeats 4000000 in
theorem check_any (s : Spc) (a1 a2 : Option Addr) (c1 c2 : Nat) (w : World) (h : SpA w s a1 a2 c1 c2) :
    Calls Tryz.prog 12 #[spV s a1 a2 c1 c2] w fun e w' => e = .returned (errS (checkS s)) ∧ Below w.heap.size w w' := by
  have HIs := Lib.hid (fun W (hb : Below w.heap.size w W) => isPath_any s.path a1 c1 W (h.below hb).rp)
  have HWh := Lib.hid (fun W (hb : Below w.heap.size w W) => isWhat_any s a1 a2 c1 c2 W (h.below hb))
  have HCu := Lib.hid (fun W => isCut_any s a1 a2 c1 c2 W)
  have HE : Hid (checkS s = (pathOk s.path && (whatOk s && cutOk s))) := rfl
  clear h
  obtain ⟨b1, hb1⟩ : ∃ b, b = pathOk s.path := ⟨_, rfl⟩
  obtain ⟨b2, hb2⟩ : ∃ b, b = whatOk s := ⟨_, rfl⟩
  obtain ⟨b3, hb3⟩ : ∃ b, b = cutOk s := ⟨_, rfl⟩
  rw [← hb1] at HIs HE
  rw [← hb2] at HWh HE
  rw [← hb3] at HCu HE
  clear hb1 hb2 hb3
  obtain ⟨k, hk⟩ : ∃ k, k = checkS s := ⟨_, rfl⟩
  rw [← hk] at HE ⊢
  clear hk
  obtain ⟨p, q, ns, c, x, y⟩ := s
  unfold spV at HWh HCu ⊢
  simp only at HWh HCu HIs ⊢
  have HB : Hid (Below w.heap.size w (w.alloc (boxO p q ns c x y a1 a2 c1 c2))) := (Below.refl _ _).alloc (Nat.le_refl _) _
  unfold boxO at HB
  have HIb := Lib.hid (HIs.out _ HB.out)
  have HWb := Lib.hid (HWh.out _ HB.out)
  clear HIs HWh
  obtain ⟨W1, hW1⟩ : ∃ W1, W1 = w.alloc (.cells #[.slice a1 p.length c1, .int .i64 q, .slice a2 ns.length c2, .bool c, .int .i64 x, .int .i64 y] 26) := ⟨_, rfl⟩
  have hsz : W1.heap.size = w.heap.size + 1 := by rw [hW1]; simp
  have hbx : Box W1 w.heap.size (.slice a1 p.length c1) q (.slice a2 ns.length c2) c x y := by rw [hW1]; exact heap_alloc_new w _
  rw [← hW1] at HB HIb HWb
  obtain ⟨R, hR⟩ : ∃ R, R = w.heap.size := ⟨_, rfl⟩
  rw [← hR] at hbx
  have HR := Lib.hid hR
  clear hR
  have HBx := Lib.hid hbx
  have HW1 := Lib.hid hW1.symm
  clear hW1 hsz
  obtain ⟨k0, k1, k2, k3, k4, k5⟩ := hbx.c
  cases b1 with
  | false =>
    cases k with
    | true => cases HE.out
    | false =>
      go_enter Tryz.func12, Tryz.ntmps12
      go_wp2_with fail
      rw [HW1.out]
      with_reducible refine HIb.out.mono ?_
      rintro e w2 ⟨rfl, rfl⟩
      go_wp2_with fail
      go_ret
      exact ⟨rfl, HB.out⟩
  | true =>
    cases b2 with
    | false =>
      cases k with
      | true => cases HE.out
      | false =>
        go_enter Tryz.func12, Tryz.ntmps12
        go_wp2_with fail
        rw [HW1.out, ← HR.out]
        with_reducible refine HIb.out.mono ?_
        rintro e w2 ⟨rfl, rfl⟩
        go_wp2_with fail
        with_reducible refine HWb.out.mono ?_
        rintro e w2 ⟨rfl, hb2⟩
        go_wp2_with fail
        go_ret
        exact ⟨rfl, HB.out.trans (hb2.mono HB.out.size)⟩
    | true =>
      have hk : k = b3 := by rw [HE.out]; simp
      subst hk
      go_enter Tryz.func12, Tryz.ntmps12
      go_wp2_with fail
      rw [HW1.out, ← HR.out]
      with_reducible refine HIb.out.mono ?_
      rintro e w2 ⟨rfl, rfl⟩
      go_wp2_with fail
      with_reducible refine HWb.out.mono ?_
      rintro e w2 ⟨rfl, hb2⟩
      have HB2 := Lib.hid (HB.out.trans (hb2.mono HB.out.size))
      have HBx2 := Lib.hid (HBx.out.below hb2)
      clear hb2 k0 k1 k2 k3 k4 k5
      obtain ⟨k0, k1, k2, k3, k4, k5⟩ := HBx2.out.c
      have HCb := Lib.hid (HCu.out w2)
      go_wp2_with fail
      with_reducible refine HCb.out.mono ?_
      rintro e w3 ⟨rfl, hb3⟩
      have HB3 := Lib.hid (HB2.out.trans (hb3.mono HB2.out.size))
      clear hb3
      cases k with
      | false =>
        go_wp2_with fail
        go_ret
        exact ⟨rfl, HB3.out⟩
      | true =>
        go_wp2_with fail
        go_ret
        exact ⟨rfl, HB3.out⟩
end Go.Proofs.YthcleaflhljdlaaGreatDoor
