/- Contracts of package section: Check, whole. -/
import Derived.Test.YteallnjbpikhhaaGreatDoorGbFeN
import Derived.Test.YteallnjbpikhhaaGreatDoorGbHdrH
namespace Go.Proofs.YteallnjbpikhhaaGreatDoor
open Go Go.RowKit

def boxO (p : List Int) (q : Int) (ns : List (List UInt8)) (c : Bool) (x y : Int) (a1 a2 : Option Addr) (c1 c2 : Nat) : Obj :=
  .cells #[.slice a1 p.length c1, .int .i64 q, .slice a2 ns.length c2, .bool c, .int .i64 x, .int .i64 y] 41
theorem len_zeroB {α : Type} (l : List α) : ((l.length : Int) == 0) = l.isEmpty := by
  cases l with
  | nil => rfl
  | cons x r =>
    rw [beq_no (by simp; omega)]
    rfl
theorem whatOk_024 (s : Spc) (h : s.what = 0 ∨ s.what = 1 ∨ s.what = 4) : whatOk s = s.names.isEmpty := by unfold whatOk; rw [if_pos h]
theorem whatOk_23 (s : Spc) (h : s.what = 2 ∨ s.what = 3) : whatOk s = namesOk s.names := by unfold whatOk; rw [if_neg (by omega), if_pos h]
theorem whatOk_5 (s : Spc) (h : s.what = 5) : whatOk s = (s.names.isEmpty && !s.path.isEmpty) := by unfold whatOk; rw [if_neg (by omega), if_neg (by omega), if_pos h]
theorem whatOk_no (s : Spc) (h : ¬ (s.what = 0 ∨ s.what = 1 ∨ s.what = 2 ∨ s.what = 3 ∨ s.what = 4 ∨ s.what = 5)) : whatOk s = false := by unfold whatOk; rw [if_neg (by omega), if_neg (by omega), if_neg (by omega)]
set_option maxRecDepth 100000 in
set_option maxHeartbeats 4000000 in
theorem isWhat_any (s : Spc) (a1 a2 : Option Addr) (c1 c2 : Nat) (w : World) (h : SpA w s a1 a2 c1 c2) :
    Calls Tryz.prog 53 #[spV s a1 a2 c1 c2] w fun e w' => e = .returned (.bool (whatOk s)) ∧ Below w.heap.size w w' := by
  obtain ⟨p, q, ns, c, x, y⟩ := s
  unfold spV
  simp only
  have HA := Lib.hid (fun W (hb : Below w.heap.size w W) => areNames_any ns a2 c2 W (h.below hb).rn h.hn)
  have HB : Hid (Below w.heap.size w (w.alloc (boxO p q ns c x y a1 a2 c1 c2))) := (Below.refl _ _).alloc (Nat.le_refl _) _
  unfold boxO at HB
  have HAb := Lib.hid (HA.out _ HB.out)
  have HZ := Lib.hid (len_zeroB ns)
  have HP := Lib.hid (len_zeroB p)
  have H0 := Lib.hid (whatOk_024 ⟨p, q, ns, c, x, y⟩)
  have H2 := Lib.hid (whatOk_23 ⟨p, q, ns, c, x, y⟩)
  have H5 := Lib.hid (whatOk_5 ⟨p, q, ns, c, x, y⟩)
  have HN := Lib.hid (whatOk_no ⟨p, q, ns, c, x, y⟩)
  clear h HA
  by_cases h0 : q = 0
  · subst h0
    have HE := Lib.hid (H0.out (.inl rfl))
    go_enter Tryz.func53, Tryz.ntmps53
    go_wp2_with fail
    go_ret
    exact ⟨ret_bool (by rw [HE.out]; exact HZ.out), HB.out⟩
  · by_cases h1 : q = 1
    · subst h1
      have HE := Lib.hid (H0.out (.inr (.inl rfl)))
      go_enter Tryz.func53, Tryz.ntmps53
      go_wp2_with fail
      go_ret
      exact ⟨ret_bool (by rw [HE.out]; exact HZ.out), HB.out⟩
    · by_cases h4 : q = 4
      · subst h4
        have HE := Lib.hid (H0.out (.inr (.inr rfl)))
        go_enter Tryz.func53, Tryz.ntmps53
        go_wp2_with fail
        go_ret
        exact ⟨ret_bool (by rw [HE.out]; exact HZ.out), HB.out⟩
      · by_cases h2 : q = 2
        · subst h2
          have HE := Lib.hid (H2.out (.inl rfl))
          go_enter Tryz.func53, Tryz.ntmps53
          go_wp2_with (go_at_call 83; refine HAb.out.mono ?_; rintro e w2 ⟨rfl, rfl⟩)
          go_ret
          exact ⟨ret_bool (by rw [HE.out]), HB.out⟩
        · by_cases h3 : q = 3
          · subst h3
            have HE := Lib.hid (H2.out (.inr rfl))
            go_enter Tryz.func53, Tryz.ntmps53
            go_wp2_with (go_at_call 83; refine HAb.out.mono ?_; rintro e w2 ⟨rfl, rfl⟩)
            go_ret
            exact ⟨ret_bool (by rw [HE.out]), HB.out⟩
          · by_cases h5 : q = 5
            · subst h5
              have HE := Lib.hid (H5.out rfl)
              cases ns with
              | nil =>
                have HPP : Hid (decide (0 < (p.length : Int)) = !p.isEmpty) := by
                  cases p with
                  | nil => rfl
                  | cons a b => exact decide_eq_true (by simp)
                go_enter Tryz.func53, Tryz.ntmps53
                go_wp2_with fail
                go_ret
                exact ⟨ret_bool (by rw [HE.out]; simpa using HPP.out), HB.out⟩
              | cons a b =>
                have b0 : (((b.length + 1 : Nat) : Int) == 0) = false := beq_no (by omega)
                go_enter Tryz.func53, Tryz.ntmps53
                go_wp2_with fail
                go_ret
                exact ⟨ret_bool (by rw [HE.out]; rfl), HB.out⟩
            · have b0 := beq_no h0
              have b1 := beq_no h1
              have b2 := beq_no h2
              have b3 := beq_no h3
              have b4 := beq_no h4
              have b5 := beq_no h5
              have HE := Lib.hid (HN.out (by simp only; omega))
              clear h0 h1 h2 h3 h4 h5
              go_enter Tryz.func53, Tryz.ntmps53
              go_wp2_with fail
              go_ret
              exact ⟨ret_bool (by rw [HE.out]), HB.out⟩
set_option maxRecDepth 100000 in
set_option maxHeartbeats 4000000 in
theorem isCut_any (s : Spc) (a1 a2 : Option Addr) (c1 c2 : Nat) (w : World) :
    Calls Tryz.prog 54 #[spV s a1 a2 c1 c2] w fun e w' => e = .returned (.bool (cutOk s)) ∧ Below w.heap.size w w' := by
  obtain ⟨p, q, ns, c, x, y⟩ := s
  unfold spV
  simp only
  have HI := Lib.hid isNumber_any
  have HB : Hid (Below w.heap.size w (w.alloc (boxO p q ns c x y a1 a2 c1 c2))) := (Below.refl _ _).alloc (Nat.le_refl _) _
  unfold boxO at HB
  cases c with
  | false =>
    have HE : Hid (cutOk ⟨p, q, ns, false, x, y⟩ = (decide (x = 0) && decide (y = 0))) := rfl
    by_cases h0 : x = 0
    · subst h0
      have HY : Hid ((y == 0) = decide (y = 0)) := by
        unfold Hid
        by_cases h : y = 0
        · subst h; rfl
        · rw [beq_no h, decide_eq_false h]
      go_enter Tryz.func54, Tryz.ntmps54
      go_wp2_with fail
      go_ret
      exact ⟨ret_bool (by rw [HE.out, HY.out]; simp), HB.out⟩
    · have b0 := beq_no h0
      have HX : Hid (decide (x = 0) = false) := decide_eq_false h0
      clear h0
      go_enter Tryz.func54, Tryz.ntmps54
      go_wp2_with fail
      go_ret
      exact ⟨ret_bool (by rw [HE.out, HX.out]; rfl), HB.out⟩
  | true =>
    have HE : Hid (cutOk ⟨p, q, ns, true, x, y⟩ = (numOk 0 x && numOk 1 y)) := rfl
    have HI1 := Lib.hid (HI.out x 0)
    have HI2 := Lib.hid (HI.out y 1)
    obtain ⟨b1, hb1⟩ : ∃ b, b = numOk 0 x := ⟨_, rfl⟩
    obtain ⟨b2, hb2⟩ : ∃ b, b = numOk 1 y := ⟨_, rfl⟩
    rw [← hb1] at HI1 HE
    rw [← hb2] at HI2 HE
    clear hb1 hb2
    cases b1 with
    | false =>
      go_enter Tryz.func54, Tryz.ntmps54
      go_wp2_with fail
      with_reducible refine (HI1.out _).mono ?_
      rintro e w2 ⟨rfl, rfl⟩
      go_wp2_with fail
      go_ret
      exact ⟨ret_bool (by rw [HE.out]; rfl), HB.out⟩
    | true =>
      go_enter Tryz.func54, Tryz.ntmps54
      go_wp2_with fail
      with_reducible refine (HI1.out _).mono ?_
      rintro e w2 ⟨rfl, rfl⟩
      go_wp2_with fail
      with_reducible refine (HI2.out _).mono ?_
      rintro e w2 ⟨rfl, rfl⟩
      go_wp2_with fail
      go_ret
      exact ⟨ret_bool (by rw [HE.out]; rfl), HB.out⟩
def errC (b : Bool) : Value := .int .i64 (if b = true then 0 else 1)
set_option maxRecDepth 100000 in
set_option maxHeartbeats 4000000 in
theorem check_any (s : Spc) (a1 a2 : Option Addr) (c1 c2 : Nat) (w : World) (h : SpA w s a1 a2 c1 c2) :
    Calls Tryz.prog 34 #[spV s a1 a2 c1 c2] w fun e w' => e = .returned (errC (checkS s)) ∧ Below w.heap.size w w' := by
  have HIs := Lib.hid (fun W (hb : Below w.heap.size w W) => isPath_any s.path a1 c1 W (h.below hb).rp)
  have HWh := Lib.hid (fun W (hb : Below w.heap.size w W) => isWhat_any s a1 a2 c1 c2 W (h.below hb))
  have HCu := Lib.hid (fun W => isCut_any s a1 a2 c1 c2 W)
  have HE : Hid (checkS s = (pathOk s.path && (whatOk s && cutOk s))) := rfl
  clear h
  obtain ⟨b1, hb1⟩ : ∃ b, b = pathOk s.path := ⟨_, rfl⟩
  obtain ⟨b2, hb2⟩ : ∃ b, b = whatOk s := ⟨_, rfl⟩
  obtain ⟨b3, hb3⟩ : ∃ b, b = cutOk s := ⟨_, rfl⟩
  rw [← hb1] at HIs HE
  rw [← hb2] at HWh HE
  rw [← hb3] at HCu HE
  clear hb1 hb2 hb3
  obtain ⟨k, hk⟩ : ∃ k, k = checkS s := ⟨_, rfl⟩
  rw [← hk] at HE ⊢
  clear hk
  obtain ⟨p, q, ns, c, x, y⟩ := s
  unfold spV at HWh HCu ⊢
  simp only at HWh HCu HIs ⊢
  have HB : Hid (Below w.heap.size w (w.alloc (boxO p q ns c x y a1 a2 c1 c2))) := (Below.refl _ _).alloc (Nat.le_refl _) _
  unfold boxO at HB
  have HIb := Lib.hid (HIs.out _ HB.out)
  have HWb := Lib.hid (HWh.out _ HB.out)
  clear HIs HWh
  obtain ⟨W1, hW1⟩ : ∃ W1, W1 = w.alloc (.cells #[.slice a1 p.length c1, .int .i64 q, .slice a2 ns.length c2, .bool c, .int .i64 x, .int .i64 y] 41) := ⟨_, rfl⟩
  have hsz : W1.heap.size = w.heap.size + 1 := by rw [hW1]; simp
  have hbx : Box W1 w.heap.size (.slice a1 p.length c1) q (.slice a2 ns.length c2) c x y := by rw [hW1]; exact heap_alloc_new w _
  rw [← hW1] at HB HIb HWb
  obtain ⟨R, hR⟩ : ∃ R, R = w.heap.size := ⟨_, rfl⟩
  rw [← hR] at hbx
  have HR := Lib.hid hR
  clear hR
  have HBx := Lib.hid hbx
  have HW1 := Lib.hid hW1.symm
  clear hW1 hsz
  obtain ⟨k0, k1, k2, k3, k4, k5⟩ := hbx.c
  cases b1 with
  | false =>
    cases k with
    | true => cases HE.out
    | false =>
      go_enter Tryz.func34, Tryz.ntmps34
      go_wp2_with fail
      rw [HW1.out]
      with_reducible refine HIb.out.mono ?_
      rintro e w2 ⟨rfl, rfl⟩
      go_wp2_with fail
      go_ret
      exact ⟨rfl, HB.out⟩
  | true =>
    cases b2 with
    | false =>
      cases k with
      | true => cases HE.out
      | false =>
        go_enter Tryz.func34, Tryz.ntmps34
        go_wp2_with fail
        rw [HW1.out, ← HR.out]
        with_reducible refine HIb.out.mono ?_
        rintro e w2 ⟨rfl, rfl⟩
        go_wp2_with fail
        with_reducible refine HWb.out.mono ?_
        rintro e w2 ⟨rfl, hb2⟩
        go_wp2_with fail
        go_ret
        exact ⟨rfl, HB.out.trans (hb2.mono HB.out.size)⟩
    | true =>
      have hk : k = b3 := by rw [HE.out]; simp
      subst hk
      go_enter Tryz.func34, Tryz.ntmps34
      go_wp2_with fail
      rw [HW1.out, ← HR.out]
      with_reducible refine HIb.out.mono ?_
      rintro e w2 ⟨rfl, rfl⟩
      go_wp2_with fail
      with_reducible refine HWb.out.mono ?_
      rintro e w2 ⟨rfl, hb2⟩
      have HB2 := Lib.hid (HB.out.trans (hb2.mono HB.out.size))
      have HBx2 := Lib.hid (HBx.out.below hb2)
      clear hb2 k0 k1 k2 k3 k4 k5
      obtain ⟨k0, k1, k2, k3, k4, k5⟩ := HBx2.out.c
      have HCb := Lib.hid (HCu.out w2)
      go_wp2_with fail
      with_reducible refine HCb.out.mono ?_
      rintro e w3 ⟨rfl, hb3⟩
      have HB3 := Lib.hid (HB2.out.trans (hb3.mono HB2.out.size))
      clear hb3
      cases k with
      | false =>
        go_wp2_with fail
        go_ret
        exact ⟨rfl, HB3.out⟩
      | true =>
        go_wp2_with fail
        go_ret
        exact ⟨rfl, HB3.out⟩
end Go.Proofs.YteallnjbpikhhaaGreatDoor

/- Contracts of package fetch: bytesOf, Cut; bytes.Clone. -/
namespace Go.Proofs.YteallnjbpikhhaaGreatDoor
open Go Go.RowKit

def bytesPost (l : List UInt8) (w : World) (e : Ending) (w' : World) : Prop := ∃ u, e = .returned u ∧ bytesArg w' u l ∧ Below w.heap.size w w'
theorem bytesArg_nil (W : World) : bytesArg W (.slice none 0 0) [] := ⟨none, 0, rfl, Nat.le_refl _, Nat.zero_le _, .inl rfl⟩
set_option maxRecDepth 100000 in
set_option maxHeartbeats 1000000 in
theorem bytesOf_any (v : Value) (l : List UInt8) (F T : Nat) (w : World) (hv : bytesArg w v l) (hft : F ≤ T) (htl : T ≤ l.length) :
    Calls Tryz.prog 56 #[v, .agg #[.int .i64 (F : Int), .int .i64 (T : Int)]] w (bytesPost (partS l F T) w) := by
  obtain ⟨ao, cap, rfl, hc, hm, hs⟩ := hv
  have HW := Lib.hid (within_any (F : Int) (T : Int) (l.length : Int))
  have HE := Lib.hid (withinB_yes (f := (F : Int)) (t := (T : Int)) (n := (l.length : Int)) (by omega))
  have HS : Hid (sliceAt w ao l) := hs
  unfold maxLen at hm
  unfold bytesPost
  clear hs
  go_enter Tryz.func56, Tryz.ntmps56
  go_wp2_with fail
  with_reducible refine (HW.out _).mono ?_
  rintro e w1 ⟨rfl, hb1⟩
  rw [HE.out]
  have HB1 := Lib.hid hb1
  obtain ⟨c0, c1⟩ := box2_cells hb1
  clear hb1
  have HB : Hid (Below w.heap.size w w1) := ((Below.refl _ _).alloc (Nat.le_refl _) _).trans (HB1.out.mono (by simp))
  have HSc := Lib.hid (sliceAt.cut HS.out F T)
  have HL := Lib.hid (partS_len l (a := F) htl)
  by_cases hcF : cap = F
  · subst hcF
    go_wp2
    go_ret
    exact ⟨.slice ao (T - cap) 0, rfl, ⟨ao, 0, by rw [HL.out], by rw [HL.out]; omega, Nat.zero_le _, .inl (List.eq_nil_of_length_eq_zero (by rw [HL.out]; omega))⟩, HB.out⟩
  · go_wp2
    go_ret
    exact ⟨.slice (ao.map fun x => x.add F) (T - F) (cap - F), rfl, ⟨_, cap - F, by rw [HL.out], by rw [HL.out]; omega, by unfold maxLen; omega, sliceAt.below HSc.out HB.out⟩, HB.out⟩
set_option maxRecDepth 100000 in
set_option maxHeartbeats 1000000 in
theorem clone_any (v : Value) (l : List UInt8) (w : World) (hv : bytesArg w v l) (hbig : l.length ≤ 1000000) :
    Calls Tryz.prog 17 #[v] w (bytesPost l w) := by
  obtain ⟨ao, cap, rfl, hc, hm, hs⟩ := hv
  unfold bytesPost
  obtain ⟨i0, hi0, hz0, hz1, hz2⟩ := info_parts Tryz.infoB
  have knil : ∀ (W : World) (a : Option Addr) (n c n' c' : Nat), (binOp .eql 22 (.slice a n c) (.slice none n' c')).run Tryz.prog W = .ok (.bool a.isNone) W := fun W a n c n' c' => Lib.run_eql_slice_nil W _ _ a n c n' c' Tryz.underlying22
  cases ao with
  | none =>
    obtain rfl : l = [] := by
      rcases hs with h | ⟨b, off, h, _⟩
      · exact h
      · cases h
    clear hs
    go_enter Tryz.func17, Tryz.ntmps17
    go_wp2
    go_ret
    exact ⟨_, rfl, bytesArg_nil _, Below.refl _ _⟩
  | some ad =>
    have HS := Lib.hid hs
    have HO := Lib.hid (World.ownsRow_made (base := w.heap.size) (e := 5) (size := 1) w #[] 0 (Nat.le_refl _) (Nat.zero_le _) rfl)
    have HI0 := Lib.hid hi0
    have HZ0 := Lib.hid hz0
    have HZ1 := Lib.hid hz1
    have HZ2 := Lib.hid hz2
    clear hs hi0 hz0 hz1 hz2
    go_enter Tryz.func17, Tryz.ntmps17
    go_wp2_with (at_builtin; refine wpList_append_bytes rfl _ _ 22 rfl w.heap.size 5 i0 Tryz.underlying22 HI0.out HZ0.out HZ1.out HZ2.out _ _ _ rfl HO.out (some ad) cap l rfl (sliceAt.below HS.out ((Below.refl _ _).alloc (Nat.le_refl _) _)) (by omega) (by simp) ?_)
    intro v4 w4 hown4 hgrow4
    have HB4 : Hid (Below w.heap.size w w4) := ((Below.refl _ _).alloc (Nat.le_refl _) _).grown hgrow4 (by simp) (fun q hq => (HO.out.lt q hq).1)
    have HO4 : Hid (bytesArg w4 v4 l) := bytesArg_owned hown4
    clear hown4 hgrow4
    go_wp2_with fail
    go_ret
    exact ⟨_, rfl, HO4.out, HB4.out⟩
end Go.Proofs.YteallnjbpikhhaaGreatDoor

/- Contracts of package fetch: Cut. -/
namespace Go.Proofs.YteallnjbpikhhaaGreatDoor
open Go Go.RowKit

set_option maxRecDepth 100000 in
set_option maxHeartbeats 1000000 in
theorem cut16_any (v : Value) (l : List UInt8) (f m : Int) (w : World) (hv : bytesArg w v l) (hbig : l.length ≤ 1000000) :
    Calls Tryz.prog 22 #[v, .int .i64 f, .int .i64 m] w (bytesPost (cut16 l f m) w) := by
  obtain ⟨ao, cap, rfl, hc, hm, hs⟩ := hv
  have HS : Hid (sliceAt w ao l) := hs
  unfold maxLen at hm
  unfold bytesPost
  clear hs
  by_cases h1 : f < 0
  · have HE := Lib.hid (cut16_no (x := l) (m := m) (.inl h1))
    go_enter Tryz.func22, Tryz.ntmps22
    go_wp2
    go_ret
    rw [HE.out]
    exact ⟨_, rfl, bytesArg_nil _, Below.refl _ _⟩
  · by_cases h2 : (l.length : Int) < f
    · have HE := Lib.hid (cut16_no (x := l) (m := m) (.inr (.inl h2)))
      go_enter Tryz.func22, Tryz.ntmps22
      go_wp2
      go_ret
      rw [HE.out]
      exact ⟨_, rfl, bytesArg_nil _, Below.refl _ _⟩
    · by_cases h3 : m < 1
      · have HE := Lib.hid (cut16_no (x := l) (f := f) (.inr (.inr h3)))
        go_enter Tryz.func22, Tryz.ntmps22
        go_wp2
        go_ret
        rw [HE.out]
        exact ⟨_, rfl, bytesArg_nil _, Below.refl _ _⟩
      · obtain ⟨F, rfl⟩ : ∃ F : Nat, f = F := ⟨f.toNat, by omega⟩
        obtain ⟨M, rfl⟩ : ∃ M : Nat, m = M := ⟨m.toNat, by omega⟩
        have hFl : F ≤ l.length := by omega
        have HE : Hid (cut16 l (F : Int) (M : Int) = (l.drop F).take M) := cut16_yes (by omega)
        have HC := Lib.hid (fun v' l' W h h' => clone_any v' l' W h h')
        unfold bytesPost at HC
        obtain ⟨d, hd⟩ : ∃ d, d = l.drop F := ⟨_, rfl⟩
        have hdl : d.length = l.length - F := by rw [hd, List.length_drop]
        have HD := Lib.hid hd
        have HDL := Lib.hid hdl
        rw [← hd] at HE
        obtain ⟨n, hn⟩ : ∃ n, n = l.length - F := ⟨_, rfl⟩
        have HN := Lib.hid hn
        by_cases hcF : cap = F
        · subst hcF
          have hl0 : l.length = cap := by omega
          have hd0 : d = [] := List.eq_nil_of_length_eq_zero (by omega)
          have HR : Hid (cut16 l (cap : Int) (M : Int) = []) := by unfold Hid; rw [HE.out, hd0]; simp
          have hmin : ¬ (M : Int) < 0 := by omega
          clear hd hdl hn hd0
          go_enter Tryz.func22, Tryz.ntmps22
          go_wp2_with fail
          with_reducible refine (HC.out _ [] _ ?k1 ?k2).mono ?_
          case k1 =>
            have e : (min (M : Int) 0).toNat = 0 := by omega
            rw [e]
            exact ⟨ao, 0, rfl, Nat.le_refl _, Nat.zero_le _, .inl rfl⟩
          case k2 => exact Nat.zero_le _
          rintro e w2 ⟨u, rfl, hu, hb⟩
          have HU := Lib.hid hu
          have HB := Lib.hid hb
          clear hu hb
          go_wp2_with fail
          go_ret
          rw [HR.out]
          exact ⟨u, rfl, HU.out, HB.out⟩
        · have hs' : sliceAt w (ao.map fun x => x.add F) d := by
            have := sliceAt.cut HS.out F l.length
            rw [HD.out]
            have e : partS l F l.length = l.drop F := by unfold partS; rw [List.take_of_length_le (by rw [List.length_drop]; omega)]
            rwa [e] at this
          have HSd := Lib.hid hs'
          clear hd hdl hs' hn
          go_enter Tryz.func22, Tryz.ntmps22
          go_wp2_with fail
          with_reducible refine (HC.out _ (d.take M) _ ?k1 ?k2).mono ?_
          case k1 =>
            have e : (min (M : Int) ((l.length - F : Nat) : Int)).toNat = (d.take M).length := by
              rw [List.length_take, HDL.out]
              omega
            rw [e]
            exact ⟨_, cap - F, rfl, by rw [List.length_take, HDL.out]; omega, by unfold maxLen; omega, HSd.out.take M⟩
          case k2 => rw [List.length_take, HDL.out]; omega
          rintro e w2 ⟨u, rfl, hu, hb⟩
          have HU := Lib.hid hu
          have HB := Lib.hid hb
          clear hu hb
          go_wp2_with fail
          go_ret
          rw [HE.out]
          exact ⟨u, rfl, HU.out, HB.out⟩
end Go.Proofs.YteallnjbpikhhaaGreatDoor
