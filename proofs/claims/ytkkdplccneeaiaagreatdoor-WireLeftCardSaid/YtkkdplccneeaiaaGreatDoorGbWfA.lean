/- Layer 18: contracts of package wire: the head that a text ends in. -/
import Derived.Test.YtkkdplccneeaiaaGreatDoorGbWrI
import Derived.Test.YtkkdplccneeaiaaGreatDoorGbWiN
namespace Go.Proofs.YtkkdplccneeaiaaGreatDoor
open Go Go.RowKit

/-- Where the last byte of a kind stands. -/
def LastAt (l : List UInt8) (r : Int) : Prop := (r = -1 ∧ lastW 123 l = none) ∨ ∃ k : Nat, k < l.length ∧ r = (k : Int) ∧ l.drop k = 123 :: l.drop (k + 1) ∧ lastW 123 l = some (l.drop (k + 1))
theorem lastAt_none {l : List UInt8} (h : ∀ m, (hm : m < l.length) → l[m] ≠ 123) : LastAt l (-1) := by
  refine .inl ⟨rfl, lastW_no 123 fun hm => ?_⟩
  obtain ⟨m, hm, e⟩ := List.getElem_of_mem hm
  exact h m hm e
theorem lastAt_some {l : List UInt8} {k : Nat} (hk : k < l.length) (h : l[k] = 123) (h2 : ∀ m, (hm : m < l.length) → k < m → l[m] ≠ 123) : LastAt l (k : Int) := by
  have e : l.drop k = 123 :: l.drop (k + 1) := by rw [List.drop_eq_getElem_cons hk, h]
  refine .inr ⟨k, hk, rfl, e, ?_⟩
  have h3 : (123 : UInt8) ∉ l.drop (k + 1) := by
    intro hm
    obtain ⟨m, hm, e⟩ := List.getElem_of_mem hm
    rw [List.getElem_drop] at e
    rw [List.length_drop] at hm
    exact h2 (k + 1 + m) (by omega) (by omega) e
  have := lastW_at 123 (l.take k) (l.drop (k + 1)) h3
  rw [← e, List.take_append_drop] at this
  exact this
set_option maxRecDepth 100000 in
theorem lastIx_any (b o n cap : Nat) (l : List UInt8) (w : World) (hn : l.length = n) (hm : n ≤ 1000000000) (hs : sliceAt w (some ⟨b, o, none⟩) l) :
    Calls Tryz.prog 69 #[.slice (some ⟨b, o, none⟩) n cap, .int .u8 123] w fun e w' => ∃ r : Int, e = .returned (.int .i64 r) ∧ LastAt l r ∧ w = w' := by
  subst hn
  have HS := Lib.hid hs
  clear hs
  go_enter Tryz.func69, Tryz.ntmps69
  go_wp2_with fail
  go_loopg [5] l.length (fun g v wr => ∃ (j : Nat) (x : Int), g = j ∧ j ≤ l.length ∧ v = .int .i64 x ∧ x = (j : Int) - 1 ∧ w = wr ∧ Hid (∀ m, (hm : m < l.length) → j ≤ m → l[m] ≠ 123))
  case atStart => exact ⟨l.length, (l.length : Int) - 1, rfl, Nat.le_refl _, rfl, rfl, rfl, fun m hm h => by omega⟩
  case round =>
    obtain ⟨j, x, hg, hj, rfl, hx, rfl, HN⟩ := hrel
    cases j with
    | zero =>
      subst hg
      obtain rfl : x = -1 := by omega
      clear hx
      go_wp2_with fail
      go_ret
      exact ⟨-1, rfl, lastAt_none fun m hm => HN.out m hm (Nat.zero_le m), rfl⟩
    | succ k =>
      subst hg
      obtain rfl : x = (k : Int) := by omega
      clear hx
      have hk : k < l.length := by omega
      have hki : (k : Int) < (l.length : Int) := by omega
      have hk0 : (0 : Int) ≤ (k : Int) := by omega
      obtain ⟨b', o', e', _, hc⟩ := HS.out.cell k hk
      obtain ⟨rfl, rfl⟩ : b' = b ∧ o' = o := by cases e'; exact ⟨rfl, rfl⟩
      by_cases h123 : l[k] = 123
      · have hb : ((l[k].toNat : Int) == 123) = true := by rw [h123]; rfl
        have H := Lib.hid h123
        clear h123
        go_wp2_with fail
        go_ret
        exact ⟨(k : Int), rfl, lastAt_some hk H.out fun m hm h => HN.out m hm (by omega), rfl⟩
      · have hb : ((l[k].toNat : Int) == 123) = false := beq_no (fun e => h123 (toNat_eq (by show l[k].toNat = _; exact Int.ofNat.inj e)))
        have H := Lib.hid h123
        clear h123
        go_wp2_with fail
        go_roundg k
        case measure => omega
        case rel =>
          refine ⟨k, (k : Int) - 1, rfl, by omega, rfl, rfl, rfl, fun m hm h => ?_⟩
          by_cases e : m = k
          · subst e; exact H.out
          · exact HN.out m hm (by omega)
set_option maxRecDepth 100000 in
theorem lastIndex_any (b o n cap : Nat) (l : List UInt8) (w : World) (hn : l.length = n) (hm : n ≤ 1000000000) (hs : sliceAt w (some ⟨b, o, none⟩) l) :
    Calls Tryz.prog 59 #[.slice (some ⟨b, o, none⟩) n cap, .int .u8 123] w fun e w' => ∃ r : Int, e = .returned (.int .i64 r) ∧ LastAt l r ∧ w = w' := by
  have HL := Lib.hid (lastIx_any b o n cap l w hn hm hs)
  clear hs
  go_enter Tryz.func59, Tryz.ntmps59
  go_wp2_with fail
  with_reducible refine HL.out.mono ?_
  rintro e w1 ⟨r, rfl, hr, rfl⟩
  go_wp2_with fail
  go_ret
  exact ⟨r, rfl, hr, rfl⟩
theorem endH_of {l b : List UInt8} (h : lastW 123 l = some b) : endH l = (headB b).bind fun p => if p.2.2 = [] then some (p.1, p.2.1) else none := by
  unfold endH
  rw [h]
  simp only
  cases hb : headB b with
  | none => rfl
  | some p =>
    obtain ⟨n, w, q⟩ := p
    cases q <;> simp
theorem endH_none {l : List UInt8} (h : lastW 123 l = none) : endH l = none := by
  unfold endH
  rw [h]
/-- What 'lastHead' answers. -/
def LhW (t : List UInt8) (w : World) (e : Ending) (w' : World) : Prop :=
  ∃ (n : Nat) (u x : Bool), e = .returned (.tuple #[.agg #[.int .i64 (n : Int), .bool u], .bool x]) ∧ Below w.heap.size w w' ∧ endH t = if x = true then some (n, !u) else none
set_option maxRecDepth 100000 in
set_option maxHeartbeats 4000000 in
theorem wlastHead_any (b o cap n : Nat) (t : List UInt8) (w : World) (hn : t.length = n) (hc : n ≤ cap) (hm : cap ≤ maxLen) (hsm : n ≤ 1000000000) (hlt : b < w.heap.size) (hs : sliceAt w (some ⟨b, o, none⟩) t) :
    Calls Tryz.prog 41 #[.slice (some ⟨b, o, none⟩) n cap] w (LhW t w) := by
  subst hn
  obtain ⟨w0, hw0⟩ : ∃ x, x = w.alloc (.cells #[.int .i64 0, .bool false] 68) := ⟨_, rfl⟩
  have HB0 : Hid (B2 w0 w.heap.size 68 (.int .i64 0) (.bool false)) := by unfold Hid; rw [hw0]; exact B2.new _ _ _ _
  have HA0 : Hid (Below w.heap.size w w0) := by unfold Hid; rw [hw0]; exact (Below.refl _ _).alloc (Nat.le_refl _) _
  have HS0 := Lib.hid (hs.below HA0.out)
  have HL := Lib.hid (lastIndex_any b o t.length cap t w0 rfl hsm HS0.out)
  have HW0 := Lib.hid hw0
  have hlt0 : b < w0.heap.size := Nat.lt_of_lt_of_le hlt HA0.out.size
  have HW : Hid (∀ (W : World) (u v : Value), Below w.heap.size W ((W.setCell ⟨w.heap.size, 0, none⟩ u).setCell ⟨w.heap.size, 1, none⟩ v)) := fun W u v => ((Below.refl w.heap.size W).setCell (p := ⟨w.heap.size, 0, none⟩) (Nat.le_refl _) u).setCell (p := ⟨w.heap.size, 1, none⟩) (Nat.le_refl _) v
  clear hs
  go_enter Tryz.func41, Tryz.ntmps41
  go_wp2_with fail
  rw [← HW0.out]
  clear hw0
  with_reducible refine HL.out.mono ?_
  rintro e w1 ⟨r, rfl, hr, rfl⟩
  have c0 := HB0.out.c0
  have c1 := HB0.out.c1
  have f0 := HB0.out.f 0
  have f1 := HB0.out.f 1
  rcases hr with ⟨rfl, hr⟩ | ⟨k, hk, rfl, hd, hr⟩
  · have HE := Lib.hid (endH_none hr)
    clear hr
    go_wp2_with fail
    (try simp only [Exit.inBlock, Exit.then])
    refine bodyPost_ret (results_cell_rowW (P := Tryz.prog) Tryz.results41 _ _ w.heap.size 68 _ (0, 0) _ rfl ((HB0.out.set0 (.int .i64 0)).set1 (.bool false)) Tryz.underlying68 rfl (by kernel_rfl)) rfl ?_
    exact ⟨0, false, false, rfl, HA0.out.trans (HW.out _ _ _), by rw [HE.out]; rfl⟩
  · have hk0 : ¬ (k : Int) < 0 := by omega
    have hE := endH_of hr
    obtain ⟨w2, hw2⟩ : ∃ x, x = w0.alloc (.cells #[.slice (some ⟨b, o, none⟩) t.length cap, .int .i64 (k : Int)] 52) := ⟨_, rfl⟩
    have HB2 : Hid (Below w.heap.size w w2) := by unfold Hid; rw [hw2]; exact HA0.out.alloc HA0.out.size _
    have HN2 : Hid (Go.Proofs.YtkkdplccneeaiaaGreatDoor.B2 w2 w.heap.size 68 (.int .i64 0) (.bool false)) := by unfold Hid; rw [hw2]; exact HB0.out.below ((Below.refl _ _).alloc (Nat.le_refl _) _)
    have HR2 : Hid (Rb w2 w0.heap.size b o cap t k) := by
      have h2 : Go.Proofs.YtkkdplccneeaiaaGreatDoor.B2 w2 w0.heap.size 52 (.slice (some ⟨b, o, none⟩) t.length cap) (.int .i64 (k : Int)) := by rw [hw2]; exact B2.new _ _ _ _
      have hb : Below w0.heap.size w0 w2 := by rw [hw2]; exact (Below.refl _ _).alloc (Nat.le_refl _) _
      refine ⟨h2.c0, h2.c1, h2.f 1, by omega, hc, hm, hsm, by have := hb.size; omega, fun j hj => ?_⟩
      rcases HS0.out.below hb with h | ⟨b', o', e', _, h⟩
      · rw [h] at hj; simp at hj
      · cases e'; exact h j hj
    have HH := Lib.hid (whead_any w0.heap.size b o cap t k w2 HR2.out (Nat.le_of_lt hk))
    unfold HdW at HH
    have HW2 := Lib.hid hw2
    have hwz : w.heap.size < w0.heap.size := HB0.out.lt
    have HD := Lib.hid hd
    have HEE := Lib.hid hE
    clear hr hd hE c0 c1 f0 f1
    go_wp2_with fail
    rw [← HW2.out]
    clear hw2
    with_reducible refine HH.out.mono ?_
    rintro e w3 ⟨n, u, x, k3, rfl, hr3, hk3, hg3, hh3⟩
    have HR3 := Lib.hid hr3
    have HB3 := Lib.hid (HB2.out.trans (hg3.toBelow (by omega) HB2.out.size))
    have HN3 := Lib.hid (HN2.out.gr hg3 (by omega))
    have HX : Hid (endH t = if (x && (k3 == t.length)) = true then some (n, !u) else none) := by
      unfold Hid
      rw [HEE.out]
      rw [HD.out] at hh3
      have e0 : headW (123 :: t.drop (k + 1)) = headB (t.drop (k + 1)) := by simp [headW]
      rw [e0] at hh3
      rw [hh3]
      cases x with
      | false => rfl
      | true =>
        rw [if_pos rfl, Bool.true_and, Option.bind_some]
        by_cases e3 : k3 = t.length
        · have : t.drop k3 = [] := List.drop_eq_nil_of_le (by omega)
          rw [if_pos this, if_pos (by simpa using e3)]
        · have : ∃ c r, t.drop k3 = c :: r := ⟨_, _, List.drop_eq_getElem_cons (by omega : k3 < t.length)⟩
          obtain ⟨c, r, e4⟩ := this
          rw [if_neg (by rw [e4]; simp), if_neg (by simpa using e3)]
    obtain ⟨w4, hw4⟩ : ∃ x, x = w3.alloc (.cells #[.int .i64 (n : Int), .bool u] 68) := ⟨_, rfl⟩
    have ha4 : Below w3.heap.size w3 w4 := by rw [hw4]; exact (Below.refl _ _).alloc (Nat.le_refl _) _
    have HB4 : Hid (Below w.heap.size w w4) := HB3.out.trans (ha4.mono HB3.out.size)
    have HR4 := Lib.hid (HR3.out.below ha4)
    have HN4 := Lib.hid (HN3.out.below ha4)
    have HH4 : Hid (Go.Proofs.YtkkdplccneeaiaaGreatDoor.B2 w4 w3.heap.size 68 (.int .i64 (n : Int)) (.bool u)) := by unfold Hid; rw [hw4]; exact B2.new _ _ _ _
    have HW4 := Lib.hid hw4
    have hk3b : (k3 == t.length) = decide ((k3 : Int) = (t.length : Int)) := by
      rw [Bool.eq_iff_iff, beq_iff_eq, decide_eq_true_iff]
      omega
    clear hr3 hg3 hh3 hw4 ha4 HH
    go_wp2_with fail
    rw [← HW4.out]
    have n0 := HH4.out.c0
    have n1 := HH4.out.c1
    have r1 := HR4.out.c1
    have c0 := HN4.out.c0
    have c1 := HN4.out.c1
    have f0 := HN4.out.f 0
    have f1 := HN4.out.f 1
    have hz1 : ¬ w3.heap.size = w.heap.size := by have := HR3.out.ltB; omega
    have hz2 : ¬ w0.heap.size = w.heap.size := by omega
    have hz3 : ¬ w.heap.size = w3.heap.size := by omega
    have hz4 : ¬ w.heap.size = w0.heap.size := by omega
    clear hk3b
    cases x with
    | false =>
      go_region
      all_goals
        go_wp2_with fail
        (try simp only [Exit.inBlock, Exit.then])
        refine bodyPost_ret (results_cell_rowW (P := Tryz.prog) Tryz.results41 _ _ w.heap.size 68 _ (0, 0) _ rfl (((HN4.out.set0 (.int .i64 (n : Int))).set1 (.bool u)).below (Below.refl _ _).drew) Tryz.underlying68 rfl (by kernel_rfl)) rfl ?_
        exact ⟨n, u, false, rfl, HB4.out.trans ((HW.out _ _ _).trans (Below.refl _ _).drew), by rw [HX.out]; rfl⟩
    | true =>
      by_cases e3 : k3 = t.length
      · have b3 : ((k3 : Int) == (t.length : Int)) = true := by rw [e3]; simp
        have HX3 : Hid ((k3 == t.length) = true) := by unfold Hid; simpa using e3
        clear e3
        go_region
        all_goals
          go_wp2_with fail
          (try simp only [Exit.inBlock, Exit.then])
          refine bodyPost_ret (results_cell_rowW (P := Tryz.prog) Tryz.results41 _ _ w.heap.size 68 _ (0, 0) _ rfl (((HN4.out.set0 (.int .i64 (n : Int))).set1 (.bool u)).below (Below.refl _ _).drew) Tryz.underlying68 rfl (by kernel_rfl)) rfl ?_
          exact ⟨n, u, true, rfl, HB4.out.trans ((HW.out _ _ _).trans (Below.refl _ _).drew), by rw [HX.out]; rw [HX3.out]; rfl⟩
      · have b3 : ((k3 : Int) == (t.length : Int)) = false := beq_no (by omega)
        have HX3 : Hid ((k3 == t.length) = false) := by unfold Hid; simpa using e3
        clear e3
        go_region
        all_goals
          go_wp2_with fail
          (try simp only [Exit.inBlock, Exit.then])
          refine bodyPost_ret (results_cell_rowW (P := Tryz.prog) Tryz.results41 _ _ w.heap.size 68 _ (0, 0) _ rfl (((HN4.out.set0 (.int .i64 (n : Int))).set1 (.bool u)).below (Below.refl _ _).drew) Tryz.underlying68 rfl (by kernel_rfl)) rfl ?_
          exact ⟨n, u, false, rfl, HB4.out.trans ((HW.out _ _ _).trans (Below.refl _ _).drew), by rw [HX.out]; rw [HX3.out]; rfl⟩
end Go.Proofs.YtkkdplccneeaiaaGreatDoor
