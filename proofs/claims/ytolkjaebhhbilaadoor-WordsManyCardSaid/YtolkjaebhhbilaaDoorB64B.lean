/- Contracts of package b64: Bare, lines, Encode. -/
import Derived.Test.YtolkjaebhhbilaaDoorB64A
namespace Go.Proofs.YtolkjaebhhbilaaDoor
open Go Go.RowKit

theorem bareS_snoc_gap {l : List UInt8} {c : UInt8} (h : isGap c = true) : bareS (l ++ [c]) = bareS l := by simp [bareS, h]
theorem bareS_snoc {l : List UInt8} {c : UInt8} (h : isGap c = false) : bareS (l ++ [c]) = bareS l ++ [c] := by simp [bareS, h]
theorem bareS_len (l : List UInt8) : (bareS l).length ≤ l.length := List.length_filter_le _ _
theorem gap_of {c : UInt8} {n : Int} (e : ((c.toNat : Int) == n) = true) (h : n = 32 ∨ n = 9 ∨ n = 13 ∨ n = 10) : isGap c = true := by
  have e' : (c.toNat : Int) = n := by simpa using e
  unfold isGap
  have : c = 32 ∨ c = 9 ∨ c = 13 ∨ c = 10 := by
    rcases h with rfl | rfl | rfl | rfl
    · exact .inl (toNat_eq (by show c.toNat = 32; omega))
    · exact .inr (.inl (toNat_eq (by show c.toNat = 9; omega)))
    · exact .inr (.inr (.inl (toNat_eq (by show c.toNat = 13; omega))))
    · exact .inr (.inr (.inr (toNat_eq (by show c.toNat = 10; omega))))
  rcases this with rfl | rfl | rfl | rfl <;> rfl
theorem gap_not {c : UInt8} (h1 : ((c.toNat : Int) == 32) = false) (h2 : ((c.toNat : Int) == 9) = false) (h3 : ((c.toNat : Int) == 13) = false) (h4 : ((c.toNat : Int) == 10) = false) : isGap c = false := by
  simp at h1 h2 h3 h4
  unfold isGap
  have e1 : (c == 32) = false := by rw [beq_eq_false_iff_ne]; rintro rfl; exact h1 rfl
  have e2 : (c == 9) = false := by rw [beq_eq_false_iff_ne]; rintro rfl; exact h2 rfl
  have e3 : (c == 13) = false := by rw [beq_eq_false_iff_ne]; rintro rfl; exact h3 rfl
  have e4 : (c == 10) = false := by rw [beq_eq_false_iff_ne]; rintro rfl; exact h4 rfl
  rw [e1, e2, e3, e4]
  rfl

theorem gap_cases (c : UInt8) :
    (((c.toNat : Int) == 32) = true ∧ Hid (isGap c = true)) ∨
    (((c.toNat : Int) == 32) = false ∧ ((c.toNat : Int) == 9) = true ∧ Hid (isGap c = true)) ∨
    (((c.toNat : Int) == 32) = false ∧ ((c.toNat : Int) == 9) = false ∧ ((c.toNat : Int) == 13) = true ∧ Hid (isGap c = true)) ∨
    (((c.toNat : Int) == 32) = false ∧ ((c.toNat : Int) == 9) = false ∧ ((c.toNat : Int) == 13) = false ∧ ((c.toNat : Int) == 10) = true ∧ Hid (isGap c = true)) ∨
    (((c.toNat : Int) == 32) = false ∧ ((c.toNat : Int) == 9) = false ∧ ((c.toNat : Int) == 13) = false ∧ ((c.toNat : Int) == 10) = false ∧ Hid (isGap c = false)) := by
  rcases Bool.eq_false_or_eq_true ((c.toNat : Int) == 32) with q1 | q1
  · exact .inl ⟨q1, gap_of q1 (by simp)⟩
  rcases Bool.eq_false_or_eq_true ((c.toNat : Int) == 9) with q2 | q2
  · exact .inr (.inl ⟨q1, q2, gap_of q2 (by simp)⟩)
  rcases Bool.eq_false_or_eq_true ((c.toNat : Int) == 13) with q3 | q3
  · exact .inr (.inr (.inl ⟨q1, q2, q3, gap_of q3 (by simp)⟩))
  rcases Bool.eq_false_or_eq_true ((c.toNat : Int) == 10) with q4 | q4
  · exact .inr (.inr (.inr (.inl ⟨q1, q2, q3, q4, gap_of q4 (by simp)⟩)))
  · exact .inr (.inr (.inr (.inr ⟨q1, q2, q3, q4, gap_not q1 q2 q3 q4⟩)))

theorem bare_any (v : Value) (l : List UInt8) (w : World) (hv : bytesArg w v l) (hl : l.length ≤ 1000000) :
    Calls Tryd.prog 34 #[v] w fun e w' => ∃ u, e = .returned u ∧ w'.ownsRow w.heap.size 5 1 u (bareS l).length ((bareS l).map byteV) ∧ Below w.heap.size w w' := by
  obtain ⟨i0, hi, hz0, hz1, hz2⟩ := info_parts Tryd.infoB
  obtain ⟨ao, cap, rfl, hc, hm, hs⟩ := hv
  unfold maxLen at hm
  have HS := Lib.hid hs
  clear hs
  go_enter Tryd.func34, Tryd.ntmps34
  go_wp2
  go_loopg [3, 8] l.length (fun g o v wr => ∃ (k : Nat) (r : List UInt8), k ≤ l.length ∧ g = l.length - k ∧ v = .int .i64 k ∧ r.length ≤ k ∧ wr.ownsRow w.heap.size 5 1 o r.length (r.map byteV) ∧ Hid (r = bareS (l.take k)) ∧ Hid (Below w.heap.size w wr))
  case atStart => exact ⟨0, [], by omega, by omega, rfl, by simp, World.ownsRow_nil _ _ _ _, by unfold Hid; simp [bareS], Below.refl _ _⟩
  case round =>
    obtain ⟨k, r, hk, rfl, rfl, hr, hown, HR, HB⟩ := hrel
    have HO := Lib.hid hown
    clear hown
    by_cases hlt : k < l.length
    · have HT := Lib.hid (take_snocL l k hlt)
      obtain ⟨c, hcc⟩ : ∃ c, c = l[k] := ⟨_, rfl⟩
      have HC := Lib.hid hcc
      rcases HS.out with h0 | ⟨b, off, rfl, hb, hcell⟩
      · rw [h0] at hlt
        simp at hlt
      have hcell' : wr.cell? ⟨b, off + k, none⟩ = some (.int .u8 (c.toNat : Int)) := by
        rw [hcc]
        exact (HB.out.cell (p := ⟨b, off + k, none⟩) hb).trans (hcell k hlt)
      clear hcell hcc
      rcases gap_cases c with ⟨q1, HG⟩ | ⟨q1, q2, HG⟩ | ⟨q1, q2, q3, HG⟩ | ⟨q1, q2, q3, q4, HG⟩ | ⟨q1, q2, q3, q4, HG⟩
      rotate_left 4
      · go_wp2_with (at_builtin; refine wpList_append_own _ rfl _ _ 26 rfl w.heap.size 5 i0 (.int .u8 0) 1 1 Tryd.underlying26 hi hz0 hz1 hz2 rfl (by decide) _ _ _ rfl (HO.out.alloc _) ⟨wr.heap.size, 0, none⟩ 1 1 [byteV c] rfl rfl ?c1 ?c2 ?c3 ?c4 ?c5 ?_)
        case c1 => exact cell_one_new wr _ _
        case c2 => intro u hu; simp at hu; subst hu; rfl
        case c3 => unfold maxLen; omega
        case c4 => omega
        case c5 => simp; have := HB.out.size; omega
        intro v' w1 hown1 hgrow1 _
        have HO1 := Lib.hid hown1
        have HB1 : Hid (Below w.heap.size w w1) := (HB.out.alloc (by have := HB.out.size; omega) _).grown hgrow1 (by have := HB.out.size; simp; omega) (fun q hq => (HO.out.lt q hq).1)
        clear hown1 hgrow1
        go_wp2
        go_roundg (l.length - (k + 1))
        case measure => omega
        case rel =>
          refine ⟨k + 1, r ++ [c], by omega, rfl, by go_num, by simp; omega, ?_, ?_, HB1⟩
          · have := HO1.out
            simpa using this
          · unfold Hid
            rw [HT.out, ← HC.out, bareS_snoc HG.out, HR.out]
      all_goals
        go_wp2
        go_roundg (l.length - (k + 1))
        case measure => omega
        case rel =>
          refine ⟨k + 1, r, by omega, rfl, by go_num, by omega, HO.out, ?_, HB⟩
          unfold Hid
          rw [HT.out, ← HC.out, bareS_snoc_gap HG.out, HR.out]
    · go_wp2
      go_ret
      refine ⟨_, rfl, ?_, HB.out⟩
      have := HO.out
      rw [HR.out, List.take_of_length_le (by omega)] at this
      exact this
end Go.Proofs.YtolkjaebhhbilaaDoor
