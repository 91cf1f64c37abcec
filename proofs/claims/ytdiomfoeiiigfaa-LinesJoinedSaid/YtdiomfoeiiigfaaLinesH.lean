/- Contracts of the document's lines: Of. -/
import Derived.Test.YtdiomfoeiiigfaaLinesF
import Derived.Test.YtdiomfoeiiigfaaLinesG
namespace Go.Proofs.Ytdiomfoeiiigfaa
open Go Go.RowKit

theorem scan_ten {l : List UInt8} {T a i : Nat} (hi : i < T) (h : l.getD i 0 = 10) : scanL l (T - i) a i = ⟨a, endA l a i, i + 1⟩ :: scanL l (T - (i + 1)) (i + 1) (i + 1) := by
  rw [show T - i = (T - (i + 1)) + 1 by omega, scanL, if_pos h]
theorem scan_not {l : List UInt8} {T a i : Nat} (hi : i < T) (h : ¬ l.getD i 0 = 10) : scanL l (T - i) a i = scanL l (T - (i + 1)) a (i + 1) := by
  rw [show T - i = (T - (i + 1)) + 1 by omega, scanL, if_neg h]
theorem scan_end_yes {l : List UInt8} {T a : Nat} (h : a < T) : scanL l (T - T) a T = [⟨a, T, T⟩] := by
  rw [Nat.sub_self, scanL, if_pos h]
theorem scan_end_no {l : List UInt8} {T a : Nat} (h : ¬ a < T) : scanL l (T - T) a T = [] := by
  rw [Nat.sub_self, scanL, if_neg h]
theorem getD_str (s : ByteArray) (i : Nat) (h : i < s.size) : s.data.toList.getD i 0 = s[i] := by
  rw [List.getD_eq_getElem?_getD, bytes_get s i h]
  rfl
theorem lnCells_own {w : World} {base : Nat} {e : TypeId} {v : Value} {qs : List Ln} {m : Nat} {xs : List Value} (h : w.ownsRow base e 3 v m xs) (h1 : m = qs.length) (h2 : xs = lnCells qs) : w.ownsRow base e 3 v qs.length (lnCells qs) := by
  subst h1 h2
  exact h
theorem snoc_own {w : World} {base : Nat} {e : TypeId} {v : Value} {pre : List Ln} {x y z : Int} (a b c : Nat) (h : w.ownsRow base e 3 v (pre.length + 1) (lnCells pre ++ [.int .i64 x, .int .i64 y, .int .i64 z])) (h1 : x = (a : Int)) (h2 : y = (b : Int)) (h3 : z = (c : Int)) :
    w.ownsRow base e 3 v (pre ++ [(⟨a, b, c⟩ : Ln)]).length (lnCells (pre ++ [(⟨a, b, c⟩ : Ln)])) := by
  subst h1 h2 h3
  rw [lnCells_snoc, List.length_append]
  exact h
theorem three_one (x y z : Int) : ∀ u ∈ [Value.int .i64 x, .int .i64 y, .int .i64 z], u.oneCell' = true := by
  intro u hu
  simp only [List.mem_cons, List.not_mem_nil, or_false] at hu
  rcases hu with rfl | rfl | rfl <;> rfl
theorem endA_yes {l : List UInt8} {a i : Nat} (h1 : a < i) (h2 : l.getD (i - 1) 0 = 13) : endA l a i = i - 1 := by unfold endA; rw [if_pos ⟨h1, h2⟩]
theorem endA_no {l : List UInt8} {a i : Nat} (h2 : ¬ l.getD (i - 1) 0 = 13) : endA l a i = i := by unfold endA; rw [if_neg (fun h => h2 h.2)]
theorem endA_at {l : List UInt8} {i : Nat} : endA l i i = i := by unfold endA; rw [if_neg (fun h => Nat.lt_irrefl _ h.1)]
theorem Try.infoR : (Try.prog.info? 37).map (fun i => (i.zero, i.size, i.bytes)) = some (some (.agg #[.int .i64 0, .int .i64 0, .int .i64 0]), 3, 24) := by kernel_rfl

set_option maxHeartbeats 2000000 in
theorem refOf_any (s : ByteArray) (f t : Int) (w : World) (hbig : s.size ≤ 1048576) :
    Calls Try.prog 9 #[.string s, .int .i64 f, .int .i64 t] w fun e w' => ∃ u, e = .returned u ∧ w'.ownsRow w.heap.size 37 3 u (linesZ s.data.toList f t).length (lnCells (linesZ s.data.toList f t)) ∧ Below w.heap.size w w' := by
  obtain ⟨i0, hi0, hz0, hz1, hz2⟩ := info_parts Try.infoR
  have hsl := len_toList s
  have HW := Lib.hid (refWithin_any f t (s.size : Int) w)
  rcases Bool.eq_false_or_eq_true (withinB f t s.size) with hw | hw
  · have hw' := of_decide_eq_true hw
    obtain ⟨F, rfl⟩ : ∃ F : Nat, f = F := ⟨f.toNat, by omega⟩
    obtain ⟨T, rfl⟩ : ∃ T : Nat, t = T := ⟨t.toNat, by omega⟩
    have hft : F ≤ T := by omega
    have htl : T ≤ s.size := by omega
    have HE := Lib.hid hw
    have HL : Hid (linesZ s.data.toList (F : Int) (T : Int) = linesS s.data.toList F T) := by unfold Hid linesZ; rw [hsl, if_pos hw]; rfl
    clear hw hw' hsl
    go_enter Try.func9, Try.ntmps9
    go_wp2_with fail
    with_reducible refine HW.out.mono ?_
    rintro e w1 ⟨rfl, rfl⟩
    rw [HE.out]
    go_wp2
    go_loopg [8, 9, 10] (T - F) (fun q o av iv wr => ∃ (i a : Nat) (pre : List Ln), F ≤ a ∧ a ≤ i ∧ i ≤ T ∧ q = T - i ∧ av = .int .i64 a ∧ iv = .int .i64 i ∧ pre.length ≤ i ∧ Hid (linesS s.data.toList F T = pre ++ scanL s.data.toList (T - i) a i) ∧ Hid (wr.ownsRow w.heap.size 37 3 o pre.length (lnCells pre)) ∧ Hid (Below w.heap.size w wr))
    case atStart => exact ⟨F, F, [], Nat.le_refl _, Nat.le_refl _, hft, rfl, rfl, rfl, Nat.zero_le _, rfl, World.ownsRow_nil _ _ _ _, Below.refl _ _⟩
    case round =>
      obtain ⟨i, a, pre, h1, h2, h3, rfl, rfl, rfl, hpl, HP, HO, HB⟩ := hrel
      by_cases hlt : i < T
      · have his : i < s.size := by omega
        by_cases h10 : s[i] = 10
        · have ht10 : ((s[i].toNat : Int) == 10) = true := by rw [h10]; rfl
          have HS := Lib.hid (scan_ten (l := s.data.toList) (a := a) hlt (by rw [getD_str s i his]; exact h10))
          clear h10
          by_cases hai : a < i
          · by_cases h13 : s[i - 1] = 13
            · have ht13 : ((s[i - 1].toNat : Int) == 13) = true := by rw [h13]; rfl
              have HEA := Lib.hid (endA_yes (l := s.data.toList) hai (by rw [getD_str s (i - 1) (by omega)]; exact h13))
              clear h13
              go_wp2_with (at_builtin; refine wpList_append_own _ rfl _ _ 30 rfl w.heap.size 37 i0 (.agg #[.int .i64 0, .int .i64 0, .int .i64 0]) 3 24 Try.underlying30 hi0 hz0 hz1 hz2 rfl (by decide) _ _ _ rfl (HO.out.alloc _) ⟨wr.heap.size, 0, none⟩ 1 1 [.int .i64 (a : Int), .int .i64 ((i : Int) - 1), .int .i64 ((i : Int) + 1)] rfl rfl (cells_three_new _ _ _ _ _) (three_one _ _ _) ?c3 ?c4 ?c5 ?_)
              case c3 => unfold maxLen; omega
              case c4 => omega
              case c5 => simp; have := HB.out.size; omega
              intro v' w2 hown2 hgrow2 _
              have HO2 := Lib.hid (snoc_own a (i - 1) (i + 1) hown2 (by omega) (by omega) (by omega))
              have HB2 : Hid (Below w.heap.size w w2) := (HB.out.alloc HB.out.size _).grown hgrow2 (by have := HB.out.size; simp; omega) (fun q hq => (HO.out.lt q hq).1)
              clear hown2 hgrow2
              go_wp2
              go_roundg (T - (i + 1))
              case measure => omega
              case rel => exact ⟨i + 1, i + 1, _, by omega, Nat.le_refl _, by omega, rfl, by go_num, by go_num, by simp; omega, by unfold Hid; rw [HP.out, HS.out, HEA.out]; simp, HO2, HB2⟩
            · have ht13 : ((s[i - 1].toNat : Int) == 13) = false := beq_no fun e => h13 (toNat_eq (by show s[i - 1].toNat = 13; omega))
              have HEA := Lib.hid (endA_no (l := s.data.toList) (a := a) (by rw [getD_str s (i - 1) (by omega)]; exact h13))
              clear h13
              go_wp2_with (at_builtin; refine wpList_append_own _ rfl _ _ 30 rfl w.heap.size 37 i0 (.agg #[.int .i64 0, .int .i64 0, .int .i64 0]) 3 24 Try.underlying30 hi0 hz0 hz1 hz2 rfl (by decide) _ _ _ rfl (HO.out.alloc _) ⟨wr.heap.size, 0, none⟩ 1 1 [.int .i64 (a : Int), .int .i64 (i : Int), .int .i64 ((i : Int) + 1)] rfl rfl (cells_three_new _ _ _ _ _) (three_one _ _ _) ?c3 ?c4 ?c5 ?_)
              case c3 => unfold maxLen; omega
              case c4 => omega
              case c5 => simp; have := HB.out.size; omega
              intro v' w2 hown2 hgrow2 _
              have HO2 := Lib.hid (snoc_own a i (i + 1) hown2 (by omega) (by omega) (by omega))
              have HB2 : Hid (Below w.heap.size w w2) := (HB.out.alloc HB.out.size _).grown hgrow2 (by have := HB.out.size; simp; omega) (fun q hq => (HO.out.lt q hq).1)
              clear hown2 hgrow2
              go_wp2
              go_roundg (T - (i + 1))
              case measure => omega
              case rel => exact ⟨i + 1, i + 1, _, by omega, Nat.le_refl _, by omega, rfl, by go_num, by go_num, by simp; omega, by unfold Hid; rw [HP.out, HS.out, HEA.out]; simp, HO2, HB2⟩
          · obtain rfl : a = i := by omega
            have HEA := Lib.hid (endA_at (l := s.data.toList) (i := a))
            go_wp2_with (at_builtin; refine wpList_append_own _ rfl _ _ 30 rfl w.heap.size 37 i0 (.agg #[.int .i64 0, .int .i64 0, .int .i64 0]) 3 24 Try.underlying30 hi0 hz0 hz1 hz2 rfl (by decide) _ _ _ rfl (HO.out.alloc _) ⟨wr.heap.size, 0, none⟩ 1 1 [.int .i64 (a : Int), .int .i64 (a : Int), .int .i64 ((a : Int) + 1)] rfl rfl (cells_three_new _ _ _ _ _) (three_one _ _ _) ?c3 ?c4 ?c5 ?_)
            case c3 => unfold maxLen; omega
            case c4 => omega
            case c5 => simp; have := HB.out.size; omega
            intro v' w2 hown2 hgrow2 _
            have HO2 := Lib.hid (snoc_own a a (a + 1) hown2 (by omega) (by omega) (by omega))
            have HB2 : Hid (Below w.heap.size w w2) := (HB.out.alloc HB.out.size _).grown hgrow2 (by have := HB.out.size; simp; omega) (fun q hq => (HO.out.lt q hq).1)
            clear hown2 hgrow2
            go_wp2
            go_roundg (T - (a + 1))
            case measure => omega
            case rel => exact ⟨a + 1, a + 1, _, by omega, Nat.le_refl _, by omega, rfl, by go_num, by go_num, by simp; omega, by unfold Hid; rw [HP.out, HS.out, HEA.out]; simp, HO2, HB2⟩
        · have ht10 : ((s[i].toNat : Int) == 10) = false := beq_no fun e => h10 (toNat_eq (by show s[i].toNat = 10; omega))
          have HS := Lib.hid (scan_not (l := s.data.toList) (a := a) hlt (by rw [getD_str s i his]; exact h10))
          clear h10
          go_wp2
          go_roundg (T - (i + 1))
          case measure => omega
          case rel => exact ⟨i + 1, a, pre, h1, by omega, by omega, rfl, rfl, by go_num, by omega, by unfold Hid; rw [HP.out, HS.out], HO, HB⟩
      · obtain rfl : i = T := by omega
        by_cases hat : a < i
        · have HS := Lib.hid (scan_end_yes (l := s.data.toList) hat)
          go_wp2_with (at_builtin; refine wpList_append_own _ rfl _ _ 30 rfl w.heap.size 37 i0 (.agg #[.int .i64 0, .int .i64 0, .int .i64 0]) 3 24 Try.underlying30 hi0 hz0 hz1 hz2 rfl (by decide) _ _ _ rfl (HO.out.alloc _) ⟨wr.heap.size, 0, none⟩ 1 1 [.int .i64 (a : Int), .int .i64 (i : Int), .int .i64 (i : Int)] rfl rfl (cells_three_new _ _ _ _ _) (three_one _ _ _) ?c3 ?c4 ?c5 ?_)
          case c3 => unfold maxLen; omega
          case c4 => omega
          case c5 => simp; have := HB.out.size; omega
          intro v' w2 hown2 hgrow2 _
          have HO2 := Lib.hid (snoc_own a i i hown2 (by omega) (by omega) (by omega))
          have HB2 : Hid (Below w.heap.size w w2) := (HB.out.alloc HB.out.size _).grown hgrow2 (by have := HB.out.size; simp; omega) (fun q hq => (HO.out.lt q hq).1)
          clear hown2 hgrow2
          go_wp2
          go_ret
          exact ⟨_, rfl, lnCells_own HO2.out (by rw [HL.out, HP.out, HS.out]) (by rw [HL.out, HP.out, HS.out]), HB2.out⟩
        · have HS := Lib.hid (scan_end_no (l := s.data.toList) hat)
          go_wp2
          go_ret
          exact ⟨_, rfl, lnCells_own HO.out (by rw [HL.out, HP.out, HS.out]; simp) (by rw [HL.out, HP.out, HS.out]; simp), HB.out⟩
  · have HE := Lib.hid hw
    have HL : Hid (linesZ s.data.toList f t = []) := by unfold Hid linesZ; rw [hsl, hw]; rfl
    clear hw hsl
    go_enter Try.func9, Try.ntmps9
    go_wp2_with fail
    with_reducible refine HW.out.mono ?_
    rintro e w1 ⟨rfl, rfl⟩
    rw [HE.out]
    go_wp2
    go_ret
    refine ⟨_, rfl, ?_, Below.refl _ _⟩
    rw [HL.out]
    exact World.ownsRow_nil _ _ _ _
end Go.Proofs.Ytdiomfoeiiigfaa
