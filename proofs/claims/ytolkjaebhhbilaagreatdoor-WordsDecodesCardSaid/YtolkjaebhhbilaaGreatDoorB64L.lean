/- Contracts of the document's answers for base64: lines, Bare. -/
import Derived.Test.YtolkjaebhhbilaaGreatDoorB64K
import Derived.Test.YtolkjaebhhbilaaGreatDoorB64D
import Derived.Outline
namespace Go.Proofs.YtolkjaebhhbilaaGreatDoor
open Go Go.RowKit

theorem gap_neqs (c : UInt8) :
    (((c.toNat : Int) != 32) = false ∧ Hid (isGap c = true)) ∨
    (((c.toNat : Int) != 32) = true ∧ ((c.toNat : Int) != 9) = false ∧ Hid (isGap c = true)) ∨
    (((c.toNat : Int) != 32) = true ∧ ((c.toNat : Int) != 9) = true ∧ ((c.toNat : Int) != 13) = false ∧ Hid (isGap c = true)) ∨
    (((c.toNat : Int) != 32) = true ∧ ((c.toNat : Int) != 9) = true ∧ ((c.toNat : Int) != 13) = true ∧ ((c.toNat : Int) != 10) = false ∧ Hid (isGap c = true)) ∨
    (((c.toNat : Int) != 32) = true ∧ ((c.toNat : Int) != 9) = true ∧ ((c.toNat : Int) != 13) = true ∧ ((c.toNat : Int) != 10) = true ∧ Hid (isGap c = false)) := by
  have e : ∀ n : Int, ((c.toNat : Int) != n) = !((c.toNat : Int) == n) := fun _ => rfl
  rw [e, e, e, e]
  rcases gap_cases c with ⟨q1, HG⟩ | ⟨q1, q2, HG⟩ | ⟨q1, q2, q3, HG⟩ | ⟨q1, q2, q3, q4, HG⟩ | ⟨q1, q2, q3, q4, HG⟩
  · exact .inl ⟨by rw [q1]; rfl, HG⟩
  · exact .inr (.inl ⟨by rw [q1]; rfl, by rw [q2]; rfl, HG⟩)
  · exact .inr (.inr (.inl ⟨by rw [q1]; rfl, by rw [q2]; rfl, by rw [q3]; rfl, HG⟩))
  · exact .inr (.inr (.inr (.inl ⟨by rw [q1]; rfl, by rw [q2]; rfl, by rw [q3]; rfl, by rw [q4]; rfl, HG⟩)))
  · exact .inr (.inr (.inr (.inr ⟨by rw [q1]; rfl, by rw [q2]; rfl, by rw [q3]; rfl, by rw [q4]; rfl, HG⟩)))

set_option maxRecDepth 100000 in
theorem refBare_any (s : ByteArray) (w : World) (hs : s.size ≤ 1000000) :
    Calls Tryz.prog 29 #[.string s] w fun e w' => ∃ T : ByteArray, e = .returned (.string T) ∧ T.data.toList = bareS s.data.toList ∧ Below w.heap.size w w' := by
  obtain ⟨i0, hi, hz0, hz1, hz2⟩ := info_parts Tryz.infoB
  go_enter Tryz.func29, Tryz.ntmps29
  go_wp2
  go_loopg [3, 4] s.size (fun g o v wr => ∃ (k : Nat) (r : List UInt8), k ≤ s.size ∧ g = s.size - k ∧ v = .int .i64 k ∧ r.length ≤ k ∧ wr.ownsRow w.heap.size 5 1 o r.length (r.map byteV) ∧ Hid (r = bareS (s.data.toList.take k)) ∧ Hid (Below w.heap.size w wr))
  case atStart => exact ⟨0, [], by omega, by omega, rfl, by simp, World.ownsRow_nil _ _ _ _, by unfold Hid; simp [bareS], Below.refl _ _⟩
  case round =>
    obtain ⟨k, r, hk, rfl, rfl, hr, hown, HR, HB⟩ := hrel
    have HO := Lib.hid hown
    clear hown
    by_cases hlt : k < s.size
    · have HT := Lib.hid (take_snoc s k hlt)
      rcases gap_neqs s[k] with ⟨q1, HG⟩ | ⟨q1, q2, HG⟩ | ⟨q1, q2, q3, HG⟩ | ⟨q1, q2, q3, q4, HG⟩ | ⟨q1, q2, q3, q4, HG⟩
      rotate_left 4
      · go_wp2_with (at_builtin; refine wpList_append_own _ rfl _ _ 28 rfl w.heap.size 5 i0 (.int .u8 0) 1 1 Tryz.underlying28 hi hz0 hz1 hz2 rfl (by decide) _ _ _ rfl (HO.out.alloc _) ⟨wr.heap.size, 0, none⟩ 1 1 [byteV s[k]] rfl rfl ?c1 ?c2 ?c3 ?c4 ?c5 ?_)
        case c1 => exact cell_one_new wr _ _
        case c2 => exact news_one [s[k]]
        case c3 => unfold maxLen; omega
        case c4 => omega
        case c5 => simp; have := HB.out.size; omega
        intro v' w1 hown1 hgrow1 _
        have HO1 := Lib.hid hown1
        have HB1 : Hid (Below w.heap.size w w1) := (HB.out.alloc (by have := HB.out.size; omega) _).grown hgrow1 (by have := HB.out.size; simp; omega) (fun q hq => (HO.out.lt q hq).1)
        clear hown1 hgrow1
        go_wp2
        go_roundg (s.size - (k + 1))
        case measure => omega
        case rel =>
          refine ⟨k + 1, r ++ [s[k]], by omega, rfl, by go_num, by simp; omega, ?_, ?_, HB1⟩
          · exact own_cast HO1.out (by simp) (by simp)
          · unfold Hid
            rw [HT.out, bareS_snoc HG.out, HR.out]
      all_goals
        go_wp2
        go_roundg (s.size - (k + 1))
        case measure => omega
        case rel =>
          refine ⟨k + 1, r, by omega, rfl, by go_num, by omega, HO.out, ?_, HB⟩
          unfold Hid
          rw [HT.out, bareS_snoc_gap HG.out, HR.out]
    · have hst := run_string_of_owned (P := Tryz.prog) Tryz.underlying28 Tryz.underlying5 Tryz.underlying9 HO.out
      go_wp2
      go_ret
      refine ⟨_, rfl, ?_, HB.out⟩
      rw [List.toList_toArray, HR.out, List.take_of_length_le (by simp; omega)]
end Go.Proofs.YtolkjaebhhbilaaGreatDoor
