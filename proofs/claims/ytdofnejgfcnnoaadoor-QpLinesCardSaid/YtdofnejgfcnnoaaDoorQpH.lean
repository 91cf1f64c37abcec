/- Contract of the document's answer for quoted-printable: Encode. -/
import Derived.Test.YtdofnejgfcnnoaaDoorQpG
import Derived.BigQuiet
import Derived.Deep.QuietTactic
namespace Go.Proofs.YtdofnejgfcnnoaaDoor
open Go Go.RowKit

theorem encB_one' {c : UInt8} (h : seenB c = true) (h1 : c ≠ 61) : encB c = [c] := by unfold encB; rw [if_pos ⟨h, h1⟩]
theorem encB_three' {c : UInt8} (h : ¬ (seenB c = true ∧ c ≠ 61)) : encB c = [61, digB (c.toNat / 16), digB (c.toNat % 16)] := by unfold encB; rw [if_neg h]
theorem encQ_snoc' (l : List UInt8) (c : UInt8) : encQ (l ++ [c]) = encQ l ++ encB c := by rw [encQ_append, encQ_cons]; simp [encQ]
theorem digU_cut (x : Nat) (h : x < 16) : (digU.extract x (x + 1)).data.toList = [digB x] := by
  rw [extract_toList, drop_cons digU x h, digU_at x h]
  simp
theorem str_cut (s : ByteArray) (k : Nat) (h : k < s.size) : (s.extract k (k + 1)).data.toList = [s[k]] := by
  rw [extract_toList, drop_cons s k h]
  simp
theorem enc_cases (c : UInt8) :
    (32 < c.toNat ∧ c.toNat < 127 ∧ ((c.toNat : Int) != 61) = true ∧ Hid (encB c = [c])) ∨
    (c.toNat ≤ 32 ∧ Hid (encB c = [61, digB (c.toNat / 16), digB (c.toNat % 16)])) ∨
    (32 < c.toNat ∧ 127 ≤ c.toNat ∧ Hid (encB c = [61, digB (c.toNat / 16), digB (c.toNat % 16)])) ∨
    (32 < c.toNat ∧ c.toNat < 127 ∧ ((c.toNat : Int) != 61) = false ∧ Hid (encB c = [61, digB (c.toNat / 16), digB (c.toNat % 16)])) := by
  by_cases h1 : 32 < c.toNat
  · by_cases h2 : c.toNat < 127
    · by_cases h3 : c = 61
      · exact .inr (.inr (.inr ⟨h1, h2, by rw [h3]; rfl, encB_three' fun h => h.2 h3⟩))
      · exact .inl ⟨h1, h2, bne_yes fun e => h3 (toNat_eq (by show c.toNat = 61; omega)), encB_one' ((seenB_iff c).2 (by omega)) h3⟩
    · exact .inr (.inr (.inl ⟨h1, by omega, encB_three' fun h => by have := (seenB_iff c).1 h.1; omega⟩))
  · exact .inr (.inl ⟨by omega, encB_three' fun h => by have := (seenB_iff c).1 h.1; omega⟩)

set_option maxRecDepth 100000 in
set_option maxHeartbeats 1000000 in
theorem refEncode_any (s : ByteArray) (w : World) (hs : s.size ≤ 65536) :
    Calls Tryd.prog 11 #[.string s] w fun e w' => ∃ T : ByteArray, e = .returned (.string T) ∧ T.data.toList = encQ s.data.toList ∧ ∃ n, w' = w.drewN n := by
  go_enter Tryd.func11, Tryd.ntmps11
  go_wp2
  go_loopg [3, 4] s.size (fun g o v wr => ∃ (k : Nat) (O : ByteArray), k ≤ s.size ∧ g = s.size - k ∧ v = .int .i64 k ∧ o = .string O ∧ O.size ≤ 3 * k ∧ Hid (O.data.toList = encQ (s.data.toList.take k)) ∧ Hid (∃ n, wr = w.drewN n))
  case atStart => exact ⟨0, ⟨#[]⟩, by omega, by omega, rfl, rfl, Nat.zero_le _, rfl, 0, rfl⟩
  case round =>
    obtain ⟨k, O, hk, rfl, rfl, rfl, hO, HO, HW⟩ := hrel
    by_cases hlt : k < s.size
    · have HT := Lib.hid (take_snoc s k hlt)
      have hct := s[k].toNat_lt
      have HC1 := Lib.hid (str_cut s k hlt)
      have hz : (s.extract k (k + 1)).size = 1 := by rw [extract_size' s k (k + 1) (by omega)]; omega
      have HZ := Lib.hid hz
      clear hz
      rcases enc_cases s[k] with ⟨q1, q2, q3, HE⟩ | ⟨q1, HE⟩ | ⟨q1, q2, HE⟩ | ⟨q1, q2, q3, HE⟩
      · go_wp2
        go_roundg (s.size - (k + 1))
        case measure => omega
        case rel =>
          refine ⟨k + 1, O ++ s.extract k (k + 1), by omega, rfl, by go_num, rfl, by rw [ByteArray.size_append, HZ.out]; omega, ?_, HW⟩
          unfold Hid
          rw [cat_toList, HC1.out, HO.out, HT.out, encQ_snoc', HE.out]
      all_goals
        have c0 : s[k].toNat / 16 < 16 := by omega
        have c1 : s[k].toNat % 16 < 16 := by omega
        go_wp2
        go_quiet (fail)
        go_wp2
        go_roundg (s.size - (k + 1))
        case measure => omega
        case rel =>
          obtain ⟨n, hn⟩ := HW.out
          refine ⟨k + 1, _, by omega, rfl, by go_num, rfl, ?_, ?_, ?_⟩
          · have z1 := extract_size' digU (s[k].toNat / 16) (s[k].toNat / 16 + 1) c0
            have z2 := extract_size' digU (s[k].toNat % 16) (s[k].toNat % 16 + 1) c1
            unfold digU at z1 z2
            rw [ByteArray.size_append, ByteArray.size_append, ByteArray.size_append, z1, z2]
            show O.size + (1 + _ + _) ≤ _
            omega
          · have y1 := digU_cut _ c0
            have y2 := digU_cut _ c1
            unfold digU at y1 y2
            unfold Hid
            rw [cat_toList, cat_toList, cat_toList, y1, y2, HO.out, HT.out, encQ_snoc', HE.out]
            rfl
          · rw [hn]
            exact ⟨_, World.drewN_drewN _ _ _⟩
    · go_wp2
      go_ret
      exact ⟨O, rfl, by rw [HO.out, take_all s k hlt], HW.out⟩
end Go.Proofs.YtdofnejgfcnnoaaDoor
