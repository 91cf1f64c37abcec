/- Contracts of the document's layer 7: which one has a name, a value that is quoted, a parameter's value. -/
import Derived.Test.YtcnihodikpcfkaaGreatDoorPbC
namespace Go.Proofs.YtcnihodikpcfkaaGreatDoor
open Go Go.RowKit

theorem idx_hit {p : Prm} {ps : List Prm} {nm : List UInt8} (h : p.1 = nm) : idx (p :: ps) nm = some 0 := by
  unfold idx
  rw [List.findIdx?_cons, if_pos (by simpa using h)]
theorem idx_miss {p : Prm} {ps : List Prm} {nm : List UInt8} (h : ¬ p.1 = nm) : idx (p :: ps) nm = (idx ps nm).map (· + 1) := by
  unfold idx
  rw [List.findIdx?_cons, if_neg (by simpa using h)]
theorem idx_zero (ps : List Prm) (nm : List UInt8) : idx ps nm = (idx (ps.drop 0) nm).map (· + 0) := by
  rw [List.drop_zero]
  cases h : idx ps nm <;> rfl
def findV : Option Nat → Int
  | some k => (k : Int)
  | none => -1
set_option maxHeartbeats 1000000 in
theorem refFind_any (v : Value) (ps : List Prm) (nm : ByteArray) (w : World) (hv : prmAt w v ps) :
    Calls Tryz.prog 39 #[v, .string nm] w fun e w' => e = .returned (.int .i64 (findV (idx ps nm.data.toList))) ∧ w = w' := by
  obtain ⟨ao, cap, rfl, hcl, hcm, hcell⟩ := hv
  have HC := Lib.hid hcell
  unfold maxLen at hcm
  clear hcell
  obtain ⟨n, hn⟩ : ∃ n, n = ps.length := ⟨_, rfl⟩
  rw [← hn] at hcl ⊢
  have HN := Lib.hid hn
  clear hn
  go_enter Tryz.func39, Tryz.ntmps39
  go_wp2_with fail
  go_loopg [5] n (fun g v1 wr => ∃ j : Nat, g = n - j ∧ j ≤ n ∧ v1 = .int .i64 (j : Int) ∧ Hid (idx ps nm.data.toList = (idx (ps.drop j) nm.data.toList).map (· + j)) ∧ w = wr)
  case atStart => exact ⟨0, by omega, by omega, rfl, idx_zero ps nm.data.toList, rfl⟩
  case round =>
    obtain ⟨j, rfl, hj, rfl, HS, rfl⟩ := hrel
    by_cases hlt : j < n
    · have hlt' : j < ps.length := by rw [← HN.out]; exact hlt
      rcases HC.out with h0 | ⟨g, rfl, hg, hcc⟩
      · rw [h0] at hlt'
        simp at hlt'
      · have d0 := (hcc j hlt').1
        obtain ⟨p, hp⟩ : ∃ p, p = ps[j] := ⟨_, rfl⟩
        have HD : Hid (ps.drop j = p :: ps.drop (j + 1)) := by unfold Hid; rw [hp]; exact List.drop_eq_getElem_cons hlt'
        rw [← hp] at d0
        obtain ⟨A, hA⟩ : ∃ A : ByteArray, A = ⟨p.1.toArray⟩ := ⟨_, rfl⟩
        have HA : Hid (A.data.toList = p.1) := by unfold Hid; rw [hA]
        rw [← hA] at d0
        clear hcc hp hA hlt'
        by_cases hf : p.1 = nm.data.toList
        · have b1 : (A.toList == nm.toList) = true := str_eq (by rw [HA.out]; exact hf)
          have HI := Lib.hid (idx_hit (ps := ps.drop (j + 1)) hf)
          clear hf
          go_wp2_with fail
          go_ret
          refine ⟨?_, rfl⟩
          have e : findV (idx ps nm.data.toList) = (j : Int) := by
            rw [HS.out, HD.out, HI.out]
            show ((0 + j : Nat) : Int) = _
            rw [Nat.zero_add]
          rw [e]
          rfl
        · have b1 : (A.toList == nm.toList) = false := str_ne (by rw [HA.out]; exact hf)
          have HI := Lib.hid (idx_miss (ps := ps.drop (j + 1)) hf)
          clear hf
          go_wp2_with fail
          go_roundg (n - (j + 1))
          case measure => omega
          case rel =>
            refine ⟨j + 1, rfl, by omega, by go_num, ?_, rfl⟩
            unfold Hid
            rw [HS.out, HD.out, HI.out, Option.map_map]
            congr 1
            funext x
            simp only [Function.comp]
            omega
    · have HE : Hid (ps.drop j = []) := List.drop_eq_nil_of_le (by have := HN.out; omega)
      go_wp2_with fail
      go_ret
      refine ⟨?_, rfl⟩
      rw [HS.out, HE.out]
      rfl

set_option maxHeartbeats 1000000 in
theorem refQuotedT_any (s : ByteArray) (w : World) (hl : s.size ≤ 1000000) :
    Calls Tryz.prog 15 #[.string s] w fun e w' => ∃ T : ByteArray, e = .returned (.string T) ∧ T.data.toList = quoteL s.data.toList ∧ w = w' := by
  go_enter Tryz.func15, Tryz.ntmps15
  go_wp2_with fail
  go_loopg [3, 4] s.size (fun g v3 v4 wr => ∃ (j : Nat) (T : ByteArray), g = s.size - j ∧ j ≤ s.size ∧ v4 = .int .i64 (j : Int) ∧ v3 = .string T ∧ T.size ≤ 1 + 2 * j ∧ Hid (T.data.toList = [34] ++ escL (s.data.toList.take j)) ∧ w = wr)
  case atStart => exact ⟨0, ⟨#[34]⟩, by omega, by omega, rfl, rfl, by decide, rfl, rfl⟩
  case round =>
    obtain ⟨j, T, rfl, hj, rfl, rfl, hT, HS, rfl⟩ := hrel
    by_cases hlt : j < s.size
    · have HTk : Hid (escL (s.data.toList.take (j + 1)) = escL (s.data.toList.take j) ++ escB s[j]) := by
        unfold Hid
        rw [take_snoc s j hlt, escL_app, escL_one]
      by_cases hh : hitB s[j] = true
      · have HB : Hid (escB s[j] = [92, s[j]]) := by unfold Hid escB; rw [if_pos hh]
        have hor : s[j].toNat = 34 ∨ (s[j].toNat ≠ 34 ∧ s[j].toNat = 92) := by
          unfold hitB at hh
          simp only [Bool.or_eq_true, beq_iff_eq] at hh
          rcases hh with h | h
          · left; rw [h]; rfl
          · right; rw [h]; exact ⟨by decide, rfl⟩
        clear hh
        have fin : ∀ U : ByteArray, U = T ++ ⟨#[92]⟩ ++ s.extract j (j + 1) → U.size ≤ 1 + 2 * (j + 1) ∧ U.data.toList = [34] ++ escL (s.data.toList.take (j + 1)) := by
          intro U hU
          subst hU
          constructor
          · rw [ByteArray.size_append, ByteArray.size_append, extract_size' s _ _ (by omega)]
            have : (⟨#[92]⟩ : ByteArray).size = 1 := rfl
            omega
          · rw [HTk.out, HB.out, cat_toList, cat_toList, HS.out, bytes_one7 s j hlt]
            simp
        have HF := Lib.hid fin
        clear fin
        rcases hor with h | ⟨h1, h⟩
        · have b1 : (((s[j].toNat : Nat) : Int) == 34) = true := beq_yes (by omega)
          clear h
          go_wp2_with fail
          go_roundg (s.size - (j + 1))
          case measure => omega
          case rel => exact ⟨j + 1, _, rfl, by omega, by go_num, rfl, (HF.out _ rfl).1, (HF.out _ rfl).2, rfl⟩
        · have b1 : (((s[j].toNat : Nat) : Int) == 34) = false := beq_no (by omega)
          have b2 : (((s[j].toNat : Nat) : Int) == 92) = true := beq_yes (by omega)
          clear h h1
          go_wp2_with fail
          go_roundg (s.size - (j + 1))
          case measure => omega
          case rel => exact ⟨j + 1, _, rfl, by omega, by go_num, rfl, (HF.out _ rfl).1, (HF.out _ rfl).2, rfl⟩
      · have HB : Hid (escB s[j] = [s[j]]) := by unfold Hid escB; rw [if_neg hh]
        have h34 : ¬ s[j].toNat = 34 := fun e => hh (by unfold hitB; rw [show s[j] = 34 from toNat_eq (by rw [e]; rfl)]; rfl)
        have h92 : ¬ s[j].toNat = 92 := fun e => hh (by unfold hitB; rw [show s[j] = 92 from toNat_eq (by rw [e]; rfl)]; rfl)
        have b1 : (((s[j].toNat : Nat) : Int) == 34) = false := beq_no (by omega)
        have b2 : (((s[j].toNat : Nat) : Int) == 92) = false := beq_no (by omega)
        clear hh h34 h92
        go_wp2_with fail
        go_roundg (s.size - (j + 1))
        case measure => omega
        case rel =>
          refine ⟨j + 1, T ++ s.extract j (j + 1), rfl, by omega, by go_num, rfl, ?_, ?_, rfl⟩
          · rw [ByteArray.size_append, extract_size' s _ _ (by omega)]
            omega
          · unfold Hid
            rw [HTk.out, HB.out, cat_toList, HS.out, bytes_one7 s j hlt, List.append_assoc]
    · have HE : Hid (s.data.toList.take j = s.data.toList) := List.take_of_length_le (by simp; omega)
      go_wp2_with fail
      go_ret
      refine ⟨T ++ ⟨#[34]⟩, rfl, ?_, rfl⟩
      rw [cat_toList, HS.out, HE.out]
      rfl
end Go.Proofs.YtcnihodikpcfkaaGreatDoor
