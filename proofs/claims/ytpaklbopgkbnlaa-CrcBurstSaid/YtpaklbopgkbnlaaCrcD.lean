/- Contracts of the document's answers for sums: More, Of. -/
import Derived.Test.YtpaklbopgkbnlaaCrcC
import Derived.Deep.DeepCutAuto
import Derived.Deep.CutBlock
namespace Go.Proofs.Ytpaklbopgkbnlaa
open Go Go.RowKit

set_option maxRecDepth 100000 in
theorem refMore_any (s : Nat) (S : ByteArray) (w : World) (hs : s < 4294967296) (hS : S.size ≤ 65536) :
    Calls Try.prog 10 #[.int .u32 (s : Int), .string S] w fun e w' => e = .returned (.int .u32 (moreS s S.data.toList : Nat)) ∧ w = w' := by
  go_enter Try.func10, Try.ntmps10
  go_wp2
  go_loopg [5, 6, 7, 8, 9] S.size (fun g x5 x6 x7 x8 x9 wr => ∃ (k x : Nat), k ≤ S.size ∧ g = S.size - k ∧ x6 = .int .i64 k ∧ x5 = .int .u32 x ∧ x < 4294967296 ∧ Hid (x = sumS (allN - s) (S.data.toList.take k)) ∧ w = wr)
  case atStart => exact ⟨0, allN - s, by omega, by omega, rfl, by unfold allN; go_num, by unfold allN; omega, rfl, rfl⟩
  case round =>
    obtain ⟨k, x, hk, rfl, rfl, rfl, hx, HX, rfl⟩ := hrel
    by_cases hlt : k < S.size
    · obtain ⟨c, hcc⟩ : ∃ c, c = S[k] := ⟨_, rfl⟩
      have hct := c.toNat_lt
      obtain ⟨X, hX⟩ : ∃ X, X = stepK 8 (x ^^^ c.toNat) := ⟨_, rfl⟩
      have HXX := Lib.hid hX
      have HC := Lib.hid hcc
      go_upto_block 1 with fail
      go_cut [5, 7, 8, 9] (fun x5 x7 x8 x9 wx => x5 = .int .u32 X ∧ w = wx)
      case first =>
        go_wp2_with fail
        go_loopg [5, 7, 8, 9] 8 (fun g x5 x7 x8 x9 wx => ∃ (j y d : Nat), j ≤ 8 ∧ g = 8 - j ∧ x8 = .int .i64 j ∧ x5 = .int .u32 y ∧ x7 = .int .u8 d ∧ y < 4294967296 ∧ d < 256 ∧ Hid (byteIt (8 - j) y d = X) ∧ w = wx)
        case atStart => exact ⟨0, x, c.toNat, by omega, by omega, rfl, rfl, by rw [HC.out], hx, hct, (byteIt_eq 8 x c.toNat hct).trans HXX.out.symm, rfl⟩
        case round =>
          obtain ⟨j, y, d, hj, rfl, rfl, rfl, rfl, hy, hd, HY, rfl⟩ := hrel
          by_cases hj8 : j < 8
          · obtain ⟨z, hz⟩ : ∃ z, z = y ^^^ (d % 2) := ⟨_, rfl⟩
            have hzl : z < 4294967296 := by rw [hz]; exact xor_lt32 hy (by omega)
            have e1 : bits .xor .u32 (y : Int) ((d : Int) % 2) = (z : Int) := by rw [hz]; exact u32_xor_nat y (d % 2) hy (by omega)
            have HN : Hid (byteIt (8 - (j + 1)) (stepF z) (d / 2) = X) := by
              unfold Hid
              rw [hz, ← HY.out, show 8 - j = (8 - (j + 1)) + 1 by omega]
              rfl
            clear hz
            by_cases h : z % 2 = 1
            · have t : ((z : Int) % 2 == 1) = true := beq_yes (by omega)
              obtain ⟨u, hu⟩ : ∃ u, u = stepF z := ⟨_, rfl⟩
              have hul : u < 4294967296 := by rw [hu]; exact stepF_lt hzl
              have e2 : bits .xor .u32 ((z : Int) / 2) 3988292384 = (u : Int) := by
                rw [hu]
                unfold stepF
                rw [if_pos h]
                exact u32_xor_nat (z / 2) polyN (by omega) (by decide)
              rw [← hu] at HN
              clear h hu
              go_wp2
              go_roundg (8 - (j + 1))
              case measure => omega
              case rel => exact ⟨j + 1, u, d / 2, by omega, rfl, by go_num, by go_num, by go_num, hul, by omega, HN.out, rfl⟩
            · have t : ((z : Int) % 2 == 1) = false := beq_no (by omega)
              have e2 : stepF z = z / 2 := by unfold stepF; rw [if_neg h]
              rw [e2] at HN
              clear h e2
              go_wp2
              go_roundg (8 - (j + 1))
              case measure => omega
              case rel => exact ⟨j + 1, z / 2, d / 2, by omega, rfl, by go_num, by go_num, by go_num, by omega, by omega, HN.out, rfl⟩
          · obtain rfl : j = 8 := by omega
            have hX' : y = X := HY.out
            clear hj8 hj
            go_wp2
            go_meet
            exact ⟨by rw [hX'], rfl⟩
      case rest =>
        obtain ⟨rfl, rfl⟩ := hcut
        have hXl : X < 4294967296 := by rw [HXX.out]; exact stepK_lt 8 (xor_lt32 hx (by omega))
        have HY : Hid (X = sumS (allN - s) (S.data.toList.take (k + 1))) := by
          unfold Hid
          rw [take_snoc S k hlt, sumS_snoc, ← HX.out, ← HC.out, HXX.out]
        go_wp2
        go_roundg (S.size - (k + 1))
        case measure => omega
        case rel => exact ⟨k + 1, X, by omega, rfl, by go_num, rfl, hXl, HY.out, rfl⟩
    · have HE : Hid (4294967295 - (x : Int) = (moreS s S.data.toList : Nat)) := by
        have := HX.out
        rw [take_all S k hlt] at this
        unfold Hid moreS
        rw [← this]
        unfold allN
        omega
      go_wp2
      go_ret
      exact ⟨ret_int HE.out, rfl⟩
theorem refOf_any (S : ByteArray) (w : World) (hS : S.size ≤ 65536) :
    Calls Try.prog 12 #[.string S] w fun e w' => e = .returned (.int .u32 (moreS 0 S.data.toList : Nat)) ∧ w = w' := by
  have HF := Lib.hid (refMore_any 0 S w (by omega) hS)
  go_enter Try.func12, Try.ntmps12
  go_wp2_with fail
  refine (HF.out).mono ?_
  rintro e w1 ⟨rfl, rfl⟩
  go_wp2
  go_ret
  exact ⟨rfl, rfl⟩
end Go.Proofs.Ytpaklbopgkbnlaa
