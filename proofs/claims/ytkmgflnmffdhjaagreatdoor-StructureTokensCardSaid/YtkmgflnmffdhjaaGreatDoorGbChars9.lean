/- The laws of layer 1: contracts. -/
import Derived.Test.YtkmgflnmffdhjaaGreatDoorGbChars7
namespace Go.Proofs.YtkmgflnmffdhjaaGreatDoor
open Go Go.RowKit

theorem gPow10 : Tryz.prog.globalNamed "internal/strconv.uint64pow10" = some 1 := by kernel_rfl
theorem gPow10Type : (Tryz.prog.globals[1]?).map (·.type) = some 274 := by kernel_rfl
theorem cellsPow10 : Tryz.prog.cellsOf 274 = 20 := by kernel_rfl
theorem cellsU64 : Tryz.prog.cellsOf 230 = 1 := by kernel_rfl
end Go.Proofs.YtkmgflnmffdhjaaGreatDoor

/- The law CharsDigits: contract. -/
namespace Go.Proofs.YtkmgflnmffdhjaaGreatDoor
open Go Go.RowKit

theorem dig_toNat {d : Nat} (h : d < 10) : (UInt8.ofNat (48 + d)).toNat = 48 + d := by
  rw [UInt8.toNat_ofNat']
  omega
theorem decDigits_all (u : Nat) : (Lib.decDigits u).all isDig = true := by
  induction u using Nat.strongRecOn with
  | _ u ih =>
    rw [Lib.decDigits]
    split
    · rename_i h
      rw [List.all_cons, List.all_nil, Bool.and_true, isDig_iff, dig_toNat h]
      omega
    · rename_i h
      have hm : u % 10 < 10 := Nat.mod_lt _ (by decide)
      rw [List.all_append, ih (u / 10) (by omega), Bool.true_and, List.all_cons, List.all_nil, Bool.and_true, isDig_iff, dig_toNat hm]
      omega
theorem numOf_decDigits (u : Nat) : numOf (Lib.decDigits u) = u := by
  induction u using Nat.strongRecOn with
  | _ u ih =>
    rw [Lib.decDigits]
    split
    · rename_i h
      have := numOf_snoc [] (UInt8.ofNat (48 + u))
      rw [List.nil_append, dig_toNat h] at this
      rw [this]
      simp [numOf]
    · rename_i h
      have hm : u % 10 < 10 := Nat.mod_lt _ (by decide)
      rw [numOf_snoc, ih (u / 10) (by omega), dig_toNat hm]
      omega
theorem decDigits_head (u : Nat) (h : 1 ≤ u) : (Lib.decDigits u).head? ≠ some 48 := by
  induction u using Nat.strongRecOn with
  | _ u ih =>
    rw [Lib.decDigits]
    split
    · rename_i h10
      simp only [List.head?_cons]
      intro e
      have := congrArg UInt8.toNat (Option.some.inj e)
      rw [dig_toNat h10] at this
      have h48 : (48 : UInt8).toNat = 48 := rfl
      omega
    · rename_i h10
      have hi := ih (u / 10) (by omega) (by omega)
      match hd : Lib.decDigits (u / 10) with
      | [] => rw [hd] at hi; have := Lib.decDigits_length (u / 10); rw [hd] at this; have h2 : 1 ≤ Lib.nDigits (u / 10) := by { rw [Lib.nDigits]; split <;> omega }; simp at this; omega
      | x :: r => rw [hd] at hi; simpa using hi
theorem decDigits_pos (u : Nat) : 1 ≤ (Lib.decDigits u).length := by
  rw [Lib.decDigits_length, Lib.nDigits]
  split <;> omega
theorem pow_le_of_length (u : Nat) : ∀ k, u < 10 ^ (k + 1) → (Lib.decDigits u).length ≤ k + 1 := by
  intro k
  induction k generalizing u with
  | zero => intro h; rw [Lib.decDigits, dif_pos (by simpa using h)]; simp
  | succ k ih =>
    intro h
    rw [Lib.decDigits]
    split
    · simp
    · have := ih (u / 10) (by rw [Nat.pow_succ] at h; omega)
      simp
      omega

theorem numSpec_itoa_good (n : Int) (h0 : 0 ≤ n) (h1 : n ≤ 4294967295) : numSpec (Lib.itoa n) = some n.toNat := by
  obtain ⟨u, rfl⟩ : ∃ u : Nat, n = (u : Int) := ⟨n.toNat, by omega⟩
  rw [Lib.itoa_nonneg]
  have e := numSpec_good (l := Lib.decDigits u) (decDigits_pos u) (pow_le_of_length u 9 (by omega)) ?_ (decDigits_all u) (by rw [numOf_decDigits]; omega)
  · rw [e, numOf_decDigits]
    simp
  · rintro ⟨hh, hl⟩
    by_cases hu : 1 ≤ u
    · exact decDigits_head u hu hh
    · obtain rfl : u = 0 := by omega
      rw [Lib.decDigits_one (by decide)] at hl
      simp at hl
end Go.Proofs.YtkmgflnmffdhjaaGreatDoor
