/- Contracts of the document's layer 7: a digit, a value behind its quotes, which one has a name. -/
import Derived.Test.YtcnihodikpcfkaaGreatDoorPbB
import Derived.Test.YtcnihodikpcfkaaGreatDoorPaA
namespace Go.Proofs.YtcnihodikpcfkaaGreatDoor
open Go Go.RowKit

/-! ### A digit -/
def hitD (c : UInt8) (i : Nat) : Bool := (c == hexLo i) || (c == hexUp i)
def dgo (c : UInt8) : Nat → Nat → Option Nat
  | 0, _ => none
  | f + 1, j => if hitD c j then some j else dgo c f (j + 1)
theorem dgo_all : (List.range 256).all (fun n => decide (dgo (UInt8.ofNat n) 16 0 = hexV (UInt8.ofNat n))) = true := by kernel_rfl
theorem dgo_hex (c : UInt8) : dgo c 16 0 = hexV c := by
  have h := List.all_eq_true.1 dgo_all c.toNat (by rw [List.mem_range]; exact c.toNat_lt)
  have e : UInt8.ofNat c.toNat = c := UInt8.ofNat_toNat
  rw [e] at h
  exact of_decide_eq_true h
theorem lox_at (n : Nat) (h : n < 16) : (⟨#[48, 49, 50, 51, 52, 53, 54, 55, 56, 57, 97, 98, 99, 100, 101, 102]⟩ : ByteArray)[n]'h = hexLo n := by
  have := bytes_get ⟨#[48, 49, 50, 51, 52, 53, 54, 55, 56, 57, 97, 98, 99, 100, 101, 102]⟩ n h
  unfold hexLo
  rw [List.getD_eq_getElem?_getD]
  show _ = ((⟨#[48, 49, 50, 51, 52, 53, 54, 55, 56, 57, 97, 98, 99, 100, 101, 102]⟩ : ByteArray).data.toList[n]?).getD 0
  rw [this]
  rfl
theorem upx_at (n : Nat) (h : n < 16) : (⟨#[48, 49, 50, 51, 52, 53, 54, 55, 56, 57, 65, 66, 67, 68, 69, 70]⟩ : ByteArray)[n]'h = hexUp n := by
  have := bytes_get ⟨#[48, 49, 50, 51, 52, 53, 54, 55, 56, 57, 65, 66, 67, 68, 69, 70]⟩ n h
  unfold hexUp
  rw [List.getD_eq_getElem?_getD]
  show _ = ((⟨#[48, 49, 50, 51, 52, 53, 54, 55, 56, 57, 65, 66, 67, 68, 69, 70]⟩ : ByteArray).data.toList[n]?).getD 0
  rw [this]
  rfl
def digV (c : UInt8) : Nat := (hexV c).getD 16
theorem eq_yes {a b : UInt8} (h : a = b) : ((a.toNat : Int) == (b.toNat : Int)) = true := by rw [h]; simp
theorem eq_no {a b : UInt8} (h : ¬ a = b) : ((a.toNat : Int) == (b.toNat : Int)) = false := beq_no fun e => h (toNat_eq (by omega))
set_option maxHeartbeats 1000000 in
theorem refDigit_any (c : UInt8) (w : World) :
    Calls Tryz.prog 58 #[.int .u8 (c.toNat : Int)] w fun e w' => e = .returned (.int .i64 (digV c : Int)) ∧ w = w' := by
  go_enter Tryz.func58, Tryz.ntmps58
  go_wp2_with fail
  go_loopg [3] 16 (fun g v1 wr => ∃ j : Nat, g = 16 - j ∧ j ≤ 16 ∧ v1 = .int .i64 (j : Int) ∧ Hid (dgo c (16 - j) j = hexV c) ∧ w = wr)
  case atStart => exact ⟨0, rfl, by omega, rfl, dgo_hex c, rfl⟩
  case round =>
    obtain ⟨j, rfl, hj, rfl, HS, rfl⟩ := hrel
    by_cases hlt : j < 16
    · have d1 := lox_at j hlt
      have d2 := upx_at j hlt
      have HSt : Hid (dgo c (16 - j) j = if hitD c j then some j else dgo c (16 - (j + 1)) (j + 1)) := by
        unfold Hid
        rw [show 16 - j = (16 - (j + 1)) + 1 by omega]
        rfl
      obtain ⟨x, hx⟩ : ∃ x, x = hexLo j := ⟨_, rfl⟩
      obtain ⟨y, hy⟩ : ∃ y, y = hexUp j := ⟨_, rfl⟩
      rw [← hx] at d1
      rw [← hy] at d2
      have HX := Lib.hid hx
      have HY := Lib.hid hy
      clear hx hy
      have hlti : (j : Int) < 16 := by omega
      by_cases h1 : c = x
      · have b1 := eq_yes h1
        have HH : Hid (hitD c j = true) := by unfold Hid hitD; rw [← HX.out, h1]; simp
        clear h1
        go_wp2_with fail
        go_ret
        refine ⟨?_, rfl⟩
        unfold digV
        rw [← HS.out, HSt.out, HH.out]
        rfl
      · have b1 := eq_no h1
        by_cases h2 : c = y
        · have b2 := eq_yes h2
          have HH : Hid (hitD c j = true) := by unfold Hid hitD; rw [← HY.out, h2]; simp
          clear h1 h2
          go_wp2_with fail
          go_ret
          refine ⟨?_, rfl⟩
          unfold digV
          rw [← HS.out, HSt.out, HH.out]
          rfl
        · have b2 := eq_no h2
          have HH : Hid (hitD c j = false) := by unfold Hid hitD; rw [← HX.out, ← HY.out]; simp [h1, h2]
          clear h1 h2
          go_wp2_with fail
          go_roundg (16 - (j + 1))
          case measure => omega
          case rel =>
            refine ⟨j + 1, rfl, by omega, by go_num, ?_, rfl⟩
            unfold Hid
            rw [← HS.out, HSt.out, HH.out]
            rfl
    · obtain rfl : j = 16 := by omega
      have HE : Hid (hexV c = none) := HS.out.symm
      go_wp2_with fail
      go_ret
      exact ⟨by unfold digV; rw [HE.out]; rfl, rfl⟩

/-! ### A value behind its second quote -/
def bg : Nat → List UInt8 → Option (List UInt8)
  | _, [] => none
  | n, c :: l => if c = 39 then (if n = 1 then some l else bg (n + 1) l) else bg n l
theorem bg_one (l : List UInt8) : bg 1 l = match l.dropWhile (fun c => c != 39) with | _ :: r2 => some r2 | [] => none := by
  induction l with
  | nil => rfl
  | cons c l ih =>
    show (if c = 39 then some l else bg 1 l) = _
    by_cases h : c = 39
    · subst h
      rfl
    · rw [if_neg h, List.dropWhile_cons, if_pos (by simpa using h)]
      exact ih
theorem bg_zero (l : List UInt8) : bg 0 l = match l.dropWhile (fun c => c != 39) with | _ :: r => bg 1 r | [] => none := by
  induction l with
  | nil => rfl
  | cons c l ih =>
    show (if c = 39 then bg 1 l else bg 0 l) = _
    by_cases h : c = 39
    · subst h
      rfl
    · rw [if_neg h, List.dropWhile_cons, if_pos (by simpa using h)]
      exact ih
theorem bare_bg (l : List UInt8) : bareL l = (bg 0 l).getD l := by
  rw [bg_zero]
  unfold bareL
  split
  · next x r h =>
    rw [h]
    show _ = (bg 1 r).getD l
    rw [bg_one]
    split <;> simp_all
  · next h =>
    rw [h]
    rfl
set_option maxHeartbeats 1000000 in
theorem refBare_any (s : ByteArray) (w : World) (hl : s.size ≤ 1000000000) :
    Calls Tryz.prog 41 #[.string s] w fun e w' => ∃ T : ByteArray, e = .returned (.string T) ∧ T.data.toList = bareL s.data.toList ∧ w = w' := by
  go_enter Tryz.func41, Tryz.ntmps41
  go_wp2_with fail
  go_loopg [3, 4] s.size (fun g vn v1 wr => ∃ j n : Nat, g = s.size - j ∧ j ≤ s.size ∧ v1 = .int .i64 (j : Int) ∧ vn = .int .i64 (n : Int) ∧ n ≤ 1 ∧ Hid (bg 0 s.data.toList = bg n (s.data.toList.drop j)) ∧ w = wr)
  case atStart => exact ⟨0, 0, by omega, by omega, rfl, rfl, by omega, rfl, rfl⟩
  case round =>
    obtain ⟨j, n, rfl, hj, rfl, rfl, hn, HS, rfl⟩ := hrel
    by_cases hlt : j < s.size
    · have HD := Lib.hid (drop_cons s j hlt)
      rw [HD.out] at HS
      have HSt : Hid (bg n (s[j] :: s.data.toList.drop (j + 1)) = if s[j] = 39 then (if n = 1 then some (s.data.toList.drop (j + 1)) else bg (n + 1) (s.data.toList.drop (j + 1))) else bg n (s.data.toList.drop (j + 1))) := rfl
      by_cases h39 : s[j].toNat = 39
      · have b1 : (((s[j].toNat : Nat) : Int) == 39) = true := beq_yes (by omega)
        have HC1 : Hid (s[j] = 39) := toNat_eq (by rw [h39]; rfl)
        clear h39
        by_cases h1 : n = 1
        · subst h1
          go_wp2_with fail
          go_ret
          refine ⟨s.extract (j + 1) s.size, by go_num, ?_, rfl⟩
          rw [bare_bg, HS.out, HSt.out, if_pos HC1.out, behind_toList]
          rfl
        · obtain rfl : n = 0 := by omega
          go_wp2_with fail
          go_roundg (s.size - (j + 1))
          case measure => omega
          case rel =>
            refine ⟨j + 1, 1, rfl, by omega, by go_num, by go_num, by omega, ?_, rfl⟩
            unfold Hid
            rw [HS.out, HSt.out, if_pos HC1.out]
            rfl
      · have b1 : (((s[j].toNat : Nat) : Int) == 39) = false := beq_no (by omega)
        have HN1 : Hid (s[j] ≠ 39) := fun e => h39 (by rw [e]; rfl)
        have b2 : ((n : Int) == 2) = false := beq_no (by omega)
        clear h39
        go_wp2_with fail
        go_roundg (s.size - (j + 1))
        case measure => omega
        case rel =>
          refine ⟨j + 1, n, rfl, by omega, by go_num, rfl, hn, ?_, rfl⟩
          unfold Hid
          rw [HS.out, HSt.out, if_neg HN1.out]
    · have HE : Hid (s.data.toList.drop j = []) := List.drop_eq_nil_of_le (by simp; omega)
      go_wp2_with fail
      go_ret
      refine ⟨s, rfl, ?_, rfl⟩
      rw [bare_bg, HS.out, HE.out]
      rfl
end Go.Proofs.YtcnihodikpcfkaaGreatDoor
