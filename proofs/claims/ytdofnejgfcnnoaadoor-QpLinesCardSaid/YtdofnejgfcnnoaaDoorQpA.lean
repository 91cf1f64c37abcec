/- Contracts of package qp: seen, byteOf. -/
import Derived.Test.YtdofnejgfcnnoaaDoorProg
import Derived.Test.YtdofnejgfcnnoaaDoorQpM
import Derived.LoopN
import Derived.Outline
namespace Go.Proofs.YtdofnejgfcnnoaaDoor
open Go Go.RowKit

theorem seen_any (c : UInt8) (w : World) : Calls Tryd.prog 16 #[.int .u8 (c.toNat : Int)] w fun e w' => e = .returned (.bool (seenB c)) ∧ w = w' := by
  have hc := c.toNat_lt
  by_cases h1 : 33 ≤ c.toNat
  · by_cases h2 : c.toNat ≤ 126
    · have HE : Hid (seenB c = true) := (seenB_iff c).2 ⟨h1, h2⟩
      go_enter Tryd.func16, Tryd.ntmps16
      go_wp2
      go_ret
      exact ⟨ret_bool (by rw [HE.out]; simp; omega), rfl⟩
    · have HE : Hid (seenB c = false) := by unfold Hid; rw [← Bool.not_eq_true, seenB_iff]; omega
      go_enter Tryd.func16, Tryd.ntmps16
      go_wp2
      go_ret
      exact ⟨ret_bool (by rw [HE.out]; simp; omega), rfl⟩
  · have HE : Hid (seenB c = false) := by unfold Hid; rw [← Bool.not_eq_true, seenB_iff]; omega
    go_enter Tryd.func16, Tryd.ntmps16
    go_wp2
    go_ret
    exact ⟨ret_bool (by rw [HE.out]), rfl⟩

/-- Two digits. -/
def hex2 : List UInt8 → Bool
  | a :: b :: _ => decide (hexV a < 16 ∧ hexV b < 16)
  | _ => false
def hexW : List UInt8 → Nat
  | a :: b :: _ => hexV a * 16 + hexV b
  | _ => 0
/-- What the first k digits tell. -/
def hexP (l : List UInt8) : Nat → Nat
  | 0 => 0
  | k + 1 => hexP l k * 16 + hexV (l.getD k 0)
theorem or_u8 (x y : Nat) (hx : x < 256) (hy : y < 256) : bits .or .u8 (x : Int) (y : Int) = ((x ||| y : Nat) : Int) := by
  have h := Nat.or_lt_two_pow (n := 8) hx hy
  show IntKind.u8.wrap ((BitVec.ofInt 8 (x : Int) ||| BitVec.ofInt 8 (y : Int)).toNat : Int) = _
  rw [BitVec.toNat_or, BitVec.ofInt_natCast, BitVec.ofInt_natCast, BitVec.toNat_ofNat, BitVec.toNat_ofNat, Nat.mod_eq_of_lt hx, Nat.mod_eq_of_lt hy]
  show ((x ||| y : Nat) : Int) % 256 = _
  omega
theorem or_hex {x y : Int} (a b : Nat) (h1 : x = ((a * 16 : Nat) : Int)) (h2 : y = (b : Int)) (ha : a < 16) (hb : b < 16) : bits .or .u8 x y = ((a * 16 + b : Nat) : Int) := by
  subst h1 h2
  rw [or_u8 _ _ (by omega) (by omega)]
  have := or_add 4 a b (by omega)
  rw [show (16 : Nat) = 2 ^ 4 from rfl, this]
theorem hex_cases (c : UInt8) :
    (97 ≤ c.toNat ∧ c.toNat ≤ 102 ∧ Hid (hexV c = c.toNat - 87)) ∨
    (65 ≤ c.toNat ∧ c.toNat ≤ 70 ∧ Hid (hexV c = c.toNat - 55)) ∨
    (48 ≤ c.toNat ∧ c.toNat ≤ 57 ∧ Hid (hexV c = c.toNat - 48)) ∨
    (c.toNat < 48 ∧ Hid (hexV c = 16)) ∨ (57 < c.toNat ∧ c.toNat < 65 ∧ Hid (hexV c = 16)) ∨ (70 < c.toNat ∧ c.toNat < 97 ∧ Hid (hexV c = 16)) ∨ (102 < c.toNat ∧ Hid (hexV c = 16)) := by
  have h : ∀ n, hexV c = n ↔ Hid (hexV c = n) := fun n => Iff.rfl
  have : (97 ≤ c.toNat ∧ c.toNat ≤ 102) ∨ (65 ≤ c.toNat ∧ c.toNat ≤ 70) ∨ (48 ≤ c.toNat ∧ c.toNat ≤ 57) ∨ c.toNat < 48 ∨ (57 < c.toNat ∧ c.toNat < 65) ∨ (70 < c.toNat ∧ c.toNat < 97) ∨ 102 < c.toNat := by omega
  unfold hexV at *
  rcases this with ⟨a, b⟩ | ⟨a, b⟩ | ⟨a, b⟩ | a | ⟨a, b⟩ | ⟨a, b⟩ | a
  · refine .inl ⟨a, b, ?_⟩
    unfold Hid
    rw [if_neg (by omega), if_neg (by omega), if_pos (by omega)]
  · refine .inr (.inl ⟨a, b, ?_⟩)
    unfold Hid
    rw [if_neg (by omega), if_pos (by omega)]
  · refine .inr (.inr (.inl ⟨a, b, ?_⟩))
    unfold Hid
    rw [if_pos (by omega)]
  · refine .inr (.inr (.inr (.inl ⟨a, ?_⟩)))
    unfold Hid
    rw [if_neg (by omega), if_neg (by omega), if_neg (by omega)]
  · refine .inr (.inr (.inr (.inr (.inl ⟨a, b, ?_⟩))))
    unfold Hid
    rw [if_neg (by omega), if_neg (by omega), if_neg (by omega)]
  · refine .inr (.inr (.inr (.inr (.inr (.inl ⟨a, b, ?_⟩)))))
    unfold Hid
    rw [if_neg (by omega), if_neg (by omega), if_neg (by omega)]
  · refine .inr (.inr (.inr (.inr (.inr (.inr ⟨a, ?_⟩)))))
    unfold Hid
    rw [if_neg (by omega), if_neg (by omega), if_neg (by omega)]
/-- What byteOf answers. -/
def ByteOf (l : List UInt8) (w : World) (e : Ending) (w' : World) : Prop :=
  ∃ t : Nat, e = .returned (.tuple #[.int .u8 (t : Int), .bool (hex2 l)]) ∧ (hex2 l = true → t = hexW l) ∧ w = w'
theorem hexP_lt (l : List UInt8) (k : Nat) (hk : k < 2) (h : ∀ j, j < k → hexV (l.getD j 0) < 16) : hexP l k < 16 := by
  match k, hk with
  | 0, _ => simp [hexP]
  | 1, _ => simp only [hexP]; have := h 0 (by omega); omega
theorem hex2_of (l : List UInt8) (h2 : 2 ≤ l.length) (h : ∀ j, j < 2 → hexV (l.getD j 0) < 16) : hex2 l = true ∧ hexW l = hexP l 2 := by
  match l, h2 with
  | a :: b :: r, _ =>
    have h0 := h 0 (by omega)
    have h1 := h 1 (by omega)
    simp at h0 h1
    simp [hex2, hexW, hexP, h0, h1]
theorem hex2_short (l : List UInt8) (h2 : l.length < 2) : hex2 l = false := by
  match l, h2 with
  | [], _ => rfl
  | [_], _ => rfl
  | a :: b :: r, h => simp only [List.length_cons] at h; omega
theorem hex2_no (l : List UInt8) (k : Nat) (hk : k < 2) (h : hexV (l.getD k 0) = 16) : hex2 l = false := by
  match l with
  | [] => rfl
  | [_] => rfl
  | a :: b :: r =>
    match k, hk with
    | 0, _ => simp at h; simp [hex2, h]
    | 1, _ => simp at h; simp [hex2, h]

set_option maxHeartbeats 1000000 in
theorem byteOf_any (v : Value) (l : List UInt8) (w : World) (hv : bytesArg w v l) : Calls Tryd.prog 20 #[v] w (ByteOf l w) := by
  obtain ⟨ao, cap, rfl, hc, hm, hs⟩ := hv
  have HS : Hid (sliceAt w ao l) := hs
  clear hs
  unfold maxLen at hm
  go_enter Tryd.func20, Tryd.ntmps20
  go_wp2
  go_step3
  go_wp2
  go_step3
  go_wp2
  go_loop [4, 5] (fun t i => ∃ (k n : Nat), k ≤ 2 ∧ k ≤ l.length ∧ i = .int .i64 k ∧ t = .int .u8 n ∧ n < 256 ∧ (k < 2 → n < 16) ∧ Hid (n = hexP l k) ∧ Hid (∀ j, j < k → hexV (l.getD j 0) < 16)) (fun _ i => 2 - (intOf i).toNat)
  case atStart => exact ⟨0, 0, by omega, by omega, rfl, rfl, by omega, by omega, rfl, fun j hj => by omega⟩
  case round =>
    obtain ⟨k, n, hk, hkl, rfl, rfl, hn, hn2, HN, HK⟩ := hrel
    by_cases hk2 : k < 2
    · have hn16 := hn2 hk2
      clear hn2
      by_cases hlt : k < l.length
      · obtain ⟨b, off, rfl, hb, hcell⟩ := HS.out.cell k hlt
        obtain ⟨c, hcc⟩ : ∃ c, c = l[k] := ⟨_, rfl⟩
        rw [← hcc] at hcell
        have HC : Hid (l.getD k 0 = c) := by unfold Hid; rw [hcc]; simp [hlt]
        have hct := c.toNat_lt
        clear hcc
        rcases hex_cases c with ⟨h1, h2, HX⟩ | ⟨h1, h2, HX⟩ | ⟨h1, h2, HX⟩ | ⟨h1, HX⟩ | ⟨h1, h2, HX⟩ | ⟨h1, h2, HX⟩ | ⟨h1, HX⟩
        · obtain ⟨q, hq⟩ : ∃ q, q = hexV c := ⟨_, rfl⟩
          have hq16 : q < 16 := by rw [hq, HX.out]; omega
          have e0 : (q : Int) = (c.toNat : Int) - 87 := by rw [hq, HX.out]; omega
          have e1 := or_hex (x := (n : Int) * 16) (y := (c.toNat : Int) - 32 - 7 - 48) n q (by omega) (by omega) hn16 hq16
          have HQ := Lib.hid hq
          clear e0 hq
          go_wp2
          go_round
          case rel =>
            refine ⟨k + 1, n * 16 + q, by omega, by omega, by go_num, by go_num, by omega, ?_, ?_, ?_⟩
            · intro hk1
              obtain rfl : k = 0 := by omega
              have := HN.out
              simp only [hexP] at this
              omega
            · unfold Hid
              rw [HN.out, HQ.out]
              simp only [hexP]
              rw [HC.out]
            · intro j hj
              rcases Nat.lt_succ_iff_lt_or_eq.1 hj with h | rfl
              · exact HK.out j h
              · rw [HC.out, ← HQ.out]; exact hq16
          case measure => simp [intOf]; omega
        · obtain ⟨q, hq⟩ : ∃ q, q = hexV c := ⟨_, rfl⟩
          have hq16 : q < 16 := by rw [hq, HX.out]; omega
          have e0 : (q : Int) = (c.toNat : Int) - 55 := by rw [hq, HX.out]; omega
          have e1 := or_hex (x := (n : Int) * 16) (y := (c.toNat : Int) - 7 - 48) n q (by omega) (by omega) hn16 hq16
          have HQ := Lib.hid hq
          clear e0 hq
          go_wp2
          go_round
          case rel =>
            refine ⟨k + 1, n * 16 + q, by omega, by omega, by go_num, by go_num, by omega, ?_, ?_, ?_⟩
            · intro hk1
              obtain rfl : k = 0 := by omega
              have := HN.out
              simp only [hexP] at this
              omega
            · unfold Hid
              rw [HN.out, HQ.out]
              simp only [hexP]
              rw [HC.out]
            · intro j hj
              rcases Nat.lt_succ_iff_lt_or_eq.1 hj with h | rfl
              · exact HK.out j h
              · rw [HC.out, ← HQ.out]; exact hq16
          case measure => simp [intOf]; omega
        · obtain ⟨q, hq⟩ : ∃ q, q = hexV c := ⟨_, rfl⟩
          have hq16 : q < 16 := by rw [hq, HX.out]; omega
          have e0 : (q : Int) = (c.toNat : Int) - 48 := by rw [hq, HX.out]; omega
          have e1 := or_hex (x := (n : Int) * 16) (y := (c.toNat : Int) - 48) n q (by omega) (by omega) hn16 hq16
          have HQ := Lib.hid hq
          clear e0 hq
          go_wp2
          go_round
          case rel =>
            refine ⟨k + 1, n * 16 + q, by omega, by omega, by go_num, by go_num, by omega, ?_, ?_, ?_⟩
            · intro hk1
              obtain rfl : k = 0 := by omega
              have := HN.out
              simp only [hexP] at this
              omega
            · unfold Hid
              rw [HN.out, HQ.out]
              simp only [hexP]
              rw [HC.out]
            · intro j hj
              rcases Nat.lt_succ_iff_lt_or_eq.1 hj with h | rfl
              · exact HK.out j h
              · rw [HC.out, ← HQ.out]; exact hq16
          case measure => simp [intOf]; omega
        all_goals
          have HH : Hid (hex2 l = false) := hex2_no l k hk2 (by rw [HC.out]; exact HX.out)
          have ek : ((k : Int) == 2) = false := beq_no (by omega)
          go_wp2
          go_ret2
          exact ⟨n, by rw [HH.out]; first | rfl | rw [ek], (fun h => by rw [HH.out] at h; cases h), rfl⟩
      · have HH : Hid (hex2 l = false) := hex2_short l (by omega)
        have ek : ((k : Int) == 2) = false := beq_no (by omega)
        go_wp2
        go_ret2
        exact ⟨n, by rw [HH.out]; first | rfl | rw [ek], (fun h => by rw [HH.out] at h; cases h), rfl⟩
    · obtain rfl : k = 2 := by omega
      obtain ⟨h2, hw⟩ := hex2_of l hkl HK.out
      have HH := Lib.hid h2
      have HW := Lib.hid hw
      clear h2 hw hn2
      go_wp2
      go_ret2
      exact ⟨n, by rw [HH.out]; rfl, fun _ => by rw [HN.out, HW.out], rfl⟩
end Go.Proofs.YtdofnejgfcnnoaaDoor
