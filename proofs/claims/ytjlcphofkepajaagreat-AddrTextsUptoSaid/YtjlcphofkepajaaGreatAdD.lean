/- Contracts of package addr: the piece at a place. -/
import Derived.Test.YtjlcphofkepajaaGreatAdC
namespace Go.Proofs.YtjlcphofkepajaaGreat
open Go Go.RowKit

/-- The word at the beginning of a text. -/
def wordL : List UInt8 → Option (List UInt8 × List UInt8)
  | [] => none
  | c :: r => if c = 34 then unqL false [] r else match bareA false (c :: r) with
    | some (w, q) => if w = [] then none else some (w, q)
    | none => none
theorem wordL_cons (c : UInt8) (r : List UInt8) : wordL (c :: r) = if c = 34 then unqL false [] r else match bareA false (c :: r) with
    | some (w, q) => if w = [] then none else some (w, q)
    | none => none := rfl
theorem pcL_word (c : UInt8) (r : List UInt8) (h : signB c = false) : pcL (c :: r) = match wordL (c :: r) with
    | some (w, q) => .tok (.wrd w) q
    | none => .fin false := by
  rw [pcL_cons, wordL_cons, if_neg (by rw [h]; simp)]
  by_cases hc : c = 34
  · rw [if_pos hc, if_pos hc]
    cases unqL false [] r <;> rfl
  · rw [if_neg hc, if_neg hc]
    cases hb : bareA false (c :: r) with
    | none => rfl
    | some p =>
      obtain ⟨w, q⟩ := p
      by_cases hw : w = []
      · simp [hw]
      · simp [hw]
def wordIs (D : List UInt8) (s : ByteArray) (v : List UInt8) (j : Nat) (b : Bool) : Prop :=
  match wordL D with
  | some (v', r) => b = true ∧ v = v' ∧ s.data.toList.drop j = r
  | none => b = false
theorem wordIs_unq {c : UInt8} {r : List UInt8} {s : ByteArray} {v : List UInt8} {j : Nat} {b : Bool} (h : unqIs r s v j b) (hc : c = 34) : wordIs (c :: r) s v j b := by
  unfold wordIs unqIs at *
  rw [wordL_cons, if_pos hc]
  split at h
  · next v' r' e => rw [e]; exact h
  · next e => rw [e]; exact h.1
theorem wordIs_bare {c : UInt8} {r : List UInt8} {s : ByteArray} {v : List UInt8} {j : Nat} {b : Bool} (h : bareIs (c :: r) s v j b) (hc : c ≠ 34) : wordIs (c :: r) s v j b := by
  unfold wordIs bareIs at *
  rw [wordL_cons, if_neg hc]
  split at h
  · next v' r' e =>
    rw [e]
    obtain ⟨h1, h2, h3⟩ := h
    by_cases hv : v' = []
    · subst hv
      simpa using h1
    · simp only [if_neg hv]
      refine ⟨?_, h2, h3⟩
      rw [h1]
      cases v' with
      | nil => exact absurd rfl hv
      | cons _ _ => rfl
  · next e => rw [e]; exact h

set_option maxRecDepth 100000 in
set_option maxHeartbeats 1000000 in
theorem wordAt_any (s : ByteArray) (k : Nat) (w : World) (hl : s.size ≤ 1000000000) (hk : k < s.size) :
    Calls Tryz.prog 30 #[.string s, .int .i64 (k : Int)] w fun e w' => ∃ (v : List UInt8) (j : Nat) (b : Bool), e = .returned (.tuple #[.string ⟨v.toArray⟩, .int .i64 (j : Int), .bool b]) ∧ j ≤ s.size ∧
      wordIs (s.data.toList.drop k) s v j b ∧ Below w.heap.size w w' := by
  have HD := Lib.hid (drop_cons s k hk)
  have HU := Lib.hid (aUnquoted_any s k w hl hk)
  have HB := Lib.hid (bare_any s k w hl (by omega))
  by_cases h34 : s[k].toNat = 34
  · have b1 : (((s[k].toNat : Nat) : Int) == 34) = true := beq_yes (by omega)
    have HC : Hid (s[k] = 34) := toNat_eq h34
    clear h34
    go_enter Tryz.func30, Tryz.ntmps30
    go_wp2_with fail
    with_reducible refine HU.out.mono ?_
    rintro e w1 ⟨v, j, b, rfl, hj, hu, hb1⟩
    have HU1 := Lib.hid hu
    have HB1 := Lib.hid hb1
    clear hu hb1
    go_wp2_with fail
    refine bodyPost_ret (v := .tuple #[.string ⟨v.toArray⟩, .int .i64 (j : Int), .bool b]) (by simp [results, Tryz.results30, go_sem]) rfl ?_
    exact ⟨v, j, b, rfl, hj, by rw [HD.out]; exact wordIs_unq HU1.out HC.out, HB1.out⟩
  · have b1 : (((s[k].toNat : Nat) : Int) == 34) = false := beq_no (by omega)
    have HN : Hid (s[k] ≠ 34) := fun e => h34 (by rw [e]; rfl)
    clear h34
    go_enter Tryz.func30, Tryz.ntmps30
    go_wp2_with fail
    with_reducible refine HB.out.mono ?_
    rintro e w1 ⟨v, j, b, rfl, hj, hu, rfl⟩
    have HU1 := Lib.hid hu
    clear hu
    go_wp2_with fail
    refine bodyPost_ret (v := .tuple #[.string ⟨v.toArray⟩, .int .i64 (j : Int), .bool b]) (by simp [results, Tryz.results30, go_sem]) rfl ?_
    exact ⟨v, j, b, rfl, hj, by rw [HD.out] at HU1 ⊢; exact wordIs_bare HU1.out HN.out, Below.refl _ _⟩

/-- What a piece is to the reader. -/
def pcV : Pc → Value
  | .tok (.sgn c) _ => .iface 56 (.int .u8 (c.toNat : Int))
  | .tok (.wrd w) _ => .iface 68 (.string ⟨w.toArray⟩)
  | .fin b => .iface 60 (.agg #[.bool b])
set_option maxRecDepth 100000 in
set_option maxHeartbeats 1000000 in
theorem pieceAt_any (s : ByteArray) (k : Nat) (w : World) (hl : s.size ≤ 1000000000) (hk : k ≤ s.size) :
    Calls Tryz.prog 20 #[.string s, .int .i64 (k : Int)] w fun e w' => ∃ j : Nat, e = .returned (.tuple #[pcV (pcL (s.data.toList.drop k)), .int .i64 (j : Int)]) ∧ j ≤ s.size ∧
      (∀ t r, pcL (s.data.toList.drop k) = .tok t r → s.data.toList.drop j = r) ∧ Below w.heap.size w w' := by
  by_cases hlt : k < s.size
  · have b1 : ((k : Int) == (s.size : Int)) = false := beq_no (by omega)
    have HD := Lib.hid (drop_cons s k hlt)
    rw [HD.out]
    rcases Bool.eq_false_or_eq_true (signB s[k]) with hs | hs
    · have HS := Lib.hid (fun w => sign_yes hs w)
      have HP : Hid (pcL (s[k] :: s.data.toList.drop (k + 1)) = .tok (.sgn s[k]) (s.data.toList.drop (k + 1))) := by unfold Hid; rw [pcL_cons, if_pos hs]
      clear hs
      go_enter Tryz.func20, Tryz.ntmps20
      go_wp2_with (go_at_call 29; refine (HS.out _).mono ?_; rintro e w1 ⟨n, rfl, rfl⟩; have hnn : (0 : Int) ≤ (n : Int) := by omega)
      go_ret2
      refine ⟨k + 1, ?_, by omega, ?_, Below.refl _ _⟩
      · rw [HP.out]
        rfl
      · intro t r h
        rw [HP.out] at h
        cases h
        rfl
    · have HS := Lib.hid (fun w => sign_no hs w)
      have HW := Lib.hid (wordAt_any s k w hl hlt)
      have HP := Lib.hid (pcL_word s[k] (s.data.toList.drop (k + 1)) hs)
      clear hs
      go_enter Tryz.func20, Tryz.ntmps20
      go_wp2_with (go_at_call 29; refine (HS.out _).mono ?_; rintro e w1 ⟨rfl, rfl⟩)
      with_reducible refine HW.out.mono ?_
      rintro e w1 ⟨v, j, b, rfl, hj, hw, hb1⟩
      rw [HD.out] at hw
      unfold wordIs at hw
      cases hx : wordL (s[k] :: s.data.toList.drop (k + 1)) with
      | none =>
        rw [hx] at hw
        obtain rfl : b = false := hw
        have HP2 : Hid (pcL (s[k] :: s.data.toList.drop (k + 1)) = .fin false) := by unfold Hid; rw [HP.out, hx]
        have HB1 := Lib.hid hb1
        clear hx hb1 HP
        go_wp2_with fail
        go_ret2
        refine ⟨k, ?_, hk, ?_, HB1.out⟩
        · rw [HP2.out]
          rfl
        · intro t r h
          rw [HP2.out] at h
          cases h
      | some p =>
        obtain ⟨v', r'⟩ := p
        rw [hx] at hw
        obtain ⟨rfl, rfl, hr⟩ := hw
        have HP2 : Hid (pcL (s[k] :: s.data.toList.drop (k + 1)) = .tok (.wrd v) r') := by unfold Hid; rw [HP.out, hx]
        have HB1 := Lib.hid hb1
        have HR := Lib.hid hr
        clear hx hb1 HP hr
        go_wp2_with fail
        go_ret2
        refine ⟨j, ?_, hj, ?_, HB1.out⟩
        · rw [HP2.out]
          rfl
        · intro t r h
          rw [HP2.out] at h
          cases h
          exact HR.out
  · have b1 : ((k : Int) == (s.size : Int)) = true := beq_yes (by omega)
    have HE : Hid (s.data.toList.drop k = []) := List.drop_eq_nil_of_le (by simp; omega)
    go_enter Tryz.func20, Tryz.ntmps20
    go_wp2_with fail
    go_ret2
    refine ⟨k, ?_, hk, ?_, Below.refl _ _⟩
    · rw [HE.out]
      rfl
    · intro t r h
      rw [HE.out] at h
      cases h
end Go.Proofs.YtjlcphofkepajaaGreat
