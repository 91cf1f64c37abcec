/- Contracts of package addr: the reader's signs and words. -/
import Derived.Test.YtjlcphofkepajaaGreatAdE
import Derived.Test.YtjlcphofkepajaaGreatStrs
namespace Go.Proofs.YtjlcphofkepajaaGreat
open Go Go.RowKit

theorem sign_sign (c : Int) (W : World) : (Instr.typeAssert (.iface 56 (.int .u8 c)) 46 56 true).run Tryz.prog W = .ok (.tuple #[.int .u8 c, .bool true]) W := by kernel_rfl
theorem word_sign (s : ByteArray) (W : World) : (Instr.typeAssert (.iface 68 (.string s)) 46 56 true).run Tryz.prog W = .ok (.tuple #[.int .u8 0, .bool false]) W := by kernel_rfl
theorem end_sign (b : Bool) (W : World) : (Instr.typeAssert (.iface 60 (.agg #[.bool b])) 46 56 true).run Tryz.prog W = .ok (.tuple #[.int .u8 0, .bool false]) W := by kernel_rfl
theorem sign_word (c : Int) (W : World) : (Instr.typeAssert (.iface 56 (.int .u8 c)) 46 68 true).run Tryz.prog W = .ok (.tuple #[.string ⟨#[]⟩, .bool false]) W := by kernel_rfl
theorem word_word (s : ByteArray) (W : World) : (Instr.typeAssert (.iface 68 (.string s)) 46 68 true).run Tryz.prog W = .ok (.tuple #[.string s, .bool true]) W := by kernel_rfl
theorem end_word (b : Bool) (W : World) : (Instr.typeAssert (.iface 60 (.agg #[.bool b])) 46 68 true).run Tryz.prog W = .ok (.tuple #[.string ⟨#[]⟩, .bool false]) W := by kernel_rfl
theorem sign_end (c : Int) (W : World) : (Instr.typeAssert (.iface 56 (.int .u8 c)) 46 60 true).run Tryz.prog W = .ok (.tuple #[.agg #[.bool false], .bool false]) W := by kernel_rfl
theorem word_end (s : ByteArray) (W : World) : (Instr.typeAssert (.iface 68 (.string s)) 46 60 true).run Tryz.prog W = .ok (.tuple #[.agg #[.bool false], .bool false]) W := by kernel_rfl
theorem end_end (b : Bool) (W : World) : (Instr.typeAssert (.iface 60 (.agg #[.bool b])) 46 60 true).run Tryz.prog W = .ok (.tuple #[.agg #[.bool b], .bool true]) W := by kernel_rfl

theorem Rdr.step {W : World} {B : Nat} {s : ByteArray} {t : Tok} {ts : List Tok} {b : Bool} {tv : Value} (h : Rdr W B s (t :: ts) b tv) (hl : s.size ≤ 1000000000) :
    ∃ k u, Raw W B s k u tv ∧ u = pcV (.tok t []) ∧
    Calls Tryz.prog 13 #[.pointer (some ⟨B, 0, none⟩)] W fun e w' => e = .returned (.tuple #[]) ∧ Rdr w' B s ts b tv ∧ GrB B W w' := by
  obtain ⟨k, u, h1, h2, h3, h4, h5⟩ := h
  refine ⟨k, u, h1, h4, (next_any B s k u tv W h1 hl h2).mono fun e w' ⟨he, hr, hg⟩ => ⟨he, ?_, hg⟩⟩
  rw [h5] at hr
  exact hr

set_option maxRecDepth 100000 in
set_option maxHeartbeats 1000000 in
theorem takesA_any (B : Nat) (s : ByteArray) (ts : List Tok) (b : Bool) (tv : Value) (c : UInt8) (w : World) (hr : Rdr w B s ts b tv) (hl : s.size ≤ 1000000000) :
    Calls Tryz.prog 22 #[.pointer (some ⟨B, 0, none⟩), .int .u8 (c.toNat : Int)] w fun e w' => e = .returned (.bool (takesT c ts).1) ∧
      Rdr w' B s (takesT c ts).2 b tv ∧ GrB B w w' := by
  have HR := Lib.hid hr
  cases ts with
  | nil =>
    obtain ⟨k, u, h1, h2, h3, rfl⟩ := hr
    have c2 := h1.c2
    unfold pcV at c2
    clear h1
    have ta1 := sign_sign
    have ta2 := word_sign
    have ta3 := end_sign
    go_enter Tryz.func22, Tryz.ntmps22
    go_wp2_with fail
    go_ret
    exact ⟨rfl, HR.out, GrB.refl _ _⟩
  | cons t ts =>
    obtain ⟨k, u, h1, rfl, HN⟩ := hr.step hl
    have HN := Lib.hid HN
    have c2 := h1.c2
    clear h1 hr
    cases t with
    | wrd v =>
      unfold pcV at c2
      have ta1 := sign_sign
      have ta2 := word_sign
      have ta3 := end_sign
      go_enter Tryz.func22, Tryz.ntmps22
      go_wp2_with fail
      go_ret
      exact ⟨rfl, HR.out, GrB.refl _ _⟩
    | sgn d =>
      unfold pcV at c2
      by_cases hd : d = c
      · subst hd
        have b1 : (((d.toNat : Nat) : Int) == ((d.toNat : Nat) : Int)) = true := beq_yes rfl
        have e1 : takesT d (.sgn d :: ts) = (true, ts) := by simp [takesT]
        rw [e1]
        clear e1
        have ta1 := sign_sign
        have ta2 := word_sign
        have ta3 := end_sign
        go_enter Tryz.func22, Tryz.ntmps22
        go_wp2_with fail
        with_reducible refine HN.out.mono ?_
        rintro e w1 ⟨rfl, hr1, hg1⟩
        have HR1 := Lib.hid hr1
        have HG1 := Lib.hid hg1
        clear hr1 hg1
        go_wp2_with fail
        go_ret
        exact ⟨rfl, HR1.out, HG1.out⟩
      · have b1 : (((d.toNat : Nat) : Int) == ((c.toNat : Nat) : Int)) = false := beq_no (fun h => hd (toNat_eq (by omega)))
        have e1 : takesT c (.sgn d :: ts) = (false, .sgn d :: ts) := by simp [takesT, hd]
        rw [e1]
        clear e1
        have ta1 := sign_sign
        have ta2 := word_sign
        have ta3 := end_sign
        go_enter Tryz.func22, Tryz.ntmps22
        go_wp2_with fail
        go_ret
        exact ⟨rfl, HR.out, GrB.refl _ _⟩
theorem takesA_int (B : Nat) (s : ByteArray) (ts : List Tok) (b : Bool) (tv : Value) (c : UInt8) (n : Int) (hn : (c.toNat : Int) = n) (w : World) (hr : Rdr w B s ts b tv) (hl : s.size ≤ 1000000000) :
    Calls Tryz.prog 22 #[.pointer (some ⟨B, 0, none⟩), .int .u8 n] w fun e w' => e = .returned (.bool (takesT c ts).1) ∧
      Rdr w' B s (takesT c ts).2 b tv ∧ GrB B w w' := by
  subst hn
  exact takesA_any B s ts b tv c w hr hl

def wordV : Option (List UInt8) → Value
  | some w => .tuple #[.string ⟨w.toArray⟩, .bool true]
  | none => .tuple #[.string ⟨#[]⟩, .bool false]
set_option maxRecDepth 100000 in
set_option maxHeartbeats 1000000 in
theorem wordA_any (B : Nat) (s : ByteArray) (ts : List Tok) (b : Bool) (tv : Value) (w : World) (hr : Rdr w B s ts b tv) (hl : s.size ≤ 1000000000) :
    Calls Tryz.prog 33 #[.pointer (some ⟨B, 0, none⟩)] w fun e w' => e = .returned (wordV (wordT ts).1) ∧
      Rdr w' B s (wordT ts).2 b tv ∧ GrB B w w' := by
  have HR := Lib.hid hr
  cases ts with
  | nil =>
    obtain ⟨k, u, h1, h2, h3, rfl⟩ := hr
    have c2 := h1.c2
    unfold pcV at c2
    clear h1
    have ta1 := sign_word
    have ta2 := word_word
    have ta3 := end_word
    go_enter Tryz.func33, Tryz.ntmps33
    go_wp2_with fail
    go_ret2
    exact ⟨rfl, HR.out, GrB.refl _ _⟩
  | cons t ts =>
    obtain ⟨k, u, h1, rfl, HN⟩ := hr.step hl
    have HN := Lib.hid HN
    have c2 := h1.c2
    clear h1 hr
    cases t with
    | sgn d =>
      unfold pcV at c2
      have ta1 := sign_word
      have ta2 := word_word
      have ta3 := end_word
      go_enter Tryz.func33, Tryz.ntmps33
      go_wp2_with fail
      go_ret2
      exact ⟨rfl, HR.out, GrB.refl _ _⟩
    | wrd v =>
      unfold pcV at c2
      have ta1 := sign_word
      have ta2 := word_word
      have ta3 := end_word
      go_enter Tryz.func33, Tryz.ntmps33
      go_wp2_with fail
      with_reducible refine HN.out.mono ?_
      rintro e w1 ⟨rfl, hr1, hg1⟩
      have HR1 := Lib.hid hr1
      have HG1 := Lib.hid hg1
      clear hr1 hg1
      go_wp2_with fail
      go_ret2
      exact ⟨rfl, HR1.out, HG1.out⟩
set_option maxRecDepth 100000 in
set_option maxHeartbeats 1000000 in
theorem ended_any (B : Nat) (s : ByteArray) (ts : List Tok) (b : Bool) (tv : Value) (w : World) (hr : Rdr w B s ts b tv) :
    Calls Tryz.prog 16 #[.pointer (some ⟨B, 0, none⟩)] w fun e w' => e = .returned (.bool (ts.isEmpty && b)) ∧ Below w.heap.size w w' := by
  cases ts with
  | nil =>
    obtain ⟨k, u, h1, h2, h3, rfl⟩ := hr
    have c2 := h1.c2
    unfold pcV at c2
    clear h1
    have ta1 := sign_end
    have ta2 := word_end
    have ta3 := end_end
    go_enter Tryz.func16, Tryz.ntmps16
    go_wp2_with fail
    go_ret
    exact ⟨rfl, (Below.refl _ _).alloc (Nat.le_refl _) _⟩
  | cons t ts =>
    obtain ⟨k, u, h1, h2, h3, rfl, h5⟩ := hr
    have c2 := h1.c2
    clear h1 h5
    cases t with
    | sgn d =>
      unfold pcV at c2
      have ta1 := sign_end
      have ta2 := word_end
      have ta3 := end_end
      go_enter Tryz.func16, Tryz.ntmps16
      go_wp2_with fail
      go_ret
      exact ⟨rfl, Below.refl _ _⟩
    | wrd v =>
      unfold pcV at c2
      have ta1 := sign_end
      have ta2 := word_end
      have ta3 := end_end
      go_enter Tryz.func16, Tryz.ntmps16
      go_wp2_with fail
      go_ret
      exact ⟨rfl, Below.refl _ _⟩
end Go.Proofs.YtjlcphofkepajaaGreat
