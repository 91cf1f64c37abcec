/- Contracts of the laws of layer 8: awake; what is the same, in either of the two. -/
import Derived.Test.YtodheanfpclhaaaDoorCsW
namespace Go.Proofs.YtodheanfpclhaaaDoor
open Go Go.RowKit

theorem one_arg (w : World) (c : UInt8) : bytesArg (w.alloc (.cells #[.int .u8 (c.toNat : Int)] 5)) (.slice (some ⟨w.heap.size, 0, none⟩) 1 1) [c] :=
  ⟨_, 1, rfl, Nat.le_refl _, by unfold maxLen; decide, sliceAt_new w 5 (0, 0) #[.int .u8 (c.toNat : Int)] [c] rfl⟩
theorem one_arg233 (W : World) : bytesArg (W.alloc (.cells #[.int .u8 233] 5)) (.slice (some ⟨W.heap.size, 0, none⟩) 1 1) [233] := one_arg W 233
theorem kLatin1 : kindL (⟨#[76, 97, 116, 105, 110, 49]⟩ : ByteArray).data.toList = 2 := by kernel_rfl
theorem kUsAscii : kindL (⟨#[117, 115, 45, 97, 115, 99, 105, 105]⟩ : ByteArray).data.toList = 1 := by kernel_rfl
theorem kIso : kindL (⟨#[105, 115, 111, 45, 56, 56, 53, 57, 45, 49]⟩ : ByteArray).data.toList = 2 := by kernel_rfl
theorem kUtf : decide (kindL (⟨#[85, 84, 70, 45, 56]⟩ : ByteArray).data.toList ≠ 0) = true := by kernel_rfl
theorem kKoi : decide (kindL (⟨#[107, 111, 105, 56, 45, 114]⟩ : ByteArray).data.toList ≠ 0) = false := by kernel_rfl
theorem tLatin : textK 2 [233] = some [195, 169] := by kernel_rfl
theorem tAscii : textK 1 [233] = none := by kernel_rfl
theorem bIso : bytesK 2 [195, 169] = some [233] := by kernel_rfl

set_option maxRecDepth 100000 in
set_option maxHeartbeats 4000000 in
theorem awake_any (w : World) (hT : Tryd.tabs w) :
    Calls Tryd.prog 7 #[] w fun e w' => e = .returned (.bool true) ∧ Below w.heap.size w w' := by
  have HTb := Lib.hid hT
  have H1 : Hid (∀ W v, Below w.heap.size w W → bytesArg W v [233] → Calls Tryd.prog 8 #[.string ⟨#[76, 97, 116, 105, 110, 49]⟩, v] W fun e w' => e = .returned (.tuple #[.string ⟨#[195, 169]⟩, .int .i64 0]) ∧ Below W.heap.size W w') := fun W v hb hv => by
    have h := text_any ⟨#[76, 97, 116, 105, 110, 49]⟩ v [233] W (by decide) hv (by decide) (Utf8Tabs_below HTb.out hb)
    rw [kLatin1, tLatin] at h
    exact h
  have H2 : Hid (∀ W v, Below w.heap.size w W → bytesArg W v [233] → Calls Tryd.prog 8 #[.string ⟨#[117, 115, 45, 97, 115, 99, 105, 105]⟩, v] W fun e w' => e = .returned (.tuple #[.string ⟨#[]⟩, .int .i64 21]) ∧ Below W.heap.size W w') := fun W v hb hv => by
    have h := text_any ⟨#[117, 115, 45, 97, 115, 99, 105, 105]⟩ v [233] W (by decide) hv (by decide) (Utf8Tabs_below HTb.out hb)
    rw [kUsAscii, tAscii] at h
    exact h
  have H3 : Hid (∀ W, Below w.heap.size w W → Calls Tryd.prog 10 #[.string ⟨#[105, 115, 111, 45, 56, 56, 53, 57, 45, 49]⟩, .string ⟨#[195, 169]⟩] W fun e w' => (∃ v, e = .returned v ∧ bytE (some [233]) v w') ∧ Below W.heap.size W w') := fun W hb => by
    have h := bytes_any ⟨#[105, 115, 111, 45, 56, 56, 53, 57, 45, 49]⟩ ⟨#[195, 169]⟩ W (by decide) (by decide) (Utf8Tabs_below HTb.out hb)
    rw [kIso, show (⟨#[195, 169]⟩ : ByteArray).data.toList = [195, 169] from rfl, bIso] at h
    exact h
  have H4 : Hid (∀ W, Calls Tryd.prog 12 #[.string ⟨#[85, 84, 70, 45, 56]⟩] W fun e w' => e = .returned (.bool true) ∧ Below W.heap.size W w') := fun W => by
    have h := known_any ⟨#[85, 84, 70, 45, 56]⟩ W (by decide)
    rw [kUtf] at h
    exact h
  have H5 : Hid (∀ W, Calls Tryd.prog 12 #[.string ⟨#[107, 111, 105, 56, 45, 114]⟩] W fun e w' => e = .returned (.bool false) ∧ Below W.heap.size W w') := fun W => by
    have h := known_any ⟨#[107, 111, 105, 56, 45, 114]⟩ W (by decide)
    rw [kKoi] at h
    exact h
  have q1 : ((⟨#[195, 169]⟩ : ByteArray).toList == [195, 169]) = true := by kernel_rfl
  clear hT
  go_enter Tryd.func7, Tryd.ntmps7
  go_wp2_with fail
  have HB0 : Hid (Below w.heap.size w (w.alloc (.cells #[.int .u8 233] 5))) := (Below.refl _ _).alloc (Nat.le_refl _) _
  with_reducible refine (H1.out _ _ HB0.out (one_arg233 w)).mono ?_
  rintro e w1 ⟨rfl, hb1⟩
  have HB1 := Lib.hid (HB0.out.trans (hb1.mono HB0.out.size))
  clear hb1
  go_wp2_with fail
  have HB1a : Hid (Below w.heap.size w (w1.alloc (.cells #[.int .u8 233] 5))) := HB1.out.alloc HB1.out.size _
  with_reducible refine (H2.out _ _ HB1a.out (one_arg233 w1)).mono ?_
  rintro e w2 ⟨rfl, hb2⟩
  have HB2 := Lib.hid (HB1a.out.trans (hb2.mono HB1a.out.size))
  clear hb2
  go_wp2_with fail
  with_reducible refine (H3.out _ HB2.out).mono ?_
  rintro e w3 ⟨⟨v, rfl, u, rfl, harg⟩, hb3⟩
  have HB3 := Lib.hid (HB2.out.trans (hb3.mono HB2.out.size))
  obtain ⟨ao, cap, rfl, hc, hm, hs⟩ := harg
  unfold maxLen at hm
  rcases hs with h | ⟨b, off, rfl, hb, hcell⟩
  · cases h
  have c0 : w3.cell? ⟨b, off, none⟩ = some (.int .u8 233) := hcell 0 (by decide)
  clear hb3 hcell
  simp only [List.length_cons, List.length_nil]
  go_wp2_with fail
  with_reducible refine (H4.out _).mono ?_
  rintro e w4 ⟨rfl, hb4⟩
  have HB4 := Lib.hid (HB3.out.trans (hb4.mono HB3.out.size))
  clear hb4
  go_wp2_with fail
  with_reducible refine (H5.out _).mono ?_
  rintro e w5 ⟨rfl, hb5⟩
  have HB5 := Lib.hid (HB4.out.trans (hb5.mono HB4.out.size))
  clear hb5
  go_wp2_with fail
  go_ret
  exact ⟨rfl, HB5.out⟩

/-- What an answer of two is, whatever it is. -/
theorem errV_two (o : Option (List UInt8)) : ∃ (S : ByteArray) (n : Int), errV o = .tuple #[.string S, .int .i64 n] := by
  cases o with
  | none => exact ⟨_, _, rfl⟩
  | some t => exact ⟨_, _, rfl⟩
theorem nil_arg (W : World) : bytesArg W (.slice none 0 0) [] := ⟨none, 0, rfl, Nat.le_refl _, Nat.zero_le _, .inl rfl⟩
theorem bytE_two {o : Option (List UInt8)} {S : ByteArray} {n : Int} {v : Value} {W : World} (h : errV o = .tuple #[.string S, .int .i64 n]) (hv : bytE o v W) : ∃ u l, v = .tuple #[u, .int .i64 n] ∧ bytesArg W u l ∧ S = ⟨l.toArray⟩ := by
  cases o with
  | none =>
    have h' : Value.tuple #[.string ⟨#[]⟩, .int .i64 21] = .tuple #[.string S, .int .i64 n] := h
    simp only [Value.tuple.injEq, Array.mk.injEq, List.cons.injEq, Value.string.injEq, Value.int.injEq] at h'
    obtain ⟨rfl, ⟨_, rfl⟩, _⟩ := h'
    exact ⟨_, [], hv, nil_arg W, rfl⟩
  | some t =>
    obtain ⟨u, rfl, hu⟩ := hv
    have h' : Value.tuple #[.string ⟨t.toArray⟩, .int .i64 0] = .tuple #[.string S, .int .i64 n] := h
    simp only [Value.tuple.injEq, Array.mk.injEq, List.cons.injEq, Value.string.injEq, Value.int.injEq] at h'
    obtain ⟨rfl, ⟨_, rfl⟩, _⟩ := h'
    exact ⟨u, t, rfl, hu, rfl⟩
end Go.Proofs.YtodheanfpclhaaaDoor
