/- Statement CharsetChars: each character's bytes are one character's, and each byte of the narrow charsets is one character, of its number. -/
import Derived.Test.YtodheanfpclhaaaDoorCsX
namespace Go.Proofs.YtodheanfpclhaaaDoor
open Go Go.RowKit

theorem conv_rune (R : Nat) (W : World) : (convert 21 9 (.int .i32 (R : Int))).run Tryd.prog W = .ok (.string (Utf8.encode (R : Int))) W := by kernel_rfl
theorem utf8_enc (R : Nat) (h : isChr R) : (Utf8.encode (R : Int)).data.toList = Lib.encodeRune (R : Int) := by
  have hv : Utf8.valid (R : Int) = true := by
    unfold isChr at h
    simp [Utf8.valid]
    omega
  unfold isChr at h
  unfold Lib.encodeRune
  by_cases h1 : R < 128
  · rw [Lib.encodeRuneZ_one (by omega) (by omega)]
    simp only [List.map_cons, List.map_nil]
    rw [toU8 (n := R) rfl]
    unfold Utf8.encode
    simp only [hv, if_true, Int.toNat_natCast]
    rw [if_pos h1]
    rfl
  · by_cases h2 : R < 2048
    · rw [Lib.encodeRuneZ_two (by omega) (by omega)]
      simp only [List.map_cons, List.map_nil]
      rw [toU8 (n := 192 + R / 64) (by omega), toU8 (n := 128 + R % 64) (by omega)]
      unfold Utf8.encode
      simp only [hv, if_true, Int.toNat_natCast]
      rw [if_neg h1, if_pos h2]
      rfl
    · by_cases h3 : R < 65536
      · rw [Lib.encodeRuneZ_three (by omega)]
        simp only [List.map_cons, List.map_nil]
        rw [toU8 (n := 224 + R / 4096) (by omega), toU8 (n := 128 + R / 64 % 64) (by omega), toU8 (n := 128 + R % 64) (by omega)]
        unfold Utf8.encode
        simp only [hv, if_true, Int.toNat_natCast]
        rw [if_neg h1, if_neg h2, if_pos h3]
        rfl
      · rw [Lib.encodeRuneZ_four (by omega) (by omega)]
        simp only [List.map_cons, List.map_nil]
        rw [toU8 (n := 240 + R / 262144) (by omega), toU8 (n := 128 + R / 4096 % 64) (by omega), toU8 (n := 128 + R / 64 % 64) (by omega), toU8 (n := 128 + R % 64) (by omega)]
        unfold Utf8.encode
        simp only [hv, if_true, Int.toNat_natCast]
        rw [if_neg h1, if_neg h2, if_neg h3]
        rfl
theorem strConv (w : World) (s : ByteArray) (hs : s.size ≤ 1000000) :
    ∃ W1 cap, (convert 9 22 (.string s)).run Tryd.prog w = .ok (.slice (some ⟨w.heap.size, 0, none⟩) s.size cap) W1 ∧ bytesArg W1 (.slice (some ⟨w.heap.size, 0, none⟩) s.size cap) s.data.toList ∧ Below w.heap.size w W1 :=
  conv_bytesArg w 9 22 5 s (by unfold maxLen; omega) Tryd.underlying9 Tryd.underlying22 Tryd.underlying5
theorem kUtf8 : kindL (⟨#[117, 116, 102, 56]⟩ : ByteArray).data.toList = 3 := by kernel_rfl
theorem kLat1 : kindL (⟨#[108, 97, 116, 105, 110, 49]⟩ : ByteArray).data.toList = 2 := by kernel_rfl
theorem kAsc : kindL (⟨#[97, 115, 99, 105, 105]⟩ : ByteArray).data.toList = 1 := by kernel_rfl
theorem tLat1 (c : UInt8) : textK 2 [c] = some (enc8 c) := by
  have hc := c.toNat_lt
  unfold textK textM mostN
  rw [if_neg (by decide), if_neg (by decide), if_pos (by simp; omega)]
  simp
theorem tAsc (c : UInt8) : textK 1 [c] = if c.toNat < 128 then some [c] else none := by
  unfold textK textM mostN
  rw [if_neg (by decide), if_neg (by decide)]
  by_cases h : c.toNat < 128
  · rw [if_pos (by simp; omega), if_pos h]
    simp [enc8, h]
  · rw [if_neg (by simp; omega), if_neg h]
theorem bLat1 (R : Nat) (h : isChr R) : bytesK 2 (Lib.encodeRune (R : Int)) = if R < 256 then some [byteN R] else none := by
  unfold bytesK mostN
  rw [if_neg (by decide), if_neg (by decide), if_neg (by decide)]
  exact rune_sing R h
theorem rune_len (r : Int) : (Lib.encodeRune r).length ≤ 4 := by
  unfold Lib.encodeRune
  rw [List.length_map]
  exact (Lib.encodeRuneZ_length r).2
set_option maxRecDepth 100000 in
set_option maxHeartbeats 8000000 in
theorem chars_A_1_1 (x R : Nat) (c : UInt8) (w : World) (hx32 : x ≤ 4294967295) (hx : x % 1114112 < 55296) (hR : R = x % 1114112) (hc : c.toNat < 128) (hr : R < 256) (hT : Tryd.tabs w) :
    Calls Tryd.prog 5 #[.int .u32 (x : Int), .int .u8 (c.toNat : Int)] w fun e w' => e = .returned (.bool true) ∧ Below w.heap.size w w' := by
  have HAw := Lib.hid (awake_any w hT)
  have HTb := Lib.hid hT
  have hRc : isChr R := by unfold isChr; omega
  obtain ⟨M, hM⟩ : ∃ M, M = x % 1114112 := ⟨_, rfl⟩
  have m1 : (x : Int) % 1114112 = (M : Int) := by omega
  have m2 : (x : Int).tmod 1114112 = (M : Int) := by rw [Int.tmod_eq_emod_of_nonneg (by omega)]; exact m1
  have m3 : IntKind.u32.wrap (M : Int) = (M : Int) := by rw [IntKind.wrap_u32]; omega
  have m4 : IntKind.i32.wrap (M : Int) = (M : Int) := by rw [IntKind.wrap_i32]; omega
  have hcl := c.toNat_lt
  have c32 : IntKind.i32.wrap (c.toNat : Int) = (c.toNat : Int) := by rw [IntKind.wrap_i32]; omega
  have c32w : wrap32 (c.toNat : Int) = (c.toNat : Int) := by unfold wrap32; omega
  clear hcl
  rw [← hM] at hx hR
  have k1 : ¬ (55296 : Int) ≤ (M : Int) := by omega
  have k3 : decide ((55296 : Int) ≤ (M : Int)) = false := decide_eq_false k1
  subst hR
  obtain ⟨E, hE⟩ : ∃ E, E = Utf8.encode ((R : Nat) : Int) := ⟨_, rfl⟩
  have hEl : E.data.toList = Lib.encodeRune ((R : Nat) : Int) := by rw [hE]; exact utf8_enc R hRc
  have hEs : E.size ≤ 4 := by rw [← len_toList, hEl]; exact rune_len _
  have hcr : ∀ W, (convert 21 9 (.int .i32 ((R : Int)))).run Tryd.prog W = .ok (.string E) W := fun W => by rw [hE]; exact conv_rune R W
  obtain ⟨C8, hC8⟩ : ∃ C : ByteArray, C = ⟨(enc8 c).toArray⟩ := ⟨_, rfl⟩
  have hcc : ∀ W, (convert 21 9 (.int .i32 (c.toNat : Int))).run Tryd.prog W = .ok (.string C8) W := fun W => by
    have hct := c.toNat_lt
    have h := conv_rune c.toNat W
    have e : Utf8.encode (c.toNat : Int) = C8 := bytes_eq (by rw [utf8_enc c.toNat (.inl (by omega)), hC8, ← enc8_rune c.toNat hct, byteN_self])
    rw [e] at h
    exact h
  have H1 : Hid (∀ W v, Below w.heap.size w W → bytesArg W v E.data.toList → Calls Tryd.prog 8 #[.string ⟨#[117, 116, 102, 56]⟩, v] W fun e w' => e = .returned (.tuple #[.string E, .int .i64 0]) ∧ Below W.heap.size W w') := fun W v hb hv => by
    have h := text_any ⟨#[117, 116, 102, 56]⟩ v E.data.toList W (by decide) hv (by rw [len_toList]; omega) (Utf8Tabs_below HTb.out hb)
    have ht : textK 3 E.data.toList = some E.data.toList := by unfold textK; rw [if_neg (by decide), if_pos rfl, if_pos (by rw [hEl]; exact rune_valid R hRc)]
    rw [kUtf8, ht] at h
    exact h
  have H2 : Hid (∀ W v, Below w.heap.size w W → bytesArg W v [c] → Calls Tryd.prog 8 #[.string ⟨#[108, 97, 116, 105, 110, 49]⟩, v] W fun e w' => e = .returned (.tuple #[.string C8, .int .i64 0]) ∧ Below W.heap.size W w') := fun W v hb hv => by
    have h := text_any ⟨#[108, 97, 116, 105, 110, 49]⟩ v [c] W (by decide) hv (by simp) (Utf8Tabs_below HTb.out hb)
    rw [kLat1, tLat1] at h
    rw [hC8]
    exact h
  have H3 : Hid (∀ W v, Below w.heap.size w W → bytesArg W v [c] → Calls Tryd.prog 8 #[.string ⟨#[97, 115, 99, 105, 105]⟩, v] W fun e w' => e = .returned (.tuple #[.string ⟨#[c]⟩, .int .i64 0]) ∧ Below W.heap.size W w') := fun W v hb hv => by
    have h := text_any ⟨#[97, 115, 99, 105, 105]⟩ v [c] W (by decide) hv (by simp) (Utf8Tabs_below HTb.out hb)
    rw [kAsc, tAsc, if_pos hc] at h
    exact h
  have hcz : (c.toNat : Int) < 128 := by omega
  have H4 : Hid (∀ W, Below w.heap.size w W → Calls Tryd.prog 10 #[.string ⟨#[108, 97, 116, 105, 110, 49]⟩, .string E] W fun e w' => (∃ v, e = .returned v ∧ bytE (some [byteN R]) v w') ∧ Below W.heap.size W w') := fun W hb => by
    have h := bytes_any ⟨#[108, 97, 116, 105, 110, 49]⟩ E W (by decide) (by omega) (Utf8Tabs_below HTb.out hb)
    rw [kLat1, hEl, bLat1 R hRc, if_pos hr] at h
    exact h
  have hrz : ((R : Nat) : Int) < 256 := by omega
  have s1 : (E.toList == E.toList) = true := by simp
  have s2 : (C8.toList == C8.toList) = true := by simp
  clear hE hEl hC8 hT hRc hM
  go_enter Tryd.func5, Tryd.ntmps5
  go_wp2_with fail
  with_reducible refine HAw.out.mono ?_
  rintro e w1 ⟨rfl, hb1⟩
  have HB1 := Lib.hid hb1
  clear hb1
  obtain ⟨W1, cap1, hcv1, harg1, hbw1⟩ := strConv w1 E (by omega)
  have HA1 := Lib.hid harg1
  have HBw := Lib.hid (HB1.out.trans (hbw1.mono HB1.out.size))
  clear harg1 hbw1
  go_wp2_with fail
  with_reducible refine (H1.out _ _ HBw.out HA1.out).mono ?_
  rintro e w2 ⟨rfl, hb2⟩
  have HB2 := Lib.hid (HBw.out.trans (hb2.mono HBw.out.size))
  clear hb2
  go_wp2_with fail
  have HB2a := Lib.hid (HB2.out.alloc HB2.out.size (.cells #[.int .u8 (c.toNat : Int)] 5))
  with_reducible refine (H2.out _ _ HB2a.out (one_arg w2 c)).mono ?_
  rintro e w3 ⟨rfl, hb3⟩
  have HB3 := Lib.hid (HB2a.out.trans (hb3.mono HB2a.out.size))
  clear hb3
  go_wp2_with fail
  have HB3a := Lib.hid (HB3.out.alloc HB3.out.size (.cells #[.int .u8 (c.toNat : Int)] 5))
  with_reducible refine (H3.out _ _ HB3a.out (one_arg w3 c)).mono ?_
  rintro e w4 ⟨rfl, hb4⟩
  have HB4 := Lib.hid (HB3a.out.trans (hb4.mono HB3a.out.size))
  clear hb4
  go_wp2_with fail
  with_reducible refine (H4.out _ HB4.out).mono ?_
  rintro e w5 ⟨⟨vb, rfl, u, rfl, hu⟩, hb5⟩
  have HB5 := Lib.hid (HB4.out.trans (hb5.mono HB4.out.size))
  obtain ⟨uo, uc, rfl, huc, hum, hus⟩ := hu
  unfold maxLen at hum
  rcases hus with h | ⟨ub, uoff, rfl, hub, hucell⟩
  · cases h
  have c0 : w5.cell? ⟨ub, uoff, none⟩ = some (.int .u8 ((R : Nat) : Int)) := by
    have h := hucell 0 (by simp)
    have e : byteV (byteN R) = .int .u8 ((R : Nat) : Int) := by unfold byteV; rw [byteN_toNat R (by omega)]
    exact h.trans (congrArg some e)
  clear hb5 hucell
  simp only [List.length_cons, List.length_nil]
  go_wp2_with fail
  go_ret
  exact ⟨rfl, HB5.out⟩
set_option maxRecDepth 100000 in
set_option maxHeartbeats 8000000 in
theorem chars_A_0_1 (x R : Nat) (c : UInt8) (w : World) (hx32 : x ≤ 4294967295) (hx : x % 1114112 < 55296) (hR : R = x % 1114112) (hc : ¬ c.toNat < 128) (hr : R < 256) (hT : Tryd.tabs w) :
    Calls Tryd.prog 5 #[.int .u32 (x : Int), .int .u8 (c.toNat : Int)] w fun e w' => e = .returned (.bool true) ∧ Below w.heap.size w w' := by
  have HAw := Lib.hid (awake_any w hT)
  have HTb := Lib.hid hT
  have hRc : isChr R := by unfold isChr; omega
  obtain ⟨M, hM⟩ : ∃ M, M = x % 1114112 := ⟨_, rfl⟩
  have m1 : (x : Int) % 1114112 = (M : Int) := by omega
  have m2 : (x : Int).tmod 1114112 = (M : Int) := by rw [Int.tmod_eq_emod_of_nonneg (by omega)]; exact m1
  have m3 : IntKind.u32.wrap (M : Int) = (M : Int) := by rw [IntKind.wrap_u32]; omega
  have m4 : IntKind.i32.wrap (M : Int) = (M : Int) := by rw [IntKind.wrap_i32]; omega
  have hcl := c.toNat_lt
  have c32 : IntKind.i32.wrap (c.toNat : Int) = (c.toNat : Int) := by rw [IntKind.wrap_i32]; omega
  have c32w : wrap32 (c.toNat : Int) = (c.toNat : Int) := by unfold wrap32; omega
  clear hcl
  rw [← hM] at hx hR
  have k1 : ¬ (55296 : Int) ≤ (M : Int) := by omega
  have k3 : decide ((55296 : Int) ≤ (M : Int)) = false := decide_eq_false k1
  subst hR
  obtain ⟨E, hE⟩ : ∃ E, E = Utf8.encode ((R : Nat) : Int) := ⟨_, rfl⟩
  have hEl : E.data.toList = Lib.encodeRune ((R : Nat) : Int) := by rw [hE]; exact utf8_enc R hRc
  have hEs : E.size ≤ 4 := by rw [← len_toList, hEl]; exact rune_len _
  have hcr : ∀ W, (convert 21 9 (.int .i32 ((R : Int)))).run Tryd.prog W = .ok (.string E) W := fun W => by rw [hE]; exact conv_rune R W
  obtain ⟨C8, hC8⟩ : ∃ C : ByteArray, C = ⟨(enc8 c).toArray⟩ := ⟨_, rfl⟩
  have hcc : ∀ W, (convert 21 9 (.int .i32 (c.toNat : Int))).run Tryd.prog W = .ok (.string C8) W := fun W => by
    have hct := c.toNat_lt
    have h := conv_rune c.toNat W
    have e : Utf8.encode (c.toNat : Int) = C8 := bytes_eq (by rw [utf8_enc c.toNat (.inl (by omega)), hC8, ← enc8_rune c.toNat hct, byteN_self])
    rw [e] at h
    exact h
  have H1 : Hid (∀ W v, Below w.heap.size w W → bytesArg W v E.data.toList → Calls Tryd.prog 8 #[.string ⟨#[117, 116, 102, 56]⟩, v] W fun e w' => e = .returned (.tuple #[.string E, .int .i64 0]) ∧ Below W.heap.size W w') := fun W v hb hv => by
    have h := text_any ⟨#[117, 116, 102, 56]⟩ v E.data.toList W (by decide) hv (by rw [len_toList]; omega) (Utf8Tabs_below HTb.out hb)
    have ht : textK 3 E.data.toList = some E.data.toList := by unfold textK; rw [if_neg (by decide), if_pos rfl, if_pos (by rw [hEl]; exact rune_valid R hRc)]
    rw [kUtf8, ht] at h
    exact h
  have H2 : Hid (∀ W v, Below w.heap.size w W → bytesArg W v [c] → Calls Tryd.prog 8 #[.string ⟨#[108, 97, 116, 105, 110, 49]⟩, v] W fun e w' => e = .returned (.tuple #[.string C8, .int .i64 0]) ∧ Below W.heap.size W w') := fun W v hb hv => by
    have h := text_any ⟨#[108, 97, 116, 105, 110, 49]⟩ v [c] W (by decide) hv (by simp) (Utf8Tabs_below HTb.out hb)
    rw [kLat1, tLat1] at h
    rw [hC8]
    exact h
  have H3 : Hid (∀ W v, Below w.heap.size w W → bytesArg W v [c] → Calls Tryd.prog 8 #[.string ⟨#[97, 115, 99, 105, 105]⟩, v] W fun e w' => e = .returned (.tuple #[.string ⟨#[]⟩, .int .i64 21]) ∧ Below W.heap.size W w') := fun W v hb hv => by
    have h := text_any ⟨#[97, 115, 99, 105, 105]⟩ v [c] W (by decide) hv (by simp) (Utf8Tabs_below HTb.out hb)
    rw [kAsc, tAsc, if_neg hc] at h
    exact h
  have hcz : ¬ (c.toNat : Int) < 128 := by omega
  have hcd : decide ((c.toNat : Int) < 128) = false := decide_eq_false hcz
  have H4 : Hid (∀ W, Below w.heap.size w W → Calls Tryd.prog 10 #[.string ⟨#[108, 97, 116, 105, 110, 49]⟩, .string E] W fun e w' => (∃ v, e = .returned v ∧ bytE (some [byteN R]) v w') ∧ Below W.heap.size W w') := fun W hb => by
    have h := bytes_any ⟨#[108, 97, 116, 105, 110, 49]⟩ E W (by decide) (by omega) (Utf8Tabs_below HTb.out hb)
    rw [kLat1, hEl, bLat1 R hRc, if_pos hr] at h
    exact h
  have hrz : ((R : Nat) : Int) < 256 := by omega
  have s1 : (E.toList == E.toList) = true := by simp
  have s2 : (C8.toList == C8.toList) = true := by simp
  clear hE hEl hC8 hT hRc hM
  go_enter Tryd.func5, Tryd.ntmps5
  go_wp2_with fail
  with_reducible refine HAw.out.mono ?_
  rintro e w1 ⟨rfl, hb1⟩
  have HB1 := Lib.hid hb1
  clear hb1
  obtain ⟨W1, cap1, hcv1, harg1, hbw1⟩ := strConv w1 E (by omega)
  have HA1 := Lib.hid harg1
  have HBw := Lib.hid (HB1.out.trans (hbw1.mono HB1.out.size))
  clear harg1 hbw1
  go_wp2_with fail
  with_reducible refine (H1.out _ _ HBw.out HA1.out).mono ?_
  rintro e w2 ⟨rfl, hb2⟩
  have HB2 := Lib.hid (HBw.out.trans (hb2.mono HBw.out.size))
  clear hb2
  go_wp2_with fail
  have HB2a := Lib.hid (HB2.out.alloc HB2.out.size (.cells #[.int .u8 (c.toNat : Int)] 5))
  with_reducible refine (H2.out _ _ HB2a.out (one_arg w2 c)).mono ?_
  rintro e w3 ⟨rfl, hb3⟩
  have HB3 := Lib.hid (HB2a.out.trans (hb3.mono HB2a.out.size))
  clear hb3
  go_wp2_with fail
  have HB3a := Lib.hid (HB3.out.alloc HB3.out.size (.cells #[.int .u8 (c.toNat : Int)] 5))
  with_reducible refine (H3.out _ _ HB3a.out (one_arg w3 c)).mono ?_
  rintro e w4 ⟨rfl, hb4⟩
  have HB4 := Lib.hid (HB3a.out.trans (hb4.mono HB3a.out.size))
  clear hb4
  go_wp2_with fail
  with_reducible refine (H4.out _ HB4.out).mono ?_
  rintro e w5 ⟨⟨vb, rfl, u, rfl, hu⟩, hb5⟩
  have HB5 := Lib.hid (HB4.out.trans (hb5.mono HB4.out.size))
  obtain ⟨uo, uc, rfl, huc, hum, hus⟩ := hu
  unfold maxLen at hum
  rcases hus with h | ⟨ub, uoff, rfl, hub, hucell⟩
  · cases h
  have c0 : w5.cell? ⟨ub, uoff, none⟩ = some (.int .u8 ((R : Nat) : Int)) := by
    have h := hucell 0 (by simp)
    have e : byteV (byteN R) = .int .u8 ((R : Nat) : Int) := by unfold byteV; rw [byteN_toNat R (by omega)]
    exact h.trans (congrArg some e)
  clear hb5 hucell
  simp only [List.length_cons, List.length_nil]
  go_wp2_with fail
  go_ret
  exact ⟨rfl, HB5.out⟩
set_option maxRecDepth 100000 in
set_option maxHeartbeats 8000000 in
theorem chars_A_1_0 (x R : Nat) (c : UInt8) (w : World) (hx32 : x ≤ 4294967295) (hx : x % 1114112 < 55296) (hR : R = x % 1114112) (hc : c.toNat < 128) (hr : ¬ R < 256) (hT : Tryd.tabs w) :
    Calls Tryd.prog 5 #[.int .u32 (x : Int), .int .u8 (c.toNat : Int)] w fun e w' => e = .returned (.bool true) ∧ Below w.heap.size w w' := by
  have HAw := Lib.hid (awake_any w hT)
  have HTb := Lib.hid hT
  have hRc : isChr R := by unfold isChr; omega
  obtain ⟨M, hM⟩ : ∃ M, M = x % 1114112 := ⟨_, rfl⟩
  have m1 : (x : Int) % 1114112 = (M : Int) := by omega
  have m2 : (x : Int).tmod 1114112 = (M : Int) := by rw [Int.tmod_eq_emod_of_nonneg (by omega)]; exact m1
  have m3 : IntKind.u32.wrap (M : Int) = (M : Int) := by rw [IntKind.wrap_u32]; omega
  have m4 : IntKind.i32.wrap (M : Int) = (M : Int) := by rw [IntKind.wrap_i32]; omega
  have hcl := c.toNat_lt
  have c32 : IntKind.i32.wrap (c.toNat : Int) = (c.toNat : Int) := by rw [IntKind.wrap_i32]; omega
  have c32w : wrap32 (c.toNat : Int) = (c.toNat : Int) := by unfold wrap32; omega
  clear hcl
  rw [← hM] at hx hR
  have k1 : ¬ (55296 : Int) ≤ (M : Int) := by omega
  have k3 : decide ((55296 : Int) ≤ (M : Int)) = false := decide_eq_false k1
  subst hR
  obtain ⟨E, hE⟩ : ∃ E, E = Utf8.encode ((R : Nat) : Int) := ⟨_, rfl⟩
  have hEl : E.data.toList = Lib.encodeRune ((R : Nat) : Int) := by rw [hE]; exact utf8_enc R hRc
  have hEs : E.size ≤ 4 := by rw [← len_toList, hEl]; exact rune_len _
  have hcr : ∀ W, (convert 21 9 (.int .i32 ((R : Int)))).run Tryd.prog W = .ok (.string E) W := fun W => by rw [hE]; exact conv_rune R W
  obtain ⟨C8, hC8⟩ : ∃ C : ByteArray, C = ⟨(enc8 c).toArray⟩ := ⟨_, rfl⟩
  have hcc : ∀ W, (convert 21 9 (.int .i32 (c.toNat : Int))).run Tryd.prog W = .ok (.string C8) W := fun W => by
    have hct := c.toNat_lt
    have h := conv_rune c.toNat W
    have e : Utf8.encode (c.toNat : Int) = C8 := bytes_eq (by rw [utf8_enc c.toNat (.inl (by omega)), hC8, ← enc8_rune c.toNat hct, byteN_self])
    rw [e] at h
    exact h
  have H1 : Hid (∀ W v, Below w.heap.size w W → bytesArg W v E.data.toList → Calls Tryd.prog 8 #[.string ⟨#[117, 116, 102, 56]⟩, v] W fun e w' => e = .returned (.tuple #[.string E, .int .i64 0]) ∧ Below W.heap.size W w') := fun W v hb hv => by
    have h := text_any ⟨#[117, 116, 102, 56]⟩ v E.data.toList W (by decide) hv (by rw [len_toList]; omega) (Utf8Tabs_below HTb.out hb)
    have ht : textK 3 E.data.toList = some E.data.toList := by unfold textK; rw [if_neg (by decide), if_pos rfl, if_pos (by rw [hEl]; exact rune_valid R hRc)]
    rw [kUtf8, ht] at h
    exact h
  have H2 : Hid (∀ W v, Below w.heap.size w W → bytesArg W v [c] → Calls Tryd.prog 8 #[.string ⟨#[108, 97, 116, 105, 110, 49]⟩, v] W fun e w' => e = .returned (.tuple #[.string C8, .int .i64 0]) ∧ Below W.heap.size W w') := fun W v hb hv => by
    have h := text_any ⟨#[108, 97, 116, 105, 110, 49]⟩ v [c] W (by decide) hv (by simp) (Utf8Tabs_below HTb.out hb)
    rw [kLat1, tLat1] at h
    rw [hC8]
    exact h
  have H3 : Hid (∀ W v, Below w.heap.size w W → bytesArg W v [c] → Calls Tryd.prog 8 #[.string ⟨#[97, 115, 99, 105, 105]⟩, v] W fun e w' => e = .returned (.tuple #[.string ⟨#[c]⟩, .int .i64 0]) ∧ Below W.heap.size W w') := fun W v hb hv => by
    have h := text_any ⟨#[97, 115, 99, 105, 105]⟩ v [c] W (by decide) hv (by simp) (Utf8Tabs_below HTb.out hb)
    rw [kAsc, tAsc, if_pos hc] at h
    exact h
  have hcz : (c.toNat : Int) < 128 := by omega
  have H4 : Hid (∀ W, Below w.heap.size w W → Calls Tryd.prog 10 #[.string ⟨#[108, 97, 116, 105, 110, 49]⟩, .string E] W fun e w' => (∃ v, e = .returned v ∧ bytE (none) v w') ∧ Below W.heap.size W w') := fun W hb => by
    have h := bytes_any ⟨#[108, 97, 116, 105, 110, 49]⟩ E W (by decide) (by omega) (Utf8Tabs_below HTb.out hb)
    rw [kLat1, hEl, bLat1 R hRc, if_neg hr] at h
    exact h
  have hrz : ¬ ((R : Nat) : Int) < 256 := by omega
  have hrd : decide (((R : Nat) : Int) < 256) = false := decide_eq_false hrz
  have s1 : (E.toList == E.toList) = true := by simp
  have s2 : (C8.toList == C8.toList) = true := by simp
  clear hE hEl hC8 hT hRc hM
  go_enter Tryd.func5, Tryd.ntmps5
  go_wp2_with fail
  with_reducible refine HAw.out.mono ?_
  rintro e w1 ⟨rfl, hb1⟩
  have HB1 := Lib.hid hb1
  clear hb1
  obtain ⟨W1, cap1, hcv1, harg1, hbw1⟩ := strConv w1 E (by omega)
  have HA1 := Lib.hid harg1
  have HBw := Lib.hid (HB1.out.trans (hbw1.mono HB1.out.size))
  clear harg1 hbw1
  go_wp2_with fail
  with_reducible refine (H1.out _ _ HBw.out HA1.out).mono ?_
  rintro e w2 ⟨rfl, hb2⟩
  have HB2 := Lib.hid (HBw.out.trans (hb2.mono HBw.out.size))
  clear hb2
  go_wp2_with fail
  have HB2a := Lib.hid (HB2.out.alloc HB2.out.size (.cells #[.int .u8 (c.toNat : Int)] 5))
  with_reducible refine (H2.out _ _ HB2a.out (one_arg w2 c)).mono ?_
  rintro e w3 ⟨rfl, hb3⟩
  have HB3 := Lib.hid (HB2a.out.trans (hb3.mono HB2a.out.size))
  clear hb3
  go_wp2_with fail
  have HB3a := Lib.hid (HB3.out.alloc HB3.out.size (.cells #[.int .u8 (c.toNat : Int)] 5))
  with_reducible refine (H3.out _ _ HB3a.out (one_arg w3 c)).mono ?_
  rintro e w4 ⟨rfl, hb4⟩
  have HB4 := Lib.hid (HB3a.out.trans (hb4.mono HB3a.out.size))
  clear hb4
  go_wp2_with fail
  with_reducible refine (H4.out _ HB4.out).mono ?_
  rintro e w5 ⟨⟨vb, rfl, hvb⟩, hb5⟩
  have HB5 := Lib.hid (HB4.out.trans (hb5.mono HB4.out.size))
  unfold bytE at hvb
  subst hvb
  clear hb5
  go_wp2_with fail
  go_ret
  exact ⟨rfl, HB5.out⟩
set_option maxRecDepth 100000 in
set_option maxHeartbeats 8000000 in
theorem chars_A_0_0 (x R : Nat) (c : UInt8) (w : World) (hx32 : x ≤ 4294967295) (hx : x % 1114112 < 55296) (hR : R = x % 1114112) (hc : ¬ c.toNat < 128) (hr : ¬ R < 256) (hT : Tryd.tabs w) :
    Calls Tryd.prog 5 #[.int .u32 (x : Int), .int .u8 (c.toNat : Int)] w fun e w' => e = .returned (.bool true) ∧ Below w.heap.size w w' := by
  have HAw := Lib.hid (awake_any w hT)
  have HTb := Lib.hid hT
  have hRc : isChr R := by unfold isChr; omega
  obtain ⟨M, hM⟩ : ∃ M, M = x % 1114112 := ⟨_, rfl⟩
  have m1 : (x : Int) % 1114112 = (M : Int) := by omega
  have m2 : (x : Int).tmod 1114112 = (M : Int) := by rw [Int.tmod_eq_emod_of_nonneg (by omega)]; exact m1
  have m3 : IntKind.u32.wrap (M : Int) = (M : Int) := by rw [IntKind.wrap_u32]; omega
  have m4 : IntKind.i32.wrap (M : Int) = (M : Int) := by rw [IntKind.wrap_i32]; omega
  have hcl := c.toNat_lt
  have c32 : IntKind.i32.wrap (c.toNat : Int) = (c.toNat : Int) := by rw [IntKind.wrap_i32]; omega
  have c32w : wrap32 (c.toNat : Int) = (c.toNat : Int) := by unfold wrap32; omega
  clear hcl
  rw [← hM] at hx hR
  have k1 : ¬ (55296 : Int) ≤ (M : Int) := by omega
  have k3 : decide ((55296 : Int) ≤ (M : Int)) = false := decide_eq_false k1
  subst hR
  obtain ⟨E, hE⟩ : ∃ E, E = Utf8.encode ((R : Nat) : Int) := ⟨_, rfl⟩
  have hEl : E.data.toList = Lib.encodeRune ((R : Nat) : Int) := by rw [hE]; exact utf8_enc R hRc
  have hEs : E.size ≤ 4 := by rw [← len_toList, hEl]; exact rune_len _
  have hcr : ∀ W, (convert 21 9 (.int .i32 ((R : Int)))).run Tryd.prog W = .ok (.string E) W := fun W => by rw [hE]; exact conv_rune R W
  obtain ⟨C8, hC8⟩ : ∃ C : ByteArray, C = ⟨(enc8 c).toArray⟩ := ⟨_, rfl⟩
  have hcc : ∀ W, (convert 21 9 (.int .i32 (c.toNat : Int))).run Tryd.prog W = .ok (.string C8) W := fun W => by
    have hct := c.toNat_lt
    have h := conv_rune c.toNat W
    have e : Utf8.encode (c.toNat : Int) = C8 := bytes_eq (by rw [utf8_enc c.toNat (.inl (by omega)), hC8, ← enc8_rune c.toNat hct, byteN_self])
    rw [e] at h
    exact h
  have H1 : Hid (∀ W v, Below w.heap.size w W → bytesArg W v E.data.toList → Calls Tryd.prog 8 #[.string ⟨#[117, 116, 102, 56]⟩, v] W fun e w' => e = .returned (.tuple #[.string E, .int .i64 0]) ∧ Below W.heap.size W w') := fun W v hb hv => by
    have h := text_any ⟨#[117, 116, 102, 56]⟩ v E.data.toList W (by decide) hv (by rw [len_toList]; omega) (Utf8Tabs_below HTb.out hb)
    have ht : textK 3 E.data.toList = some E.data.toList := by unfold textK; rw [if_neg (by decide), if_pos rfl, if_pos (by rw [hEl]; exact rune_valid R hRc)]
    rw [kUtf8, ht] at h
    exact h
  have H2 : Hid (∀ W v, Below w.heap.size w W → bytesArg W v [c] → Calls Tryd.prog 8 #[.string ⟨#[108, 97, 116, 105, 110, 49]⟩, v] W fun e w' => e = .returned (.tuple #[.string C8, .int .i64 0]) ∧ Below W.heap.size W w') := fun W v hb hv => by
    have h := text_any ⟨#[108, 97, 116, 105, 110, 49]⟩ v [c] W (by decide) hv (by simp) (Utf8Tabs_below HTb.out hb)
    rw [kLat1, tLat1] at h
    rw [hC8]
    exact h
  have H3 : Hid (∀ W v, Below w.heap.size w W → bytesArg W v [c] → Calls Tryd.prog 8 #[.string ⟨#[97, 115, 99, 105, 105]⟩, v] W fun e w' => e = .returned (.tuple #[.string ⟨#[]⟩, .int .i64 21]) ∧ Below W.heap.size W w') := fun W v hb hv => by
    have h := text_any ⟨#[97, 115, 99, 105, 105]⟩ v [c] W (by decide) hv (by simp) (Utf8Tabs_below HTb.out hb)
    rw [kAsc, tAsc, if_neg hc] at h
    exact h
  have hcz : ¬ (c.toNat : Int) < 128 := by omega
  have hcd : decide ((c.toNat : Int) < 128) = false := decide_eq_false hcz
  have H4 : Hid (∀ W, Below w.heap.size w W → Calls Tryd.prog 10 #[.string ⟨#[108, 97, 116, 105, 110, 49]⟩, .string E] W fun e w' => (∃ v, e = .returned v ∧ bytE (none) v w') ∧ Below W.heap.size W w') := fun W hb => by
    have h := bytes_any ⟨#[108, 97, 116, 105, 110, 49]⟩ E W (by decide) (by omega) (Utf8Tabs_below HTb.out hb)
    rw [kLat1, hEl, bLat1 R hRc, if_neg hr] at h
    exact h
  have hrz : ¬ ((R : Nat) : Int) < 256 := by omega
  have hrd : decide (((R : Nat) : Int) < 256) = false := decide_eq_false hrz
  have s1 : (E.toList == E.toList) = true := by simp
  have s2 : (C8.toList == C8.toList) = true := by simp
  clear hE hEl hC8 hT hRc hM
  go_enter Tryd.func5, Tryd.ntmps5
  go_wp2_with fail
  with_reducible refine HAw.out.mono ?_
  rintro e w1 ⟨rfl, hb1⟩
  have HB1 := Lib.hid hb1
  clear hb1
  obtain ⟨W1, cap1, hcv1, harg1, hbw1⟩ := strConv w1 E (by omega)
  have HA1 := Lib.hid harg1
  have HBw := Lib.hid (HB1.out.trans (hbw1.mono HB1.out.size))
  clear harg1 hbw1
  go_wp2_with fail
  with_reducible refine (H1.out _ _ HBw.out HA1.out).mono ?_
  rintro e w2 ⟨rfl, hb2⟩
  have HB2 := Lib.hid (HBw.out.trans (hb2.mono HBw.out.size))
  clear hb2
  go_wp2_with fail
  have HB2a := Lib.hid (HB2.out.alloc HB2.out.size (.cells #[.int .u8 (c.toNat : Int)] 5))
  with_reducible refine (H2.out _ _ HB2a.out (one_arg w2 c)).mono ?_
  rintro e w3 ⟨rfl, hb3⟩
  have HB3 := Lib.hid (HB2a.out.trans (hb3.mono HB2a.out.size))
  clear hb3
  go_wp2_with fail
  have HB3a := Lib.hid (HB3.out.alloc HB3.out.size (.cells #[.int .u8 (c.toNat : Int)] 5))
  with_reducible refine (H3.out _ _ HB3a.out (one_arg w3 c)).mono ?_
  rintro e w4 ⟨rfl, hb4⟩
  have HB4 := Lib.hid (HB3a.out.trans (hb4.mono HB3a.out.size))
  clear hb4
  go_wp2_with fail
  with_reducible refine (H4.out _ HB4.out).mono ?_
  rintro e w5 ⟨⟨vb, rfl, hvb⟩, hb5⟩
  have HB5 := Lib.hid (HB4.out.trans (hb5.mono HB4.out.size))
  unfold bytE at hvb
  subst hvb
  clear hb5
  go_wp2_with fail
  go_ret
  exact ⟨rfl, HB5.out⟩
set_option maxRecDepth 100000 in
set_option maxHeartbeats 8000000 in
theorem chars_B_1_1 (x R : Nat) (c : UInt8) (w : World) (hx32 : x ≤ 4294967295) (hx : 55296 ≤ x % 1114112 ∧ x % 1114112 ≤ 57343) (hR : R = 65) (hc : c.toNat < 128) (hr : R < 256) (hT : Tryd.tabs w) :
    Calls Tryd.prog 5 #[.int .u32 (x : Int), .int .u8 (c.toNat : Int)] w fun e w' => e = .returned (.bool true) ∧ Below w.heap.size w w' := by
  have HAw := Lib.hid (awake_any w hT)
  have HTb := Lib.hid hT
  have hRc : isChr R := by unfold isChr; omega
  obtain ⟨M, hM⟩ : ∃ M, M = x % 1114112 := ⟨_, rfl⟩
  have m1 : (x : Int) % 1114112 = (M : Int) := by omega
  have m2 : (x : Int).tmod 1114112 = (M : Int) := by rw [Int.tmod_eq_emod_of_nonneg (by omega)]; exact m1
  have m3 : IntKind.u32.wrap (M : Int) = (M : Int) := by rw [IntKind.wrap_u32]; omega
  have m4 : IntKind.i32.wrap (M : Int) = (M : Int) := by rw [IntKind.wrap_i32]; omega
  have hcl := c.toNat_lt
  have c32 : IntKind.i32.wrap (c.toNat : Int) = (c.toNat : Int) := by rw [IntKind.wrap_i32]; omega
  have c32w : wrap32 (c.toNat : Int) = (c.toNat : Int) := by unfold wrap32; omega
  clear hcl
  rw [← hM] at hx
  have k1 : (55296 : Int) ≤ (M : Int) := by omega
  have k2 : (M : Int) ≤ 57343 := by omega
  subst hR
  obtain ⟨E, hE⟩ : ∃ E, E = Utf8.encode ((65 : Nat) : Int) := ⟨_, rfl⟩
  have hEl : E.data.toList = Lib.encodeRune ((65 : Nat) : Int) := by rw [hE]; exact utf8_enc 65 hRc
  have hEs : E.size ≤ 4 := by rw [← len_toList, hEl]; exact rune_len _
  have hcr : ∀ W, (convert 21 9 (.int .i32 (65))).run Tryd.prog W = .ok (.string E) W := fun W => by rw [hE]; exact conv_rune 65 W
  obtain ⟨C8, hC8⟩ : ∃ C : ByteArray, C = ⟨(enc8 c).toArray⟩ := ⟨_, rfl⟩
  have hcc : ∀ W, (convert 21 9 (.int .i32 (c.toNat : Int))).run Tryd.prog W = .ok (.string C8) W := fun W => by
    have hct := c.toNat_lt
    have h := conv_rune c.toNat W
    have e : Utf8.encode (c.toNat : Int) = C8 := bytes_eq (by rw [utf8_enc c.toNat (.inl (by omega)), hC8, ← enc8_rune c.toNat hct, byteN_self])
    rw [e] at h
    exact h
  have H1 : Hid (∀ W v, Below w.heap.size w W → bytesArg W v E.data.toList → Calls Tryd.prog 8 #[.string ⟨#[117, 116, 102, 56]⟩, v] W fun e w' => e = .returned (.tuple #[.string E, .int .i64 0]) ∧ Below W.heap.size W w') := fun W v hb hv => by
    have h := text_any ⟨#[117, 116, 102, 56]⟩ v E.data.toList W (by decide) hv (by rw [len_toList]; omega) (Utf8Tabs_below HTb.out hb)
    have ht : textK 3 E.data.toList = some E.data.toList := by unfold textK; rw [if_neg (by decide), if_pos rfl, if_pos (by rw [hEl]; exact rune_valid 65 hRc)]
    rw [kUtf8, ht] at h
    exact h
  have H2 : Hid (∀ W v, Below w.heap.size w W → bytesArg W v [c] → Calls Tryd.prog 8 #[.string ⟨#[108, 97, 116, 105, 110, 49]⟩, v] W fun e w' => e = .returned (.tuple #[.string C8, .int .i64 0]) ∧ Below W.heap.size W w') := fun W v hb hv => by
    have h := text_any ⟨#[108, 97, 116, 105, 110, 49]⟩ v [c] W (by decide) hv (by simp) (Utf8Tabs_below HTb.out hb)
    rw [kLat1, tLat1] at h
    rw [hC8]
    exact h
  have H3 : Hid (∀ W v, Below w.heap.size w W → bytesArg W v [c] → Calls Tryd.prog 8 #[.string ⟨#[97, 115, 99, 105, 105]⟩, v] W fun e w' => e = .returned (.tuple #[.string ⟨#[c]⟩, .int .i64 0]) ∧ Below W.heap.size W w') := fun W v hb hv => by
    have h := text_any ⟨#[97, 115, 99, 105, 105]⟩ v [c] W (by decide) hv (by simp) (Utf8Tabs_below HTb.out hb)
    rw [kAsc, tAsc, if_pos hc] at h
    exact h
  have hcz : (c.toNat : Int) < 128 := by omega
  have H4 : Hid (∀ W, Below w.heap.size w W → Calls Tryd.prog 10 #[.string ⟨#[108, 97, 116, 105, 110, 49]⟩, .string E] W fun e w' => (∃ v, e = .returned v ∧ bytE (some [byteN 65]) v w') ∧ Below W.heap.size W w') := fun W hb => by
    have h := bytes_any ⟨#[108, 97, 116, 105, 110, 49]⟩ E W (by decide) (by omega) (Utf8Tabs_below HTb.out hb)
    rw [kLat1, hEl, bLat1 65 hRc, if_pos hr] at h
    exact h
  have s1 : (E.toList == E.toList) = true := by simp
  have s2 : (C8.toList == C8.toList) = true := by simp
  clear hE hEl hC8 hT hRc hM
  go_enter Tryd.func5, Tryd.ntmps5
  go_wp2_with fail
  with_reducible refine HAw.out.mono ?_
  rintro e w1 ⟨rfl, hb1⟩
  have HB1 := Lib.hid hb1
  clear hb1
  obtain ⟨W1, cap1, hcv1, harg1, hbw1⟩ := strConv w1 E (by omega)
  have HA1 := Lib.hid harg1
  have HBw := Lib.hid (HB1.out.trans (hbw1.mono HB1.out.size))
  clear harg1 hbw1
  go_wp2_with fail
  with_reducible refine (H1.out _ _ HBw.out HA1.out).mono ?_
  rintro e w2 ⟨rfl, hb2⟩
  have HB2 := Lib.hid (HBw.out.trans (hb2.mono HBw.out.size))
  clear hb2
  go_wp2_with fail
  have HB2a := Lib.hid (HB2.out.alloc HB2.out.size (.cells #[.int .u8 (c.toNat : Int)] 5))
  with_reducible refine (H2.out _ _ HB2a.out (one_arg w2 c)).mono ?_
  rintro e w3 ⟨rfl, hb3⟩
  have HB3 := Lib.hid (HB2a.out.trans (hb3.mono HB2a.out.size))
  clear hb3
  go_wp2_with fail
  have HB3a := Lib.hid (HB3.out.alloc HB3.out.size (.cells #[.int .u8 (c.toNat : Int)] 5))
  with_reducible refine (H3.out _ _ HB3a.out (one_arg w3 c)).mono ?_
  rintro e w4 ⟨rfl, hb4⟩
  have HB4 := Lib.hid (HB3a.out.trans (hb4.mono HB3a.out.size))
  clear hb4
  go_wp2_with fail
  with_reducible refine (H4.out _ HB4.out).mono ?_
  rintro e w5 ⟨⟨vb, rfl, u, rfl, hu⟩, hb5⟩
  have HB5 := Lib.hid (HB4.out.trans (hb5.mono HB4.out.size))
  obtain ⟨uo, uc, rfl, huc, hum, hus⟩ := hu
  unfold maxLen at hum
  rcases hus with h | ⟨ub, uoff, rfl, hub, hucell⟩
  · cases h
  have c0 : w5.cell? ⟨ub, uoff, none⟩ = some (.int .u8 ((65 : Nat) : Int)) := by
    have h := hucell 0 (by simp)
    have e : byteV (byteN 65) = .int .u8 ((65 : Nat) : Int) := by unfold byteV; rw [byteN_toNat 65 (by omega)]
    exact h.trans (congrArg some e)
  clear hb5 hucell
  simp only [List.length_cons, List.length_nil]
  go_wp2_with fail
  go_ret
  exact ⟨rfl, HB5.out⟩
set_option maxRecDepth 100000 in
set_option maxHeartbeats 8000000 in
theorem chars_B_0_1 (x R : Nat) (c : UInt8) (w : World) (hx32 : x ≤ 4294967295) (hx : 55296 ≤ x % 1114112 ∧ x % 1114112 ≤ 57343) (hR : R = 65) (hc : ¬ c.toNat < 128) (hr : R < 256) (hT : Tryd.tabs w) :
    Calls Tryd.prog 5 #[.int .u32 (x : Int), .int .u8 (c.toNat : Int)] w fun e w' => e = .returned (.bool true) ∧ Below w.heap.size w w' := by
  have HAw := Lib.hid (awake_any w hT)
  have HTb := Lib.hid hT
  have hRc : isChr R := by unfold isChr; omega
  obtain ⟨M, hM⟩ : ∃ M, M = x % 1114112 := ⟨_, rfl⟩
  have m1 : (x : Int) % 1114112 = (M : Int) := by omega
  have m2 : (x : Int).tmod 1114112 = (M : Int) := by rw [Int.tmod_eq_emod_of_nonneg (by omega)]; exact m1
  have m3 : IntKind.u32.wrap (M : Int) = (M : Int) := by rw [IntKind.wrap_u32]; omega
  have m4 : IntKind.i32.wrap (M : Int) = (M : Int) := by rw [IntKind.wrap_i32]; omega
  have hcl := c.toNat_lt
  have c32 : IntKind.i32.wrap (c.toNat : Int) = (c.toNat : Int) := by rw [IntKind.wrap_i32]; omega
  have c32w : wrap32 (c.toNat : Int) = (c.toNat : Int) := by unfold wrap32; omega
  clear hcl
  rw [← hM] at hx
  have k1 : (55296 : Int) ≤ (M : Int) := by omega
  have k2 : (M : Int) ≤ 57343 := by omega
  subst hR
  obtain ⟨E, hE⟩ : ∃ E, E = Utf8.encode ((65 : Nat) : Int) := ⟨_, rfl⟩
  have hEl : E.data.toList = Lib.encodeRune ((65 : Nat) : Int) := by rw [hE]; exact utf8_enc 65 hRc
  have hEs : E.size ≤ 4 := by rw [← len_toList, hEl]; exact rune_len _
  have hcr : ∀ W, (convert 21 9 (.int .i32 (65))).run Tryd.prog W = .ok (.string E) W := fun W => by rw [hE]; exact conv_rune 65 W
  obtain ⟨C8, hC8⟩ : ∃ C : ByteArray, C = ⟨(enc8 c).toArray⟩ := ⟨_, rfl⟩
  have hcc : ∀ W, (convert 21 9 (.int .i32 (c.toNat : Int))).run Tryd.prog W = .ok (.string C8) W := fun W => by
    have hct := c.toNat_lt
    have h := conv_rune c.toNat W
    have e : Utf8.encode (c.toNat : Int) = C8 := bytes_eq (by rw [utf8_enc c.toNat (.inl (by omega)), hC8, ← enc8_rune c.toNat hct, byteN_self])
    rw [e] at h
    exact h
  have H1 : Hid (∀ W v, Below w.heap.size w W → bytesArg W v E.data.toList → Calls Tryd.prog 8 #[.string ⟨#[117, 116, 102, 56]⟩, v] W fun e w' => e = .returned (.tuple #[.string E, .int .i64 0]) ∧ Below W.heap.size W w') := fun W v hb hv => by
    have h := text_any ⟨#[117, 116, 102, 56]⟩ v E.data.toList W (by decide) hv (by rw [len_toList]; omega) (Utf8Tabs_below HTb.out hb)
    have ht : textK 3 E.data.toList = some E.data.toList := by unfold textK; rw [if_neg (by decide), if_pos rfl, if_pos (by rw [hEl]; exact rune_valid 65 hRc)]
    rw [kUtf8, ht] at h
    exact h
  have H2 : Hid (∀ W v, Below w.heap.size w W → bytesArg W v [c] → Calls Tryd.prog 8 #[.string ⟨#[108, 97, 116, 105, 110, 49]⟩, v] W fun e w' => e = .returned (.tuple #[.string C8, .int .i64 0]) ∧ Below W.heap.size W w') := fun W v hb hv => by
    have h := text_any ⟨#[108, 97, 116, 105, 110, 49]⟩ v [c] W (by decide) hv (by simp) (Utf8Tabs_below HTb.out hb)
    rw [kLat1, tLat1] at h
    rw [hC8]
    exact h
  have H3 : Hid (∀ W v, Below w.heap.size w W → bytesArg W v [c] → Calls Tryd.prog 8 #[.string ⟨#[97, 115, 99, 105, 105]⟩, v] W fun e w' => e = .returned (.tuple #[.string ⟨#[]⟩, .int .i64 21]) ∧ Below W.heap.size W w') := fun W v hb hv => by
    have h := text_any ⟨#[97, 115, 99, 105, 105]⟩ v [c] W (by decide) hv (by simp) (Utf8Tabs_below HTb.out hb)
    rw [kAsc, tAsc, if_neg hc] at h
    exact h
  have hcz : ¬ (c.toNat : Int) < 128 := by omega
  have hcd : decide ((c.toNat : Int) < 128) = false := decide_eq_false hcz
  have H4 : Hid (∀ W, Below w.heap.size w W → Calls Tryd.prog 10 #[.string ⟨#[108, 97, 116, 105, 110, 49]⟩, .string E] W fun e w' => (∃ v, e = .returned v ∧ bytE (some [byteN 65]) v w') ∧ Below W.heap.size W w') := fun W hb => by
    have h := bytes_any ⟨#[108, 97, 116, 105, 110, 49]⟩ E W (by decide) (by omega) (Utf8Tabs_below HTb.out hb)
    rw [kLat1, hEl, bLat1 65 hRc, if_pos hr] at h
    exact h
  have s1 : (E.toList == E.toList) = true := by simp
  have s2 : (C8.toList == C8.toList) = true := by simp
  clear hE hEl hC8 hT hRc hM
  go_enter Tryd.func5, Tryd.ntmps5
  go_wp2_with fail
  with_reducible refine HAw.out.mono ?_
  rintro e w1 ⟨rfl, hb1⟩
  have HB1 := Lib.hid hb1
  clear hb1
  obtain ⟨W1, cap1, hcv1, harg1, hbw1⟩ := strConv w1 E (by omega)
  have HA1 := Lib.hid harg1
  have HBw := Lib.hid (HB1.out.trans (hbw1.mono HB1.out.size))
  clear harg1 hbw1
  go_wp2_with fail
  with_reducible refine (H1.out _ _ HBw.out HA1.out).mono ?_
  rintro e w2 ⟨rfl, hb2⟩
  have HB2 := Lib.hid (HBw.out.trans (hb2.mono HBw.out.size))
  clear hb2
  go_wp2_with fail
  have HB2a := Lib.hid (HB2.out.alloc HB2.out.size (.cells #[.int .u8 (c.toNat : Int)] 5))
  with_reducible refine (H2.out _ _ HB2a.out (one_arg w2 c)).mono ?_
  rintro e w3 ⟨rfl, hb3⟩
  have HB3 := Lib.hid (HB2a.out.trans (hb3.mono HB2a.out.size))
  clear hb3
  go_wp2_with fail
  have HB3a := Lib.hid (HB3.out.alloc HB3.out.size (.cells #[.int .u8 (c.toNat : Int)] 5))
  with_reducible refine (H3.out _ _ HB3a.out (one_arg w3 c)).mono ?_
  rintro e w4 ⟨rfl, hb4⟩
  have HB4 := Lib.hid (HB3a.out.trans (hb4.mono HB3a.out.size))
  clear hb4
  go_wp2_with fail
  with_reducible refine (H4.out _ HB4.out).mono ?_
  rintro e w5 ⟨⟨vb, rfl, u, rfl, hu⟩, hb5⟩
  have HB5 := Lib.hid (HB4.out.trans (hb5.mono HB4.out.size))
  obtain ⟨uo, uc, rfl, huc, hum, hus⟩ := hu
  unfold maxLen at hum
  rcases hus with h | ⟨ub, uoff, rfl, hub, hucell⟩
  · cases h
  have c0 : w5.cell? ⟨ub, uoff, none⟩ = some (.int .u8 ((65 : Nat) : Int)) := by
    have h := hucell 0 (by simp)
    have e : byteV (byteN 65) = .int .u8 ((65 : Nat) : Int) := by unfold byteV; rw [byteN_toNat 65 (by omega)]
    exact h.trans (congrArg some e)
  clear hb5 hucell
  simp only [List.length_cons, List.length_nil]
  go_wp2_with fail
  go_ret
  exact ⟨rfl, HB5.out⟩
set_option maxRecDepth 100000 in
set_option maxHeartbeats 8000000 in
theorem chars_C_1_0 (x R : Nat) (c : UInt8) (w : World) (hx32 : x ≤ 4294967295) (hx : 57343 < x % 1114112) (hR : R = x % 1114112) (hc : c.toNat < 128) (hr : ¬ R < 256) (hT : Tryd.tabs w) :
    Calls Tryd.prog 5 #[.int .u32 (x : Int), .int .u8 (c.toNat : Int)] w fun e w' => e = .returned (.bool true) ∧ Below w.heap.size w w' := by
  have HAw := Lib.hid (awake_any w hT)
  have HTb := Lib.hid hT
  have hRc : isChr R := by unfold isChr; omega
  obtain ⟨M, hM⟩ : ∃ M, M = x % 1114112 := ⟨_, rfl⟩
  have m1 : (x : Int) % 1114112 = (M : Int) := by omega
  have m2 : (x : Int).tmod 1114112 = (M : Int) := by rw [Int.tmod_eq_emod_of_nonneg (by omega)]; exact m1
  have m3 : IntKind.u32.wrap (M : Int) = (M : Int) := by rw [IntKind.wrap_u32]; omega
  have m4 : IntKind.i32.wrap (M : Int) = (M : Int) := by rw [IntKind.wrap_i32]; omega
  have hcl := c.toNat_lt
  have c32 : IntKind.i32.wrap (c.toNat : Int) = (c.toNat : Int) := by rw [IntKind.wrap_i32]; omega
  have c32w : wrap32 (c.toNat : Int) = (c.toNat : Int) := by unfold wrap32; omega
  clear hcl
  rw [← hM] at hx hR
  have k1 : (55296 : Int) ≤ (M : Int) := by omega
  have k2 : ¬ (M : Int) ≤ 57343 := by omega
  have k3 : decide ((M : Int) ≤ 57343) = false := decide_eq_false k2
  subst hR
  obtain ⟨E, hE⟩ : ∃ E, E = Utf8.encode ((R : Nat) : Int) := ⟨_, rfl⟩
  have hEl : E.data.toList = Lib.encodeRune ((R : Nat) : Int) := by rw [hE]; exact utf8_enc R hRc
  have hEs : E.size ≤ 4 := by rw [← len_toList, hEl]; exact rune_len _
  have hcr : ∀ W, (convert 21 9 (.int .i32 ((R : Int)))).run Tryd.prog W = .ok (.string E) W := fun W => by rw [hE]; exact conv_rune R W
  obtain ⟨C8, hC8⟩ : ∃ C : ByteArray, C = ⟨(enc8 c).toArray⟩ := ⟨_, rfl⟩
  have hcc : ∀ W, (convert 21 9 (.int .i32 (c.toNat : Int))).run Tryd.prog W = .ok (.string C8) W := fun W => by
    have hct := c.toNat_lt
    have h := conv_rune c.toNat W
    have e : Utf8.encode (c.toNat : Int) = C8 := bytes_eq (by rw [utf8_enc c.toNat (.inl (by omega)), hC8, ← enc8_rune c.toNat hct, byteN_self])
    rw [e] at h
    exact h
  have H1 : Hid (∀ W v, Below w.heap.size w W → bytesArg W v E.data.toList → Calls Tryd.prog 8 #[.string ⟨#[117, 116, 102, 56]⟩, v] W fun e w' => e = .returned (.tuple #[.string E, .int .i64 0]) ∧ Below W.heap.size W w') := fun W v hb hv => by
    have h := text_any ⟨#[117, 116, 102, 56]⟩ v E.data.toList W (by decide) hv (by rw [len_toList]; omega) (Utf8Tabs_below HTb.out hb)
    have ht : textK 3 E.data.toList = some E.data.toList := by unfold textK; rw [if_neg (by decide), if_pos rfl, if_pos (by rw [hEl]; exact rune_valid R hRc)]
    rw [kUtf8, ht] at h
    exact h
  have H2 : Hid (∀ W v, Below w.heap.size w W → bytesArg W v [c] → Calls Tryd.prog 8 #[.string ⟨#[108, 97, 116, 105, 110, 49]⟩, v] W fun e w' => e = .returned (.tuple #[.string C8, .int .i64 0]) ∧ Below W.heap.size W w') := fun W v hb hv => by
    have h := text_any ⟨#[108, 97, 116, 105, 110, 49]⟩ v [c] W (by decide) hv (by simp) (Utf8Tabs_below HTb.out hb)
    rw [kLat1, tLat1] at h
    rw [hC8]
    exact h
  have H3 : Hid (∀ W v, Below w.heap.size w W → bytesArg W v [c] → Calls Tryd.prog 8 #[.string ⟨#[97, 115, 99, 105, 105]⟩, v] W fun e w' => e = .returned (.tuple #[.string ⟨#[c]⟩, .int .i64 0]) ∧ Below W.heap.size W w') := fun W v hb hv => by
    have h := text_any ⟨#[97, 115, 99, 105, 105]⟩ v [c] W (by decide) hv (by simp) (Utf8Tabs_below HTb.out hb)
    rw [kAsc, tAsc, if_pos hc] at h
    exact h
  have hcz : (c.toNat : Int) < 128 := by omega
  have H4 : Hid (∀ W, Below w.heap.size w W → Calls Tryd.prog 10 #[.string ⟨#[108, 97, 116, 105, 110, 49]⟩, .string E] W fun e w' => (∃ v, e = .returned v ∧ bytE (none) v w') ∧ Below W.heap.size W w') := fun W hb => by
    have h := bytes_any ⟨#[108, 97, 116, 105, 110, 49]⟩ E W (by decide) (by omega) (Utf8Tabs_below HTb.out hb)
    rw [kLat1, hEl, bLat1 R hRc, if_neg hr] at h
    exact h
  have hrz : ¬ ((R : Nat) : Int) < 256 := by omega
  have hrd : decide (((R : Nat) : Int) < 256) = false := decide_eq_false hrz
  have s1 : (E.toList == E.toList) = true := by simp
  have s2 : (C8.toList == C8.toList) = true := by simp
  clear hE hEl hC8 hT hRc hM
  go_enter Tryd.func5, Tryd.ntmps5
  go_wp2_with fail
  with_reducible refine HAw.out.mono ?_
  rintro e w1 ⟨rfl, hb1⟩
  have HB1 := Lib.hid hb1
  clear hb1
  obtain ⟨W1, cap1, hcv1, harg1, hbw1⟩ := strConv w1 E (by omega)
  have HA1 := Lib.hid harg1
  have HBw := Lib.hid (HB1.out.trans (hbw1.mono HB1.out.size))
  clear harg1 hbw1
  go_wp2_with fail
  with_reducible refine (H1.out _ _ HBw.out HA1.out).mono ?_
  rintro e w2 ⟨rfl, hb2⟩
  have HB2 := Lib.hid (HBw.out.trans (hb2.mono HBw.out.size))
  clear hb2
  go_wp2_with fail
  have HB2a := Lib.hid (HB2.out.alloc HB2.out.size (.cells #[.int .u8 (c.toNat : Int)] 5))
  with_reducible refine (H2.out _ _ HB2a.out (one_arg w2 c)).mono ?_
  rintro e w3 ⟨rfl, hb3⟩
  have HB3 := Lib.hid (HB2a.out.trans (hb3.mono HB2a.out.size))
  clear hb3
  go_wp2_with fail
  have HB3a := Lib.hid (HB3.out.alloc HB3.out.size (.cells #[.int .u8 (c.toNat : Int)] 5))
  with_reducible refine (H3.out _ _ HB3a.out (one_arg w3 c)).mono ?_
  rintro e w4 ⟨rfl, hb4⟩
  have HB4 := Lib.hid (HB3a.out.trans (hb4.mono HB3a.out.size))
  clear hb4
  go_wp2_with fail
  with_reducible refine (H4.out _ HB4.out).mono ?_
  rintro e w5 ⟨⟨vb, rfl, hvb⟩, hb5⟩
  have HB5 := Lib.hid (HB4.out.trans (hb5.mono HB4.out.size))
  unfold bytE at hvb
  subst hvb
  clear hb5
  go_wp2_with fail
  go_ret
  exact ⟨rfl, HB5.out⟩
set_option maxRecDepth 100000 in
set_option maxHeartbeats 8000000 in
theorem chars_C_0_0 (x R : Nat) (c : UInt8) (w : World) (hx32 : x ≤ 4294967295) (hx : 57343 < x % 1114112) (hR : R = x % 1114112) (hc : ¬ c.toNat < 128) (hr : ¬ R < 256) (hT : Tryd.tabs w) :
    Calls Tryd.prog 5 #[.int .u32 (x : Int), .int .u8 (c.toNat : Int)] w fun e w' => e = .returned (.bool true) ∧ Below w.heap.size w w' := by
  have HAw := Lib.hid (awake_any w hT)
  have HTb := Lib.hid hT
  have hRc : isChr R := by unfold isChr; omega
  obtain ⟨M, hM⟩ : ∃ M, M = x % 1114112 := ⟨_, rfl⟩
  have m1 : (x : Int) % 1114112 = (M : Int) := by omega
  have m2 : (x : Int).tmod 1114112 = (M : Int) := by rw [Int.tmod_eq_emod_of_nonneg (by omega)]; exact m1
  have m3 : IntKind.u32.wrap (M : Int) = (M : Int) := by rw [IntKind.wrap_u32]; omega
  have m4 : IntKind.i32.wrap (M : Int) = (M : Int) := by rw [IntKind.wrap_i32]; omega
  have hcl := c.toNat_lt
  have c32 : IntKind.i32.wrap (c.toNat : Int) = (c.toNat : Int) := by rw [IntKind.wrap_i32]; omega
  have c32w : wrap32 (c.toNat : Int) = (c.toNat : Int) := by unfold wrap32; omega
  clear hcl
  rw [← hM] at hx hR
  have k1 : (55296 : Int) ≤ (M : Int) := by omega
  have k2 : ¬ (M : Int) ≤ 57343 := by omega
  have k3 : decide ((M : Int) ≤ 57343) = false := decide_eq_false k2
  subst hR
  obtain ⟨E, hE⟩ : ∃ E, E = Utf8.encode ((R : Nat) : Int) := ⟨_, rfl⟩
  have hEl : E.data.toList = Lib.encodeRune ((R : Nat) : Int) := by rw [hE]; exact utf8_enc R hRc
  have hEs : E.size ≤ 4 := by rw [← len_toList, hEl]; exact rune_len _
  have hcr : ∀ W, (convert 21 9 (.int .i32 ((R : Int)))).run Tryd.prog W = .ok (.string E) W := fun W => by rw [hE]; exact conv_rune R W
  obtain ⟨C8, hC8⟩ : ∃ C : ByteArray, C = ⟨(enc8 c).toArray⟩ := ⟨_, rfl⟩
  have hcc : ∀ W, (convert 21 9 (.int .i32 (c.toNat : Int))).run Tryd.prog W = .ok (.string C8) W := fun W => by
    have hct := c.toNat_lt
    have h := conv_rune c.toNat W
    have e : Utf8.encode (c.toNat : Int) = C8 := bytes_eq (by rw [utf8_enc c.toNat (.inl (by omega)), hC8, ← enc8_rune c.toNat hct, byteN_self])
    rw [e] at h
    exact h
  have H1 : Hid (∀ W v, Below w.heap.size w W → bytesArg W v E.data.toList → Calls Tryd.prog 8 #[.string ⟨#[117, 116, 102, 56]⟩, v] W fun e w' => e = .returned (.tuple #[.string E, .int .i64 0]) ∧ Below W.heap.size W w') := fun W v hb hv => by
    have h := text_any ⟨#[117, 116, 102, 56]⟩ v E.data.toList W (by decide) hv (by rw [len_toList]; omega) (Utf8Tabs_below HTb.out hb)
    have ht : textK 3 E.data.toList = some E.data.toList := by unfold textK; rw [if_neg (by decide), if_pos rfl, if_pos (by rw [hEl]; exact rune_valid R hRc)]
    rw [kUtf8, ht] at h
    exact h
  have H2 : Hid (∀ W v, Below w.heap.size w W → bytesArg W v [c] → Calls Tryd.prog 8 #[.string ⟨#[108, 97, 116, 105, 110, 49]⟩, v] W fun e w' => e = .returned (.tuple #[.string C8, .int .i64 0]) ∧ Below W.heap.size W w') := fun W v hb hv => by
    have h := text_any ⟨#[108, 97, 116, 105, 110, 49]⟩ v [c] W (by decide) hv (by simp) (Utf8Tabs_below HTb.out hb)
    rw [kLat1, tLat1] at h
    rw [hC8]
    exact h
  have H3 : Hid (∀ W v, Below w.heap.size w W → bytesArg W v [c] → Calls Tryd.prog 8 #[.string ⟨#[97, 115, 99, 105, 105]⟩, v] W fun e w' => e = .returned (.tuple #[.string ⟨#[]⟩, .int .i64 21]) ∧ Below W.heap.size W w') := fun W v hb hv => by
    have h := text_any ⟨#[97, 115, 99, 105, 105]⟩ v [c] W (by decide) hv (by simp) (Utf8Tabs_below HTb.out hb)
    rw [kAsc, tAsc, if_neg hc] at h
    exact h
  have hcz : ¬ (c.toNat : Int) < 128 := by omega
  have hcd : decide ((c.toNat : Int) < 128) = false := decide_eq_false hcz
  have H4 : Hid (∀ W, Below w.heap.size w W → Calls Tryd.prog 10 #[.string ⟨#[108, 97, 116, 105, 110, 49]⟩, .string E] W fun e w' => (∃ v, e = .returned v ∧ bytE (none) v w') ∧ Below W.heap.size W w') := fun W hb => by
    have h := bytes_any ⟨#[108, 97, 116, 105, 110, 49]⟩ E W (by decide) (by omega) (Utf8Tabs_below HTb.out hb)
    rw [kLat1, hEl, bLat1 R hRc, if_neg hr] at h
    exact h
  have hrz : ¬ ((R : Nat) : Int) < 256 := by omega
  have hrd : decide (((R : Nat) : Int) < 256) = false := decide_eq_false hrz
  have s1 : (E.toList == E.toList) = true := by simp
  have s2 : (C8.toList == C8.toList) = true := by simp
  clear hE hEl hC8 hT hRc hM
  go_enter Tryd.func5, Tryd.ntmps5
  go_wp2_with fail
  with_reducible refine HAw.out.mono ?_
  rintro e w1 ⟨rfl, hb1⟩
  have HB1 := Lib.hid hb1
  clear hb1
  obtain ⟨W1, cap1, hcv1, harg1, hbw1⟩ := strConv w1 E (by omega)
  have HA1 := Lib.hid harg1
  have HBw := Lib.hid (HB1.out.trans (hbw1.mono HB1.out.size))
  clear harg1 hbw1
  go_wp2_with fail
  with_reducible refine (H1.out _ _ HBw.out HA1.out).mono ?_
  rintro e w2 ⟨rfl, hb2⟩
  have HB2 := Lib.hid (HBw.out.trans (hb2.mono HBw.out.size))
  clear hb2
  go_wp2_with fail
  have HB2a := Lib.hid (HB2.out.alloc HB2.out.size (.cells #[.int .u8 (c.toNat : Int)] 5))
  with_reducible refine (H2.out _ _ HB2a.out (one_arg w2 c)).mono ?_
  rintro e w3 ⟨rfl, hb3⟩
  have HB3 := Lib.hid (HB2a.out.trans (hb3.mono HB2a.out.size))
  clear hb3
  go_wp2_with fail
  have HB3a := Lib.hid (HB3.out.alloc HB3.out.size (.cells #[.int .u8 (c.toNat : Int)] 5))
  with_reducible refine (H3.out _ _ HB3a.out (one_arg w3 c)).mono ?_
  rintro e w4 ⟨rfl, hb4⟩
  have HB4 := Lib.hid (HB3a.out.trans (hb4.mono HB3a.out.size))
  clear hb4
  go_wp2_with fail
  with_reducible refine (H4.out _ HB4.out).mono ?_
  rintro e w5 ⟨⟨vb, rfl, hvb⟩, hb5⟩
  have HB5 := Lib.hid (HB4.out.trans (hb5.mono HB4.out.size))
  unfold bytE at hvb
  subst hvb
  clear hb5
  go_wp2_with fail
  go_ret
  exact ⟨rfl, HB5.out⟩
theorem charsetChars_any (x : Nat) (c : UInt8) (w : World) (hx : x ≤ 4294967295) (hT : Tryd.tabs w) :
    Calls Tryd.prog 5 #[.int .u32 (x : Int), .int .u8 (c.toNat : Int)] w fun e w' => e = .returned (.bool true) ∧ Below w.heap.size w w' := by
  by_cases h1 : x % 1114112 < 55296
  · by_cases hc : c.toNat < 128
    · by_cases hr : x % 1114112 < 256
      · exact chars_A_1_1 x _ c w hx h1 rfl hc hr hT
      · exact chars_A_1_0 x _ c w hx h1 rfl hc hr hT
    · by_cases hr : x % 1114112 < 256
      · exact chars_A_0_1 x _ c w hx h1 rfl hc hr hT
      · exact chars_A_0_0 x _ c w hx h1 rfl hc hr hT
  · by_cases h2 : x % 1114112 ≤ 57343
    · by_cases hc : c.toNat < 128
      · exact chars_B_1_1 x _ c w hx ⟨by omega, h2⟩ rfl hc (by decide) hT
      · exact chars_B_0_1 x _ c w hx ⟨by omega, h2⟩ rfl hc (by decide) hT
    · by_cases hc : c.toNat < 128
      · exact chars_C_1_0 x _ c w hx (by omega) rfl hc (by omega) hT
      · exact chars_C_0_0 x _ c w hx (by omega) rfl hc (by omega) hT
end Go.Proofs.YtodheanfpclhaaaDoor
