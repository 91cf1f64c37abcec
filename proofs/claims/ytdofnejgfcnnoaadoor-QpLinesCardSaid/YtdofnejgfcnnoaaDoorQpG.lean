/- Contracts of the document's answers for quoted-printable: a digit's value, a line's text. -/
import Derived.Test.YtdofnejgfcnnoaaDoorQpB
namespace Go.Proofs.YtdofnejgfcnnoaaDoor
open Go Go.RowKit

def digU : ByteArray := ⟨#[48, 49, 50, 51, 52, 53, 54, 55, 56, 57, 65, 66, 67, 68, 69, 70]⟩
def digW : ByteArray := ⟨#[48, 49, 50, 51, 52, 53, 54, 55, 56, 57, 97, 98, 99, 100, 101, 102]⟩
def digL (n : Nat) : UInt8 := byteN (if n < 10 then n + 48 else n + 87)
theorem digU_at (n : Nat) (h : n < 16) : digU[n]'h = digB n := by
  have : ∀ n, n < 16 → digU.data.toList.getD n 0 = digB n := by decide
  have := this n h
  rw [← this, List.getD_eq_getElem?_getD, bytes_get digU n h]
  rfl
theorem digW_at (n : Nat) (h : n < 16) : digW[n]'h = digL n := by
  have : ∀ n, n < 16 → digW.data.toList.getD n 0 = digL n := by decide
  have := this n h
  rw [← this, List.getD_eq_getElem?_getD, bytes_get digW n h]
  rfl
theorem hexV_digL : ∀ n, n < 16 → hexV (digL n) = n := by decide
theorem hexV_iff (c : UInt8) (n : Nat) (h : n < 16) : hexV c = n ↔ c = digB n ∨ c = digL n := by
  have hct := c.toNat_lt
  constructor
  · intro e
    unfold hexV at e
    split at e
    · left
      apply toNat_eq
      unfold digB
      rw [if_pos (by omega), byteN_toNat _ (by omega)]
      omega
    · split at e
      · left
        apply toNat_eq
        unfold digB
        rw [if_neg (by omega), byteN_toNat _ (by omega)]
        omega
      · split at e
        · right
          apply toNat_eq
          unfold digL
          rw [if_neg (by omega), byteN_toNat _ (by omega)]
          omega
        · omega
  · rintro (rfl | rfl)
    · exact hexV_dig n h
    · exact hexV_digL n h
theorem hexV_le (c : UInt8) : hexV c ≤ 16 := by
  unfold hexV
  split
  · omega
  · split
    · omega
    · split <;> omega
theorem beqB {a b : UInt8} (h : a = b) : ((a.toNat : Int) == (b.toNat : Int)) = true := by subst h; simp
theorem beqB_no {a b : UInt8} (h : a ≠ b) : ((a.toNat : Int) == (b.toNat : Int)) = false := beq_no fun e => h (toNat_eq (by omega))

theorem value_any (c : UInt8) (w : World) : Calls Tryd.prog 21 #[.int .u8 (c.toNat : Int)] w fun e w' => e = .returned (.int .i64 (hexV c : Nat)) ∧ w = w' := by
  have hct := c.toNat_lt
  obtain ⟨v, hv⟩ : ∃ v, v = hexV c := ⟨_, rfl⟩
  have hv16 : v ≤ 16 := by rw [hv]; exact hexV_le c
  have HV := Lib.hid hv
  rw [← hv]
  clear hv
  go_enter Tryd.func21, Tryd.ntmps21
  go_wp2
  go_loop [3] (fun i => ∃ k : Nat, k ≤ v ∧ i = .int .i64 k) (fun i => 16 - (intOf i).toNat)
  case atStart => exact ⟨0, by omega, rfl⟩
  case round =>
    obtain ⟨k, hk, rfl⟩ := hrel
    by_cases hlt : k < 16
    · have d1 : (⟨#[48, 49, 50, 51, 52, 53, 54, 55, 56, 57, 65, 66, 67, 68, 69, 70]⟩ : ByteArray)[k]'hlt = digB k := digU_at k hlt
      have d2 : (⟨#[48, 49, 50, 51, 52, 53, 54, 55, 56, 57, 97, 98, 99, 100, 101, 102]⟩ : ByteArray)[k]'hlt = digL k := digW_at k hlt
      have b1 : (k : Int) < 16 := by omega
      have hiff := hexV_iff c k hlt
      rw [← HV.out] at hiff
      by_cases hkv : v = k
      · rcases hiff.1 hkv with h | h
        · have t1 := beqB h
          clear hiff
          go_wp2
          go_ret
          exact ⟨ret_int (by omega), rfl⟩
        · by_cases h' : c = digB k
          · have t1 := beqB h'
            clear hiff h
            go_wp2
            go_ret
            exact ⟨ret_int (by omega), rfl⟩
          · have t1 := beqB_no h'
            have t2 := beqB h
            clear hiff h h'
            go_wp2
            go_ret
            exact ⟨ret_int (by omega), rfl⟩
      · have t1 := beqB_no (fun h => hkv (hiff.2 (.inl h)))
        have t2 := beqB_no (fun h => hkv (hiff.2 (.inr h)))
        clear hiff
        go_wp2
        go_round
        case rel => exact ⟨k + 1, by omega, by go_num⟩
        case measure => simp [intOf]; omega
    · go_wp2
      go_ret
      exact ⟨ret_int (by omega), rfl⟩

theorem okN (c : UInt8) :
    (((c.toNat : Int) != 32) = false ∧ Hid (okB c = true)) ∨ (((c.toNat : Int) != 32) = true ∧ ((c.toNat : Int) != 9) = false ∧ Hid (okB c = true)) ∨
    (((c.toNat : Int) != 32) = true ∧ ((c.toNat : Int) != 9) = true ∧ 33 ≤ c.toNat ∧ c.toNat ≤ 126 ∧ Hid (okB c = true)) ∨
    (((c.toNat : Int) != 32) = true ∧ ((c.toNat : Int) != 9) = true ∧ c.toNat < 33 ∧ Hid (okB c = false)) ∨ (((c.toNat : Int) != 32) = true ∧ ((c.toNat : Int) != 9) = true ∧ 126 < c.toNat ∧ Hid (okB c = false)) := by
  unfold okB isBl
  by_cases h1 : c = 32
  · subst h1; exact .inl ⟨rfl, rfl⟩
  have t1 : ((c.toNat : Int) != 32) = true := bne_yes fun e => h1 (toNat_eq (by show c.toNat = 32; omega))
  by_cases h2 : c = 9
  · subst h2; exact .inr (.inl ⟨rfl, rfl, rfl⟩)
  have t2 : ((c.toNat : Int) != 9) = true := bne_yes fun e => h2 (toNat_eq (by show c.toNat = 9; omega))
  rw [beq_eq_false_iff_ne.2 h1, beq_eq_false_iff_ne.2 h2]
  by_cases h3 : c.toNat < 33
  · refine .inr (.inr (.inr (.inl ⟨t1, t2, h3, ?_⟩)))
    have : seenB c = false := by rw [← Bool.not_eq_true, seenB_iff]; omega
    unfold Hid; rw [this]; rfl
  · by_cases h4 : 126 < c.toNat
    · refine .inr (.inr (.inr (.inr ⟨t1, t2, h4, ?_⟩)))
      have : seenB c = false := by rw [← Bool.not_eq_true, seenB_iff]; omega
      unfold Hid; rw [this]; rfl
    · refine .inr (.inr (.inl ⟨t1, t2, by omega, by omega, ?_⟩))
      have : seenB c = true := (seenB_iff c).2 (by omega)
      unfold Hid; rw [this]; rfl
set_option maxRecDepth 100000 in
set_option maxHeartbeats 1000000 in
theorem text_any (s : ByteArray) (w : World) (hs : s.size ≤ 65536) :
    Calls Tryd.prog 15 #[.string s] w fun e w' => e = .returned (.tuple #[.string ⟨((textS s.data.toList).getD []).toArray⟩, .bool (textS s.data.toList).isSome]) ∧ Below w.heap.size w w' := by
  obtain ⟨i0, hi, hz0, hz1, hz2⟩ := info_parts Tryd.infoB
  go_enter Tryd.func15, Tryd.ntmps15
  go_wp2
  go_loopg [4, 5] (s.size + 3) (fun g o v wr => ∃ (k : Nat) (out : List UInt8), k ≤ s.size ∧ g = s.size + 3 - k ∧ v = .int .i64 k ∧ out.length ≤ k ∧ wr.ownsRow w.heap.size 5 1 o out.length (out.map byteV) ∧ Hid (Left s.data.toList [] (s.data.toList.drop k) out) ∧ Hid (Below w.heap.size w wr))
  case atStart => exact ⟨0, [], by omega, by omega, rfl, by simp, World.ownsRow_nil _ _ _ _, Left.refl _ _, Below.refl _ _⟩
  case round =>
    obtain ⟨k, out, hk, rfl, rfl, hout, hown, HL, HB⟩ := hrel
    have HO := Lib.hid hown
    clear hown
    by_cases hlt : k < s.size
    · have HD := Lib.hid (drop_cons s k hlt)
      by_cases h61 : s[k] = 61
      · have t61 : ((s[k].toNat : Int) == 61) = true := by rw [h61]; rfl
        have H61 := Lib.hid h61
        clear h61
        by_cases h2 : k + 2 < s.size
        · have hk1 : k + 1 < s.size := by omega
          have HD1 := Lib.hid (drop_cons s (k + 1) (by omega))
          have HD2 := Lib.hid (drop_cons s (k + 2) h2)
          obtain ⟨x, hx⟩ : ∃ x, x = hexV s[k + 1] := ⟨_, rfl⟩
          obtain ⟨y, hy⟩ : ∃ y, y = hexV s[k + 2] := ⟨_, rfl⟩
          have hx16 : x ≤ 16 := by rw [hx]; exact hexV_le _
          have hy16 : y ≤ 16 := by rw [hy]; exact hexV_le _
          have HF1 : Hid (Calls Tryd.prog 21 #[.int .u8 (s[k + 1].toNat : Int)] wr fun e w' => e = .returned (.int .i64 (x : Nat)) ∧ wr = w') := by rw [hx]; exact value_any _ _
          have HF2 : Hid (Calls Tryd.prog 21 #[.int .u8 (s[k + 2].toNat : Int)] wr fun e w' => e = .returned (.int .i64 (y : Nat)) ∧ wr = w') := by rw [hy]; exact value_any _ _
          have HXY := Lib.hid (And.intro hx hy)
          clear hx hy
          by_cases hxy : x < 16 ∧ y < 16
          · obtain ⟨hx2, hy2⟩ := hxy
            go_wp2_with fail
            with_reducible refine HF1.out.mono ?_
            rintro e w1 ⟨rfl, rfl⟩
            go_wp2_with fail
            with_reducible refine HF2.out.mono ?_
            rintro e w1 ⟨rfl, rfl⟩
            go_wp2_with (at_builtin; refine wpList_append_own _ rfl _ _ 22 rfl w.heap.size 5 i0 (.int .u8 0) 1 1 Tryd.underlying22 hi hz0 hz1 hz2 rfl (by decide) _ _ _ rfl (HO.out.alloc _) ⟨wr.heap.size, 0, none⟩ 1 1 [byteV (byteN (x * 16 + y))] rfl rfl ?c1 ?c2 ?c3 ?c4 ?c5 ?_)
            case c1 => exact cell_byte wr _ (by omega) (by omega)
            case c2 => exact news_one [byteN (x * 16 + y)]
            case c3 => unfold maxLen; omega
            case c4 => omega
            case c5 => simp; have := HB.out.size; omega
            intro v2 w2 hown2 hgrow2 _
            have HO2 := Lib.hid hown2
            have HB2 : Hid (Below w.heap.size w w2) := (HB.out.alloc (by have := HB.out.size; omega) _).grown hgrow2 (by have := HB.out.size; simp; omega) (fun q hq => (HO.out.lt q hq).1)
            clear hown2 hgrow2
            go_wp2
            go_roundg (s.size + 3 - (k + 3))
            case measure => omega
            case rel =>
              refine ⟨k + 3, out ++ [byteN (x * 16 + y)], by omega, rfl, by go_num, by simp; omega, own_cast HO2.out (by simp) (by simp), ?_, HB2⟩
              have h1 := HL.out
              rw [HD.out, H61.out, HD1.out, HD2.out] at h1
              obtain ⟨ex, ey⟩ := HXY.out
              have h2 := h1.hex ((hex2_iff _ _ _).2 ⟨by omega, by omega⟩)
              rw [ex, ey]
              exact h2
          · have HN : Hid (textS s.data.toList = none) := by
              have h1 := HL.out
              rw [HD.out, H61.out, HD1.out, HD2.out] at h1
              obtain ⟨ex, ey⟩ := HXY.out
              exact h1.none (textS_nohex _ _ _ (by omega))
            have hor : 15 < x ∨ (x ≤ 15 ∧ 15 < y) := by omega
            clear hxy
            rcases hor with hor | ⟨hor, hor2⟩
            all_goals
              go_wp2_with fail
              with_reducible refine HF1.out.mono ?_
              rintro e w1 ⟨rfl, rfl⟩
              go_wp2_with fail
              with_reducible refine HF2.out.mono ?_
              rintro e w1 ⟨rfl, rfl⟩
              go_wp2
              go_ret2
              exact ⟨by rw [HN.out]; rfl, HB.out⟩
        · have HN : Hid (textS s.data.toList = none) := by
            have h1 := HL.out
            rw [HD.out, H61.out] at h1
            exact h1.none (textS_short _ (by simp; omega))
          go_wp2
          go_ret2
          exact ⟨by rw [HN.out]; rfl, HB.out⟩
      · have t61 := eq61_no h61
        have H61 := Lib.hid h61
        have hct := s[k].toNat_lt
        clear h61
        rcases okN s[k] with ⟨q1, HK⟩ | ⟨q1, q2, HK⟩ | ⟨q1, q2, q3, q4, HK⟩ | ⟨q1, q2, q3, HK⟩ | ⟨q1, q2, q3, HK⟩
        iterate 3
          · skip
            go_wp2_with (at_builtin; refine wpList_append_own _ rfl _ _ 22 rfl w.heap.size 5 i0 (.int .u8 0) 1 1 Tryd.underlying22 hi hz0 hz1 hz2 rfl (by decide) _ _ _ rfl (HO.out.alloc _) ⟨wr.heap.size, 0, none⟩ 1 1 [byteV s[k]] rfl rfl ?c1 ?c2 ?c3 ?c4 ?c5 ?_)
            case c1 => exact cell_one_new wr _ _
            case c2 => exact news_one [s[k]]
            case c3 => unfold maxLen; omega
            case c4 => omega
            case c5 => simp; have := HB.out.size; omega
            intro v2 w2 hown2 hgrow2 _
            have HO2 := Lib.hid hown2
            have HB2 : Hid (Below w.heap.size w w2) := (HB.out.alloc (by have := HB.out.size; omega) _).grown hgrow2 (by have := HB.out.size; simp; omega) (fun q hq => (HO.out.lt q hq).1)
            clear hown2 hgrow2
            go_wp2
            go_roundg (s.size + 3 - (k + 1))
            case measure => omega
            case rel =>
              refine ⟨k + 1, out ++ [s[k]], by omega, rfl, by go_num, by simp; omega, own_cast HO2.out (by simp) (by simp), ?_, HB2⟩
              have h1 := HL.out
              rw [HD.out] at h1
              exact h1.keep H61.out HK.out
        all_goals
          have HN : Hid (textS s.data.toList = none) := by
            have h1 := HL.out
            rw [HD.out] at h1
            exact h1.none (textS_bad _ _ HK.out H61.out)
          go_wp2
          go_ret2
          exact ⟨by rw [HN.out]; rfl, HB.out⟩
    · have hst := run_string_of_owned (P := Tryd.prog) Tryd.underlying22 Tryd.underlying5 Tryd.underlying9 HO.out
      have HP : Hid (textS s.data.toList = some out) := by
        have h1 := HL.out
        rw [List.drop_eq_nil_of_le (by simp; omega)] at h1
        obtain ⟨p, h2, h3⟩ := h1.all
        rw [h2, ← h3]
        rfl
      go_wp2
      go_ret2
      exact ⟨by rw [HP.out]; rfl, HB.out⟩
end Go.Proofs.YtdofnejgfcnnoaaDoor
