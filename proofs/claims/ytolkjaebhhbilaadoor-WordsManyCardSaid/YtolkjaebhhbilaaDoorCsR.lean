/- Contracts of the document's layer 8: which charset, a character at a place. -/
import Derived.Test.YtolkjaebhhbilaaDoorCsK
import Derived.Test.YtolkjaebhhbilaaDoorChars4
import Derived.Shelf.Unicode.DecodeSlow
namespace Go.Proofs.YtolkjaebhhbilaaDoor
open Go Go.RowKit

theorem below_drewNr {B : Nat} {a w : World} (h : Below B a w) : ∀ q, Below B a (w.drewN q)
  | 0 => h
  | q + 1 => (below_drewNr h q).drew
def tailB (s : ByteArray) (i : Nat) : Bool := decide (i < s.size ∧ 128 ≤ (s.get! i).toNat ∧ (s.get! i).toNat < 192)
theorem get_is (t : ByteArray) (j : Nat) (h : j < t.size) : t[j] = t.get! j := (Utf8W.get!_of_lt t j h).symm
set_option maxHeartbeats 1000000 in
theorem refTail_any (s : ByteArray) (i : Nat) (w : World) (_hl : s.size ≤ 1000000) (_hi : i ≤ 2000000) :
    Calls Tryd.prog 22 #[.string s, .int .i64 (i : Int)] w fun e w' => e = .returned (.bool (tailB s i)) ∧ w = w' := by
  by_cases h0 : i < s.size
  · have h0i : (i : Int) < (s.size : Int) := by omega
    have hg := get_is s i h0
    obtain ⟨c, hc⟩ : ∃ c, c = s.get! i := ⟨_, rfl⟩
    have HB : Hid (tailB s i = decide (128 ≤ c.toNat ∧ c.toNat < 192)) := by
      unfold Hid tailB
      rw [← hc]
      simp [h0]
    rw [← hc] at hg
    clear hc
    by_cases h1 : 128 ≤ c.toNat
    · have h1i : (128 : Int) ≤ (c.toNat : Int) := by omega
      by_cases h2 : c.toNat < 192
      · have h2i : (c.toNat : Int) < 192 := by omega
        have HV : Hid (tailB s i = true) := by unfold Hid; rw [HB.out]; exact decide_eq_true ⟨h1, h2⟩
        go_enter Tryd.func22, Tryd.ntmps22
        go_wp2_with fail
        go_ret
        exact ⟨by rw [HV.out]; rfl, rfl⟩
      · have h2i : ¬ (c.toNat : Int) < 192 := by omega
        have HV : Hid (tailB s i = false) := by unfold Hid; rw [HB.out]; exact decide_eq_false (fun h => h2 h.2)
        go_enter Tryd.func22, Tryd.ntmps22
        go_wp2_with fail
        go_ret
        exact ⟨by rw [HV.out]; rfl, rfl⟩
    · have h1i : ¬ (128 : Int) ≤ (c.toNat : Int) := by omega
      have HV : Hid (tailB s i = false) := by unfold Hid; rw [HB.out]; exact decide_eq_false (fun h => h1 h.1)
      go_enter Tryd.func22, Tryd.ntmps22
      go_wp2_with fail
      go_ret
      exact ⟨by rw [HV.out]; rfl, rfl⟩
  · have h0i : ¬ (i : Int) < (s.size : Int) := by omega
    have HV : Hid (tailB s i = false) := by unfold Hid tailB; exact decide_eq_false (fun h => h0 h.1)
    go_enter Tryd.func22, Tryd.ntmps22
    go_wp2_with fail
    go_ret
    exact ⟨by rw [HV.out]; rfl, rfl⟩

/-- The character at the front, and how many bytes it has; none: nought. -/
def chrL (l : List UInt8) : Nat × Nat := if (Lib.decodeL l).1 = 65533 ∧ (Lib.decodeL l).2 = 1 then (0, 0) else Lib.decodeL l
theorem chr_bad {s : ByteArray} {i : Nat} (h : Lib.decodeN (s.size - i) (s.get! i).toNat (s.get! (i + 1)).toNat (s.get! (i + 2)).toNat (s.get! (i + 3)).toNat = (65533, 1)) : chrL (s.data.toList.drop i) = (0, 0) := by
  unfold chrL
  rw [Lib.decodeL_drop, Lib.decode_at, h]
  rfl
theorem chr_good {s : ByteArray} {i c n : Nat} (h : Lib.decodeN (s.size - i) (s.get! i).toNat (s.get! (i + 1)).toNat (s.get! (i + 2)).toNat (s.get! (i + 3)).toNat = (c, n)) (hg : ¬ (c = 65533 ∧ n = 1)) : chrL (s.data.toList.drop i) = (c, n) := by
  unfold chrL
  rw [Lib.decodeL_drop, Lib.decode_at, h]
  simp only
  rw [if_neg hg]
theorem tail_yes {s : ByteArray} {i : Nat} (h : tailB s i = true) : i < s.size ∧ 128 ≤ (s.get! i).toNat ∧ (s.get! i).toNat < 192 := of_decide_eq_true h
theorem tail_no {s : ByteArray} {i : Nat} (h : tailB s i = false) : ¬ (i < s.size ∧ 128 ≤ (s.get! i).toNat ∧ (s.get! i).toNat < 192) := of_decide_eq_false h

set_option maxRecDepth 1000000 in
set_option maxHeartbeats 8000000 in
theorem refChar_any (s : ByteArray) (i : Nat) (w : World) (hl : s.size ≤ 1000000) (hi : i < s.size) :
    Calls Tryd.prog 14 #[.string s, .int .i64 (i : Int)] w fun e w' => e = .returned (.tuple #[.int .i64 ((chrL (s.data.toList.drop i)).1 : Int), .int .i64 ((chrL (s.data.toList.drop i)).2 : Int)]) ∧ Below w.heap.size w w' := by
  have HT1 : Hid (∀ W, Calls Tryd.prog 22 #[.string s, .int .i64 ((i : Int) + 1)] W fun e w' => e = .returned (.bool (tailB s (i + 1))) ∧ W = w') := fun W => refTail_any s (i + 1) W hl (by omega)
  have HT2 : Hid (∀ W, Calls Tryd.prog 22 #[.string s, .int .i64 ((i : Int) + 2)] W fun e w' => e = .returned (.bool (tailB s (i + 2))) ∧ W = w') := fun W => refTail_any s (i + 2) W hl (by omega)
  have HT3 : Hid (∀ W, Calls Tryd.prog 22 #[.string s, .int .i64 ((i : Int) + 3)] W fun e w' => e = .returned (.bool (tailB s (i + 3))) ∧ W = w') := fun W => refTail_any s (i + 3) W hl (by omega)
  have hii : (i : Int) < (s.size : Int) := by omega
  have hg := get_is s i hi
  obtain ⟨a, ha⟩ : ∃ a, a = s.get! i := ⟨_, rfl⟩
  obtain ⟨x1, hx1⟩ : ∃ x, x = s.get! (i + 1) := ⟨_, rfl⟩
  obtain ⟨x2, hx2⟩ : ∃ x, x = s.get! (i + 2) := ⟨_, rfl⟩
  obtain ⟨x3, hx3⟩ : ∃ x, x = s.get! (i + 3) := ⟨_, rfl⟩
  have hat := a.toNat_lt; have h1t := x1.toNat_lt; have h2t := x2.toNat_lt; have h3t := x3.toNat_lt
  obtain ⟨A, hA⟩ : ∃ A, A = a.toNat := ⟨_, rfl⟩
  obtain ⟨b1, hb1⟩ : ∃ b, b = x1.toNat := ⟨_, rfl⟩
  obtain ⟨b2, hb2⟩ : ∃ b, b = x2.toNat := ⟨_, rfl⟩
  obtain ⟨b3, hb3⟩ : ∃ b, b = x3.toNat := ⟨_, rfl⟩
  rw [← hA] at hat
  rw [← hb1] at h1t
  rw [← hb2] at h2t
  rw [← hb3] at h3t
  have hgi : (((s[i]).toNat : Nat) : Int) = (A : Int) := by rw [hg, ← ha, hA]
  have HBad : Hid (Lib.decodeN (s.size - i) A b1 b2 b3 = (65533, 1) → chrL (s.data.toList.drop i) = (0, 0)) := fun h => chr_bad (by rw [← ha, ← hx1, ← hx2, ← hx3, ← hA, ← hb1, ← hb2, ← hb3]; exact h)
  have HGood : Hid (∀ c n, Lib.decodeN (s.size - i) A b1 b2 b3 = (c, n) → ¬ (c = 65533 ∧ n = 1) → chrL (s.data.toList.drop i) = (c, n)) := fun c n h hg => chr_good (by rw [← ha, ← hx1, ← hx2, ← hx3, ← hA, ← hb1, ← hb2, ← hb3]; exact h) hg
  have HTy1 : Hid (tailB s (i + 1) = true → i + 1 < s.size ∧ 128 ≤ b1 ∧ b1 < 192) := fun h => by have := tail_yes h; rw [← hx1, ← hb1] at this; exact this
  have HTy2 : Hid (tailB s (i + 2) = true → i + 2 < s.size ∧ 128 ≤ b2 ∧ b2 < 192) := fun h => by have := tail_yes h; rw [← hx2, ← hb2] at this; exact this
  have HTy3 : Hid (tailB s (i + 3) = true → i + 3 < s.size ∧ 128 ≤ b3 ∧ b3 < 192) := fun h => by have := tail_yes h; rw [← hx3, ← hb3] at this; exact this
  have HTn1 : Hid (tailB s (i + 1) = false → ¬ (i + 1 < s.size ∧ 128 ≤ b1 ∧ b1 < 192)) := fun h => by have := tail_no h; rw [← hx1, ← hb1] at this; exact this
  have HTn2 : Hid (tailB s (i + 2) = false → ¬ (i + 2 < s.size ∧ 128 ≤ b2 ∧ b2 < 192)) := fun h => by have := tail_no h; rw [← hx2, ← hb2] at this; exact this
  have HTn3 : Hid (tailB s (i + 3) = false → ¬ (i + 3 < s.size ∧ 128 ≤ b3 ∧ b3 < 192)) := fun h => by have := tail_no h; rw [← hx3, ← hb3] at this; exact this
  have HG1 : Hid (∀ h : i + 1 < s.size, (((s[i + 1]).toNat : Nat) : Int) = (b1 : Int)) := fun h => by rw [get_is s (i + 1) h, ← hx1, hb1]
  have HG2 : Hid (∀ h : i + 2 < s.size, (((s[i + 2]).toNat : Nat) : Int) = (b2 : Int)) := fun h => by rw [get_is s (i + 2) h, ← hx2, hb2]
  have HG3 : Hid (∀ h : i + 3 < s.size, (((s[i + 3]).toNat : Nat) : Int) = (b3 : Int)) := fun h => by rw [get_is s (i + 3) h, ← hx3, hb3]
  have ht1 : ((i : Int) + 1).toNat = i + 1 := by omega
  have ht2 : ((i : Int) + 2).toNat = i + 2 := by omega
  have ht3 : ((i : Int) + 3).toNat = i + 3 := by omega
  have hp1 : (0 : Int) ≤ (i : Int) + 1 := by omega
  have hp2 : (0 : Int) ≤ (i : Int) + 2 := by omega
  have hp3 : (0 : Int) ≤ (i : Int) + 3 := by omega
  obtain ⟨u1, hu1⟩ : ∃ u, u = tailB s (i + 1) := ⟨_, rfl⟩
  obtain ⟨u2, hu2⟩ : ∃ u, u = tailB s (i + 2) := ⟨_, rfl⟩
  obtain ⟨u3, hu3⟩ : ∃ u, u = tailB s (i + 3) := ⟨_, rfl⟩
  rw [← hu1] at HT1 HTy1 HTn1
  rw [← hu2] at HT2 HTy2 HTn2
  rw [← hu3] at HT3 HTy3 HTn3
  clear ha hx1 hx2 hx3 hA hb1 hb2 hb3 hu1 hu2 hu3 hg
  by_cases r1 : A < 128
  · have q1 : (A : Int) < 128 := by omega
    have HC : Hid (chrL (s.data.toList.drop i) = (A, 1)) := HGood.out A 1 (by unfold Lib.decodeN; rw [if_pos r1]) (by omega)
    go_enter Tryd.func14, Tryd.ntmps14
    go_wp2_with fail
    go_ret2
    exact ⟨by rw [HC.out]; rfl, Below.refl _ _⟩
  have q1 : ¬ (A : Int) < 128 := by omega
  by_cases r2 : A < 194
  · have g194 : ¬ (194 : Int) ≤ (A : Int) := by omega
    have l194 : (A : Int) < 194 := by omega
    have g224 : ¬ (224 : Int) ≤ (A : Int) := by omega
    have l224 : (A : Int) < 224 := by omega
    have g240 : ¬ (240 : Int) ≤ (A : Int) := by omega
    have l240 : (A : Int) < 240 := by omega
    have g245 : ¬ (245 : Int) ≤ (A : Int) := by omega
    have l245 : (A : Int) < 245 := by omega
    have HC : Hid (chrL (s.data.toList.drop i) = (0, 0)) := HBad.out (by
      unfold Lib.decodeN
      rw [if_neg (by omega)]
      by_cases h : A / 32 = 6 ∧ (1 < s.size - i ∧ b1 / 64 = 2)
      · rw [if_pos h, if_neg (by omega)]
      · rw [if_neg h, if_neg (by omega), if_neg (by omega)])
    go_enter Tryd.func14, Tryd.ntmps14
    go_wp2_with fail
    go_ret2
    exact ⟨by rw [HC.out]; rfl, Below.refl _ _⟩
    
  by_cases r3 : A < 224
  · have g194 : (194 : Int) ≤ (A : Int) := by omega
    have l194 : ¬ (A : Int) < 194 := by omega
    have g224 : ¬ (224 : Int) ≤ (A : Int) := by omega
    have l224 : (A : Int) < 224 := by omega
    have g240 : ¬ (240 : Int) ≤ (A : Int) := by omega
    have l240 : (A : Int) < 240 := by omega
    have g245 : ¬ (245 : Int) ≤ (A : Int) := by omega
    have l245 : (A : Int) < 245 := by omega
    cases u1 with
    | false =>
      have hn1 := HTn1.out rfl
      have HC : Hid (chrL (s.data.toList.drop i) = (0, 0)) := HBad.out (by
        unfold Lib.decodeN
        rw [if_neg (by omega), if_neg (by omega), if_neg (by omega), if_neg (by omega)])
      go_enter Tryd.func14, Tryd.ntmps14
      go_wp2_with fail
      with_reducible refine (HT1.out _).mono ?_
      rintro e w1 ⟨rfl, rfl⟩
      go_wp2_with fail
      go_ret2
      exact ⟨by rw [HC.out]; rfl, Below.refl _ _⟩
    | true =>
      obtain ⟨y1, y2, y3⟩ := HTy1.out rfl
      have hgx := HG1.out y1
      have hii1 : (i : Int) + 1 < (s.size : Int) := by omega
      have HC : Hid (chrL (s.data.toList.drop i) = ((A - 192) * 64 + b1 - 128, 2)) := HGood.out _ _ (by unfold Lib.decodeN; rw [if_neg (by omega), if_pos ⟨by omega, by omega, by omega⟩, if_pos (by omega)]; congr 1; omega) (by omega)
      go_enter Tryd.func14, Tryd.ntmps14
      go_wp2_with fail
      with_reducible refine (HT1.out _).mono ?_
      rintro e w1 ⟨rfl, rfl⟩
      go_wp2_with fail
      go_ret2
      exact ⟨by rw [HC.out]; exact congrArg (fun z : Int => Ending.returned (.tuple #[.int .i64 z, .int .i64 2])) (by omega), Below.refl _ _⟩
    
  by_cases r4 : A < 240
  · have g194 : (194 : Int) ≤ (A : Int) := by omega
    have l194 : ¬ (A : Int) < 194 := by omega
    have g224 : (224 : Int) ≤ (A : Int) := by omega
    have l224 : ¬ (A : Int) < 224 := by omega
    have g240 : ¬ (240 : Int) ≤ (A : Int) := by omega
    have l240 : (A : Int) < 240 := by omega
    have g245 : ¬ (245 : Int) ≤ (A : Int) := by omega
    have l245 : (A : Int) < 245 := by omega
    cases u1 with
    | false =>
      have hn1 := HTn1.out rfl
      have HC : Hid (chrL (s.data.toList.drop i) = (0, 0)) := HBad.out (by
        unfold Lib.decodeN
        rw [if_neg (by omega), if_neg (by omega), if_neg (by omega), if_neg (by omega)])
      go_enter Tryd.func14, Tryd.ntmps14
      go_wp2_with fail
      with_reducible refine (HT1.out _).mono ?_
      rintro e w1 ⟨rfl, rfl⟩
      go_wp2_with fail
      go_ret2
      exact ⟨by rw [HC.out]; rfl, Below.refl _ _⟩
    | true =>
      obtain ⟨y1, y2, y3⟩ := HTy1.out rfl
      cases u2 with
      | false =>
        have hn2 := HTn2.out rfl
        have HC : Hid (chrL (s.data.toList.drop i) = (0, 0)) := HBad.out (by
          unfold Lib.decodeN
          rw [if_neg (by omega), if_neg (by omega), if_neg (by omega), if_neg (by omega)])
        go_enter Tryd.func14, Tryd.ntmps14
        go_wp2_with fail
        with_reducible refine (HT1.out _).mono ?_
        rintro e w1 ⟨rfl, rfl⟩
        go_wp2_with fail
        with_reducible refine (HT2.out _).mono ?_
        rintro e w2 ⟨rfl, rfl⟩
        go_wp2_with fail
        go_ret2
        exact ⟨by rw [HC.out]; rfl, Below.refl _ _⟩
      | true =>
        obtain ⟨y4, y5, y6⟩ := HTy2.out rfl
        have hgx1 := HG1.out y1
        have hgx2 := HG2.out y4
        have hii1 : (i : Int) + 1 < (s.size : Int) := by omega
        have hii2 : (i : Int) + 2 < (s.size : Int) := by omega
        have hw1 : IntKind.i64.wrap ((i : Int) + 1) = (i : Int) + 1 := IntWalk.i64_in _ (by omega)
        have hw2 : IntKind.i64.wrap ((i : Int) + 2) = (i : Int) + 2 := IntWalk.i64_in _ (by omega)
        obtain ⟨c, hc⟩ : ∃ c, c = (A - 224) * 4096 + (b1 - 128) * 64 + b2 - 128 := ⟨_, rfl⟩
        have hcz : (((A : Int) - 224) * 4096 + ((b1 : Int) - 128) * 64 + (b2 : Int) - 128) = (c : Int) := by omega
        have v1 : IntKind.i64.wrap ((A : Int) - 224) = (A : Int) - 224 := IntWalk.i64_in _ (by omega)
        have v2 : IntKind.i64.wrap (((A : Int) - 224) * 4096) = ((A : Int) - 224) * 4096 := IntWalk.i64_in _ (by omega)
        have v3 : IntKind.i64.wrap ((b1 : Int) - 128) = (b1 : Int) - 128 := IntWalk.i64_in _ (by omega)
        have v4 : IntKind.i64.wrap (((b1 : Int) - 128) * 64) = ((b1 : Int) - 128) * 64 := IntWalk.i64_in _ (by omega)
        have v5 : IntKind.i64.wrap (((A : Int) - 224) * 4096 + ((b1 : Int) - 128) * 64) = ((A : Int) - 224) * 4096 + ((b1 : Int) - 128) * 64 := IntWalk.i64_in _ (by omega)
        have v6 : IntKind.i64.wrap (((A : Int) - 224) * 4096 + ((b1 : Int) - 128) * 64 + (b2 : Int)) = ((A : Int) - 224) * 4096 + ((b1 : Int) - 128) * 64 + (b2 : Int) := IntWalk.i64_in _ (by omega)
        have v7 : IntKind.i64.wrap (((A : Int) - 224) * 4096 + ((b1 : Int) - 128) * 64 + (b2 : Int) - 128) = (c : Int) := by rw [hcz]; exact IntWalk.i64_in _ (by omega)
        have v8 : IntKind.i64.wrap (b1 : Int) = (b1 : Int) := IntWalk.i64_in _ (by omega)
        have v9 : IntKind.i64.wrap (b2 : Int) = (b2 : Int) := IntWalk.i64_in _ (by omega)
        have hdc : A % 16 * 4096 + b1 % 64 * 64 + b2 % 64 = c := by omega
        have hcl : c ≤ 65535 := by omega
        have HSh : Hid (Lib.decodeN (s.size - i) A b1 b2 b3 = if 2048 ≤ c ∧ (c < 55296 ∨ (57344 ≤ c ∧ c ≤ 1114111)) then (c, 3) else (65533, 1)) := by
          unfold Hid Lib.decodeN
          rw [if_neg (by omega), if_neg (by omega), if_pos ⟨by omega, ⟨by omega, by omega⟩, ⟨by omega, by omega⟩⟩, hdc]
        clear hc hdc hcz
        by_cases k1 : 2048 ≤ c
        · by_cases k2 : c < 55296
          · have HC : Hid (chrL (s.data.toList.drop i) = (c, 3)) := HGood.out c 3 (by rw [HSh.out, if_pos (by omega)]) (by omega)
            clear HSh
            have k1z : (2048 : Int) ≤ (c : Int) := by omega
            have k2z : (c : Int) < 55296 := by omega
            go_enter Tryd.func14, Tryd.ntmps14
            go_wp2_with fail
            with_reducible refine (HT1.out _).mono ?_
            rintro e w1 ⟨rfl, rfl⟩
            go_wp2_with fail
            with_reducible refine (HT2.out _).mono ?_
            rintro e w2 ⟨rfl, rfl⟩
            go_wp2_with fail
            go_quiet (fail)
            go_wp2_with fail
            go_ret2
            exact ⟨by rw [HC.out]; rfl, below_drewNr (Below.refl _ _) _⟩
          · by_cases k3 : 57343 < c
            · have HC : Hid (chrL (s.data.toList.drop i) = (c, 3)) := HGood.out c 3 (by rw [HSh.out, if_pos (by omega)]) (by omega)
              clear HSh
              have k1z : (2048 : Int) ≤ (c : Int) := by omega
              have k2z : ¬ (c : Int) < 55296 := by omega
              have k3z : (57343 : Int) < (c : Int) := by omega
              go_enter Tryd.func14, Tryd.ntmps14
              go_wp2_with fail
              with_reducible refine (HT1.out _).mono ?_
              rintro e w1 ⟨rfl, rfl⟩
              go_wp2_with fail
              with_reducible refine (HT2.out _).mono ?_
              rintro e w2 ⟨rfl, rfl⟩
              go_wp2_with fail
              go_quiet (fail)
              go_wp2_with fail
              go_ret2
              exact ⟨by rw [HC.out]; rfl, below_drewNr (Below.refl _ _) _⟩
            · have HC : Hid (chrL (s.data.toList.drop i) = (0, 0)) := HBad.out (by rw [HSh.out, if_neg (by omega)])
              clear HSh
              have k1z : (2048 : Int) ≤ (c : Int) := by omega
              have k2z : ¬ (c : Int) < 55296 := by omega
              have k3z : ¬ (57343 : Int) < (c : Int) := by omega
              go_enter Tryd.func14, Tryd.ntmps14
              go_wp2_with fail
              with_reducible refine (HT1.out _).mono ?_
              rintro e w1 ⟨rfl, rfl⟩
              go_wp2_with fail
              with_reducible refine (HT2.out _).mono ?_
              rintro e w2 ⟨rfl, rfl⟩
              go_wp2_with fail
              go_quiet (fail)
              go_wp2_with fail
              go_ret2
              exact ⟨by rw [HC.out]; rfl, below_drewNr (Below.refl _ _) _⟩
        · have HC : Hid (chrL (s.data.toList.drop i) = (0, 0)) := HBad.out (by rw [HSh.out, if_neg (by omega)])
          clear HSh
          have k1z : ¬ (2048 : Int) ≤ (c : Int) := by omega
          go_enter Tryd.func14, Tryd.ntmps14
          go_wp2_with fail
          with_reducible refine (HT1.out _).mono ?_
          rintro e w1 ⟨rfl, rfl⟩
          go_wp2_with fail
          with_reducible refine (HT2.out _).mono ?_
          rintro e w2 ⟨rfl, rfl⟩
          go_wp2_with fail
          go_quiet (fail)
          go_wp2_with fail
          go_ret2
          exact ⟨by rw [HC.out]; rfl, below_drewNr (Below.refl _ _) _⟩
    
  by_cases r5 : A < 245
  · have g194 : (194 : Int) ≤ (A : Int) := by omega
    have l194 : ¬ (A : Int) < 194 := by omega
    have g224 : (224 : Int) ≤ (A : Int) := by omega
    have l224 : ¬ (A : Int) < 224 := by omega
    have g240 : (240 : Int) ≤ (A : Int) := by omega
    have l240 : ¬ (A : Int) < 240 := by omega
    have g245 : ¬ (245 : Int) ≤ (A : Int) := by omega
    have l245 : (A : Int) < 245 := by omega
    cases u1 with
    | false =>
      have hn1 := HTn1.out rfl
      have HC : Hid (chrL (s.data.toList.drop i) = (0, 0)) := HBad.out (by
        unfold Lib.decodeN
        rw [if_neg (by omega), if_neg (by omega), if_neg (by omega), if_neg (by omega)])
      go_enter Tryd.func14, Tryd.ntmps14
      go_wp2_with fail
      with_reducible refine (HT1.out _).mono ?_
      rintro e w1 ⟨rfl, rfl⟩
      go_wp2_with fail
      go_ret2
      exact ⟨by rw [HC.out]; rfl, Below.refl _ _⟩
    | true =>
      obtain ⟨y1, y2, y3⟩ := HTy1.out rfl
      cases u2 with
      | false =>
        have hn2 := HTn2.out rfl
        have HC : Hid (chrL (s.data.toList.drop i) = (0, 0)) := HBad.out (by
          unfold Lib.decodeN
          rw [if_neg (by omega), if_neg (by omega), if_neg (by omega), if_neg (by omega)])
        go_enter Tryd.func14, Tryd.ntmps14
        go_wp2_with fail
        with_reducible refine (HT1.out _).mono ?_
        rintro e w1 ⟨rfl, rfl⟩
        go_wp2_with fail
        with_reducible refine (HT2.out _).mono ?_
        rintro e w2 ⟨rfl, rfl⟩
        go_wp2_with fail
        go_ret2
        exact ⟨by rw [HC.out]; rfl, Below.refl _ _⟩
      | true =>
        obtain ⟨y4, y5, y6⟩ := HTy2.out rfl
        cases u3 with
        | false =>
          have hn3 := HTn3.out rfl
          have HC : Hid (chrL (s.data.toList.drop i) = (0, 0)) := HBad.out (by
            unfold Lib.decodeN
            rw [if_neg (by omega), if_neg (by omega), if_neg (by omega), if_neg (by omega)])
          go_enter Tryd.func14, Tryd.ntmps14
          go_wp2_with fail
          with_reducible refine (HT1.out _).mono ?_
          rintro e w1 ⟨rfl, rfl⟩
          go_wp2_with fail
          with_reducible refine (HT2.out _).mono ?_
          rintro e w2 ⟨rfl, rfl⟩
          go_wp2_with fail
          with_reducible refine (HT3.out _).mono ?_
          rintro e w3 ⟨rfl, rfl⟩
          go_wp2_with fail
          go_ret2
          exact ⟨by rw [HC.out]; rfl, Below.refl _ _⟩
        | true =>
          obtain ⟨y7, y8, y9⟩ := HTy3.out rfl
          have hgx1 := HG1.out y1
          have hgx2 := HG2.out y4
          have hgx3 := HG3.out y7
          have hii1 : (i : Int) + 1 < (s.size : Int) := by omega
          have hii2 : (i : Int) + 2 < (s.size : Int) := by omega
          have hii3 : (i : Int) + 3 < (s.size : Int) := by omega
          have hw1 : IntKind.i64.wrap ((i : Int) + 1) = (i : Int) + 1 := IntWalk.i64_in _ (by omega)
          have hw2 : IntKind.i64.wrap ((i : Int) + 2) = (i : Int) + 2 := IntWalk.i64_in _ (by omega)
          have hw3 : IntKind.i64.wrap ((i : Int) + 3) = (i : Int) + 3 := IntWalk.i64_in _ (by omega)
          obtain ⟨c, hc⟩ : ∃ c, c = (A - 240) * 262144 + (b1 - 128) * 4096 + (b2 - 128) * 64 + b3 - 128 := ⟨_, rfl⟩
          have hcz : (((A : Int) - 240) * 262144 + ((b1 : Int) - 128) * 4096 + ((b2 : Int) - 128) * 64 + (b3 : Int) - 128) = (c : Int) := by omega
          have v1 : IntKind.i64.wrap ((A : Int) - 240) = (A : Int) - 240 := IntWalk.i64_in _ (by omega)
          have v2 : IntKind.i64.wrap (((A : Int) - 240) * 262144) = ((A : Int) - 240) * 262144 := IntWalk.i64_in _ (by omega)
          have v3 : IntKind.i64.wrap ((b1 : Int) - 128) = (b1 : Int) - 128 := IntWalk.i64_in _ (by omega)
          have v4 : IntKind.i64.wrap (((b1 : Int) - 128) * 4096) = ((b1 : Int) - 128) * 4096 := IntWalk.i64_in _ (by omega)
          have v5 : IntKind.i64.wrap (((A : Int) - 240) * 262144 + ((b1 : Int) - 128) * 4096) = ((A : Int) - 240) * 262144 + ((b1 : Int) - 128) * 4096 := IntWalk.i64_in _ (by omega)
          have v6 : IntKind.i64.wrap ((b2 : Int) - 128) = (b2 : Int) - 128 := IntWalk.i64_in _ (by omega)
          have v7 : IntKind.i64.wrap (((b2 : Int) - 128) * 64) = ((b2 : Int) - 128) * 64 := IntWalk.i64_in _ (by omega)
          have v8 : IntKind.i64.wrap (((A : Int) - 240) * 262144 + ((b1 : Int) - 128) * 4096 + ((b2 : Int) - 128) * 64) = ((A : Int) - 240) * 262144 + ((b1 : Int) - 128) * 4096 + ((b2 : Int) - 128) * 64 := IntWalk.i64_in _ (by omega)
          have v9 : IntKind.i64.wrap (((A : Int) - 240) * 262144 + ((b1 : Int) - 128) * 4096 + ((b2 : Int) - 128) * 64 + (b3 : Int)) = ((A : Int) - 240) * 262144 + ((b1 : Int) - 128) * 4096 + ((b2 : Int) - 128) * 64 + (b3 : Int) := IntWalk.i64_in _ (by omega)
          have va : IntKind.i64.wrap (((A : Int) - 240) * 262144 + ((b1 : Int) - 128) * 4096 + ((b2 : Int) - 128) * 64 + (b3 : Int) - 128) = (c : Int) := by rw [hcz]; exact IntWalk.i64_in _ (by omega)
          have vb : IntKind.i64.wrap (b1 : Int) = (b1 : Int) := IntWalk.i64_in _ (by omega)
          have vc : IntKind.i64.wrap (b2 : Int) = (b2 : Int) := IntWalk.i64_in _ (by omega)
          have vd : IntKind.i64.wrap (b3 : Int) = (b3 : Int) := IntWalk.i64_in _ (by omega)
          have hdc : A % 8 * 262144 + b1 % 64 * 4096 + b2 % 64 * 64 + b3 % 64 = c := by omega
          have hcl : c ≤ 2000000 := by omega
          have HSh : Hid (Lib.decodeN (s.size - i) A b1 b2 b3 = if 65536 ≤ c ∧ (c < 55296 ∨ (57344 ≤ c ∧ c ≤ 1114111)) then (c, 4) else (65533, 1)) := by
            unfold Hid Lib.decodeN
            rw [if_neg (by omega), if_neg (by omega), if_neg (by omega), if_pos ⟨by omega, ⟨by omega, by omega⟩, ⟨by omega, by omega⟩, ⟨by omega, by omega⟩⟩, hdc]
          clear hc hdc hcz
          by_cases k1 : 65536 ≤ c
          · by_cases k2 : c ≤ 1114111
            · have HC : Hid (chrL (s.data.toList.drop i) = (c, 4)) := HGood.out c 4 (by rw [HSh.out, if_pos (by omega)]) (by omega)
              clear HSh
              have k1z : (65536 : Int) ≤ (c : Int) := by omega
              have k2z : (c : Int) ≤ 1114111 := by omega
              go_enter Tryd.func14, Tryd.ntmps14
              go_wp2_with fail
              with_reducible refine (HT1.out _).mono ?_
              rintro e w1 ⟨rfl, rfl⟩
              go_wp2_with fail
              with_reducible refine (HT2.out _).mono ?_
              rintro e w2 ⟨rfl, rfl⟩
              go_wp2_with fail
              with_reducible refine (HT3.out _).mono ?_
              rintro e w3 ⟨rfl, rfl⟩
              go_wp2_with fail
              go_quiet (fail)
              go_wp2_with fail
              go_ret2
              exact ⟨by rw [HC.out]; rfl, below_drewNr (Below.refl _ _) _⟩
            · have HC : Hid (chrL (s.data.toList.drop i) = (0, 0)) := HBad.out (by rw [HSh.out, if_neg (by omega)])
              clear HSh
              have k1z : (65536 : Int) ≤ (c : Int) := by omega
              have k2z : ¬ (c : Int) ≤ 1114111 := by omega
              go_enter Tryd.func14, Tryd.ntmps14
              go_wp2_with fail
              with_reducible refine (HT1.out _).mono ?_
              rintro e w1 ⟨rfl, rfl⟩
              go_wp2_with fail
              with_reducible refine (HT2.out _).mono ?_
              rintro e w2 ⟨rfl, rfl⟩
              go_wp2_with fail
              with_reducible refine (HT3.out _).mono ?_
              rintro e w3 ⟨rfl, rfl⟩
              go_wp2_with fail
              go_quiet (fail)
              go_wp2_with fail
              go_ret2
              exact ⟨by rw [HC.out]; rfl, below_drewNr (Below.refl _ _) _⟩
          · have HC : Hid (chrL (s.data.toList.drop i) = (0, 0)) := HBad.out (by rw [HSh.out, if_neg (by omega)])
            clear HSh
            have k1z : ¬ (65536 : Int) ≤ (c : Int) := by omega
            go_enter Tryd.func14, Tryd.ntmps14
            go_wp2_with fail
            with_reducible refine (HT1.out _).mono ?_
            rintro e w1 ⟨rfl, rfl⟩
            go_wp2_with fail
            with_reducible refine (HT2.out _).mono ?_
            rintro e w2 ⟨rfl, rfl⟩
            go_wp2_with fail
            with_reducible refine (HT3.out _).mono ?_
            rintro e w3 ⟨rfl, rfl⟩
            go_wp2_with fail
            go_quiet (fail)
            go_wp2_with fail
            go_ret2
            exact ⟨by rw [HC.out]; rfl, below_drewNr (Below.refl _ _) _⟩
    
  have g194 : (194 : Int) ≤ (A : Int) := by omega
  have l194 : ¬ (A : Int) < 194 := by omega
  have g224 : (224 : Int) ≤ (A : Int) := by omega
  have l224 : ¬ (A : Int) < 224 := by omega
  have g240 : (240 : Int) ≤ (A : Int) := by omega
  have l240 : ¬ (A : Int) < 240 := by omega
  have g245 : (245 : Int) ≤ (A : Int) := by omega
  have l245 : ¬ (A : Int) < 245 := by omega
  have HC : Hid (chrL (s.data.toList.drop i) = (0, 0)) := HBad.out (by
    unfold Lib.decodeN
    rw [if_neg (by omega), if_neg (by omega), if_neg (by omega)]
    by_cases h : A / 8 = 30 ∧ (1 < s.size - i ∧ b1 / 64 = 2) ∧ (2 < s.size - i ∧ b2 / 64 = 2) ∧ (3 < s.size - i ∧ b3 / 64 = 2)
    · rw [if_pos h, if_neg (by omega)]
    · rw [if_neg h])
  go_enter Tryd.func14, Tryd.ntmps14
  go_wp2_with fail
  go_ret2
  exact ⟨by rw [HC.out]; rfl, Below.refl _ _⟩
end Go.Proofs.YtolkjaebhhbilaaDoor
