/- Contracts of package qp: textOf, Decode. -/
import Derived.Test.YtdofnejgfcnnoaaDoorQpC
namespace Go.Proofs.YtdofnejgfcnnoaaDoor
open Go Go.RowKit

theorem trimB_lib (l : List UInt8) : Lib.trimRightS l [32, 9] = trimB l := by
  unfold Lib.trimRightS trimB
  have : (fun c : UInt8 => [32, 9].contains c) = isBl := by
    funext c
    unfold isBl
    rw [Bool.eq_iff_iff]
    simp
  rw [this]
theorem trimB_prefix (l : List UInt8) : trimB l <+: l := by
  have h := List.dropWhile_suffix isBl (l := l.reverse)
  have := List.reverse_prefix.2 h
  rwa [List.reverse_reverse] at this
theorem txtL_prefix (l : List UInt8) : txtL l <+: l := by
  unfold txtL
  split
  · exact (List.dropLast_prefix _).trans (trimB_prefix l)
  · exact trimB_prefix l
theorem sliceAt.pre {w : World} {ao : Option Addr} {l p : List UInt8} (h : sliceAt w ao l) (hp : p <+: l) : sliceAt w ao p := by
  rw [List.prefix_iff_eq_take.1 hp]
  exact h.take _
theorem soft_lib (l : List UInt8) : Lib.hasSuffix (trimB l) [61] = softL l := by
  unfold Lib.hasSuffix softL
  rcases List.eq_nil_or_concat (trimB l) with h | ⟨t, x, h⟩
  · rw [h]; rfl
  · rw [h, List.concat_eq_append]
    rw [Bool.eq_iff_iff, List.isSuffixOf_iff_suffix]
    simp
    exact eq_comm
theorem txtL_len (l : List UInt8) : (txtL l).length = if softL l = true then (trimB l).length - 1 else (trimB l).length := by
  unfold txtL
  split
  · rw [List.length_dropLast]
  · rfl
theorem cut_text (ao : Option Addr) (cap d B : Nat) (l : List UInt8) (W : World) (hs : sliceAt W ao (trimB l)) (h1 : sliceAt W (some ⟨B, 0, none⟩) [61]) (hc : (trimB l).length ≤ cap) (hm : cap ≤ 2 ^ 63 - 1) :
    Calls Tryd.prog 18 #[.slice ao (trimB l).length cap, .slice (some ⟨B, 0, none⟩) 1 d] W fun e W' => e = .returned (.tuple #[.slice ao (txtL l).length cap, .bool (softL l)]) ∧ W = W' := by
  refine (Tryd.bytes_CutSuffix_all ao (some ⟨B, 0, none⟩) (trimB l).length cap 1 d (intsOf (trimB l)) (intsOf [61]) W (intsOf_len _) rfl hc (by omega) hs.ints h1.ints).mono ?_
  rintro e w' ⟨rfl, rfl⟩
  refine ⟨?_, rfl⟩
  have e2 : Lib.hasSuffix (Lib.bytesOf (intsOf (trimB l))) (Lib.bytesOf (intsOf [61])) = softL l := by rw [bytesOf_ints, bytesOf_ints]; exact soft_lib l
  have e1 : Lib.trimSuffixV ao (trimB l).length cap (intsOf (trimB l)) (intsOf [61]) = .slice ao (txtL l).length cap := by
    rcases hs with h | ⟨b, off, rfl, _, _⟩
    · have h2 : softL l = false := by unfold softL; rw [h]; rfl
      have h3 := txtL_len l
      rw [h2, h] at h3
      have h4 : Lib.hasSuffix (Lib.bytesOf (intsOf (trimB l))) (Lib.bytesOf [61]) = false := by rw [bytesOf_ints, h]; rfl
      rw [h3, h]
      rcases ao with _ | ⟨b, o, _ | s⟩
      · rfl
      · show Lib.bytesTrimSuffix b o 0 cap (intsOf []) [61] = _
        unfold Lib.bytesTrimSuffix
        rw [h] at h4
        rw [h4]
        rfl
      · rfl
    · show Lib.bytesTrimSuffix b off (trimB l).length cap (intsOf (trimB l)) (intsOf [61]) = _
      unfold Lib.bytesTrimSuffix
      rw [e2, txtL_len]
      cases softL l <;> rfl
  rw [e1, e2]

set_option maxHeartbeats 400000 in
theorem textOf_any (ao : Option Addr) (cap : Nat) (l : List UInt8) (w : World) (hs : sliceAt w ao l) (hc : l.length ≤ cap) (hm : cap ≤ 2 ^ 63 - 1) :
    Calls Tryd.prog 13 #[.slice ao l.length cap] w fun e w' => e = .returned (.tuple #[.slice ao (txtL l).length cap, .bool (softL l)]) ∧ Below w.heap.size w w' := by
  have hcon := Tryd.bytes_TrimRight_blank ao l.length cap (intsOf l) w (intsOf_len l) hc (by omega) hs.ints (ints_byte l)
  rw [bytesOf_ints, trimB_lib] at hcon
  have HF := Lib.hid hcon
  have HS := Lib.hid (hs.pre (trimB_prefix l))
  have hk : (trimB l).length ≤ l.length := (trimB_prefix l).length_le
  obtain ⟨q, hq⟩ : ∃ q, q = softL l := ⟨_, rfl⟩
  obtain ⟨n, hn⟩ : ∃ n, n = (txtL l).length := ⟨_, rfl⟩
  have HC := Lib.hid (fun (W : World) (B : Nat) (h1 : sliceAt W ao (trimB l)) (h2 : sliceAt W (some ⟨B, 0, none⟩) [61]) => cut_text ao cap 1 B l W h1 h2 (by omega) hm)
  rw [← hq, ← hn] at HC ⊢
  obtain ⟨k, hk2⟩ : ∃ k, k = (trimB l).length := ⟨_, rfl⟩
  rw [← hk2] at HC HF hk
  clear hcon hs hq hn hk2
  go_enter Tryd.func13, Tryd.ntmps13
  go_wp2_with fail
  with_reducible refine HF.out.mono ?_
  rintro e w1 ⟨rfl, hb1⟩
  have HB1 := Lib.hid hb1
  have HC1 := Lib.hid (HC.out (w1.alloc (.cells #[.int .u8 61] 5)) w1.heap.size (HS.out.below (hb1.alloc hb1.size _)) (sliceAt_new w1 5 (0, 0) #[.int .u8 61] [61] rfl))
  clear hb1
  go_wp2_with fail
  with_reducible refine HC1.out.mono ?_
  rintro e w2 ⟨rfl, rfl⟩
  go_wp2
  go_ret2
  exact ⟨rfl, HB1.out.alloc HB1.out.size _⟩
end Go.Proofs.YtdofnejgfcnnoaaDoor
