/- Contracts of the document's layer 8: whether a text is UTF-8, texts, bytes. -/
import Derived.Test.YtolkjaebhhbilaaDoorCsR
import Derived.Test.YtolkjaebhhbilaaDoorQB
import Derived.Deep.RegionWith
namespace Go.Proofs.YtolkjaebhhbilaaDoor
open Go Go.RowKit

def errV : Option (List UInt8) → Value
  | some t => .tuple #[.string ⟨t.toArray⟩, .int .i64 0]
  | none => .tuple #[.string ⟨#[]⟩, .int .i64 21]
theorem drop_ne {s : ByteArray} {i : Nat} (h : i < s.size) : s.data.toList.drop i ≠ [] := by
  intro e
  have := congrArg List.length e
  rw [List.length_drop, len_toList] at this
  simp at this
  omega
theorem str_is (s : ByteArray) {l : List UInt8} (h : s.data.toList = l) : Value.string s = .string ⟨l.toArray⟩ := by
  subst h
  rfl
set_option maxRecDepth 100000 in
set_option maxHeartbeats 2000000 in
theorem refValid_any (s : ByteArray) (w : World) (hl : s.size ≤ 1000000) :
    Calls Tryd.prog 8 #[.string s] w fun e w' => e = .returned (.bool (Lib.validD s.data.toList)) ∧ Below w.heap.size w w' := by
  have HC := Lib.hid (fun i W h => refChar_any s i W hl h)
  go_enter Tryd.func8, Tryd.ntmps8
  go_wp2_with fail
  go_loopg [3] (s.size + 1) (fun g v3 wr => ∃ i : Nat, g = s.size + 1 - i ∧ i ≤ s.size ∧ v3 = .int .i64 (i : Int) ∧ Hid (Lib.validD s.data.toList = Lib.validD (s.data.toList.drop i)) ∧ Hid (Below w.heap.size w wr))
  case atStart => exact ⟨0, by omega, by omega, rfl, by unfold Hid; rw [List.drop_zero], Below.refl _ _⟩
  case round =>
    obtain ⟨i, rfl, hi, rfl, HS, HB⟩ := hrel
    by_cases hlt : i < s.size
    · have hii : (i : Int) < (s.size : Int) := by omega
      have HC1 := Lib.hid (HC.out i wr hlt)
      have hne := drop_ne hlt
      have hst := Lib.validD_step _ hne
      have hw := Lib.decodeL_width (s.data.toList.drop i)
      have hle := Lib.decodeL_le _ hne
      rw [List.length_drop, len_toList] at hle
      by_cases hb : (Lib.decodeL (s.data.toList.drop i)).1 = 65533 ∧ (Lib.decodeL (s.data.toList.drop i)).2 = 1
      · have hc : chrL (s.data.toList.drop i) = (0, 0) := by unfold chrL; rw [if_pos hb]
        rw [hc] at HC1
        have HN : Hid (Lib.validD s.data.toList = false) := by unfold Hid; rw [HS.out, hst, if_pos hb]
        clear hst hw hle hb hc hne
        go_wp2_with fail
        with_reducible refine HC1.out.mono ?_
        rintro e w2 ⟨rfl, hb2⟩
        have HB2 := Lib.hid (HB.out.trans (hb2.mono HB.out.size))
        clear hb2
        go_wp2_with fail
        go_ret
        exact ⟨by rw [HN.out]; rfl, HB2.out⟩
      · have hc : chrL (s.data.toList.drop i) = Lib.decodeL (s.data.toList.drop i) := by unfold chrL; rw [if_neg hb]
        rw [hc] at HC1
        rw [if_neg hb, List.drop_drop] at hst
        obtain ⟨C, hC⟩ : ∃ C, C = (Lib.decodeL (s.data.toList.drop i)).1 := ⟨_, rfl⟩
        obtain ⟨D, hD⟩ : ∃ D, D = (Lib.decodeL (s.data.toList.drop i)).2 := ⟨_, rfl⟩
        rw [← hC, ← hD] at HC1
        rw [← hD] at hst hw hle
        have HSt := Lib.hid hst
        have b0 : ((D : Int) == 0) = false := beq_no (by omega)
        clear hst hb hc hne hC hD
        go_wp2_with fail
        with_reducible refine HC1.out.mono ?_
        rintro e w2 ⟨rfl, hb2⟩
        have HB2 := Lib.hid (HB.out.trans (hb2.mono HB.out.size))
        clear hb2
        go_wp2_with fail
        go_roundg (s.size + 1 - (i + D))
        case measure => omega
        case rel => exact ⟨i + D, rfl, by omega, by go_num, by unfold Hid; rw [HS.out, HSt.out], HB2.out⟩
    · have HE : Hid (Lib.validD s.data.toList = true) := by unfold Hid; rw [HS.out, List.drop_eq_nil_of_le (by rw [len_toList]; omega)]; rfl
      go_wp2_with fail
      go_ret
      exact ⟨by rw [HE.out]; rfl, HB.out⟩

theorem bytes_one8 (s : ByteArray) (k : Nat) (h : k < s.size) : (s.extract k (k + 1)).data.toList = [s[k]] := by
  rw [extract_toList, drop_cons s k h, Nat.add_sub_cancel_left]
  rfl
theorem two_conv (w : World) (x y : Nat) (hx : x < 256) (hy : y < 256) : (convert 26 9 (.slice (some ⟨w.heap.size, 0, none⟩) 2 2)).run Tryd.prog (w.alloc (.cells #[.int .u8 (x : Int), .int .u8 (y : Int)] 5)).drew = .ok (.string ⟨#[byteN x, byteN y]⟩) (w.alloc (.cells #[.int .u8 (x : Int), .int .u8 (y : Int)] 5)).drew := by
  have e1 : byteV (byteN x) = .int .u8 (x : Int) := by unfold byteV; rw [byteN_toNat x hx]
  have e2 : byteV (byteN y) = .int .u8 (y : Int) := by unfold byteV; rw [byteN_toNat y hy]
  refine run_string_of_row (l := [byteN x, byteN y]) Tryd.underlying26 Tryd.underlying5 Tryd.underlying9 ⟨#[.int .u8 (x : Int), .int .u8 (y : Int)], 0, 0, heap_alloc_new w _, fun j _ h => by omega, ?_⟩ rfl
  simp [e1, e2]
theorem enc8_two {c : UInt8} {x y : Nat} (h : ¬ c.toNat < 128) (hx : x = 192 + c.toNat / 64) (hy : y = 128 + c.toNat % 64) : enc8 c = [byteN x, byteN y] := by
  subst hx hy
  unfold enc8
  rw [if_neg h]
theorem enc8_one {c : UInt8} (h : c.toNat < 128) : enc8 c = [c] := by unfold enc8; rw [if_pos h]
theorem textM_no {m : Nat} {l : List UInt8} {k : Nat} (hk : k < l.length) (h : m < (l[k]).toNat) : textM m l = none := by
  unfold textM
  rw [if_neg]
  intro ha
  have := List.all_eq_true.1 ha l[k] (List.getElem_mem hk)
  have := of_decide_eq_true this
  omega

end Go.Proofs.YtolkjaebhhbilaaDoor
