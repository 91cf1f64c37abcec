/- Contracts of the document's layer 8: whether a text is UTF-8, texts, bytes. -/
import Derived.Test.YtolkjaebhhbilaaGreatDoorCsR
import Derived.Test.YtolkjaebhhbilaaGreatDoorQB
import Derived.Deep.RegionWith
namespace Go.Proofs.YtolkjaebhhbilaaGreatDoor
open Go Go.RowKit

def errV : Option (List UInt8) → Value
  | some t => .tuple #[.string ⟨t.toArray⟩, .int .i64 0]
  | none => .tuple #[.string ⟨#[]⟩, .int .i64 21]
theorem drop_ne {s : ByteArray} {i : Nat} (h : i < s.size) : s.data.toList.drop i ≠ [] := by
  intro e
  have := congrArg List.length e
  rw [List.length_drop, len_toList] at this
  simp at this
  omega
theorem str_is (s : ByteArray) {l : List UInt8} (h : s.data.toList = l) : Value.string s = .string ⟨l.toArray⟩ := by
  subst h
  rfl
set_option maxRecDepth 100000 in
set_option maxHeartbeats 2000000 in
theorem refValid_any (s : ByteArray) (w : World) (hl : s.size ≤ 1000000) :
    Calls Tryz.prog 34 #[.string s] w fun e w' => e = .returned (.bool (Lib.validD s.data.toList)) ∧ Below w.heap.size w w' := by
  have HC := Lib.hid (fun i W h => refChar_any s i W hl h)
  go_enter Tryz.func34, Tryz.ntmps34
  go_wp2_with fail
  go_loopg [3] (s.size + 1) (fun g v3 wr => ∃ i : Nat, g = s.size + 1 - i ∧ i ≤ s.size ∧ v3 = .int .i64 (i : Int) ∧ Hid (Lib.validD s.data.toList = Lib.validD (s.data.toList.drop i)) ∧ Hid (Below w.heap.size w wr))
  case atStart => exact ⟨0, by omega, by omega, rfl, by unfold Hid; rw [List.drop_zero], Below.refl _ _⟩
  case round =>
    obtain ⟨i, rfl, hi, rfl, HS, HB⟩ := hrel
    by_cases hlt : i < s.size
    · have hii : (i : Int) < (s.size : Int) := by omega
      have HC1 := Lib.hid (HC.out i wr hlt)
      have hne := drop_ne hlt
      have hst := Lib.validD_step _ hne
      have hw := Lib.decodeL_width (s.data.toList.drop i)
      have hle := Lib.decodeL_le _ hne
      rw [List.length_drop, len_toList] at hle
      by_cases hb : (Lib.decodeL (s.data.toList.drop i)).1 = 65533 ∧ (Lib.decodeL (s.data.toList.drop i)).2 = 1
      · have hc : chrL (s.data.toList.drop i) = (0, 0) := by unfold chrL; rw [if_pos hb]
        rw [hc] at HC1
        have HN : Hid (Lib.validD s.data.toList = false) := by unfold Hid; rw [HS.out, hst, if_pos hb]
        clear hst hw hle hb hc hne
        go_wp2_with fail
        with_reducible refine HC1.out.mono ?_
        rintro e w2 ⟨rfl, hb2⟩
        have HB2 := Lib.hid (HB.out.trans (hb2.mono HB.out.size))
        clear hb2
        go_wp2_with fail
        go_ret
        exact ⟨by rw [HN.out]; rfl, HB2.out⟩
      · have hc : chrL (s.data.toList.drop i) = Lib.decodeL (s.data.toList.drop i) := by unfold chrL; rw [if_neg hb]
        rw [hc] at HC1
        rw [if_neg hb, List.drop_drop] at hst
        obtain ⟨C, hC⟩ : ∃ C, C = (Lib.decodeL (s.data.toList.drop i)).1 := ⟨_, rfl⟩
        obtain ⟨D, hD⟩ : ∃ D, D = (Lib.decodeL (s.data.toList.drop i)).2 := ⟨_, rfl⟩
        rw [← hC, ← hD] at HC1
        rw [← hD] at hst hw hle
        have HSt := Lib.hid hst
        have b0 : ((D : Int) == 0) = false := beq_no (by omega)
        clear hst hb hc hne hC hD
        go_wp2_with fail
        with_reducible refine HC1.out.mono ?_
        rintro e w2 ⟨rfl, hb2⟩
        have HB2 := Lib.hid (HB.out.trans (hb2.mono HB.out.size))
        clear hb2
        go_wp2_with fail
        go_roundg (s.size + 1 - (i + D))
        case measure => omega
        case rel => exact ⟨i + D, rfl, by omega, by go_num, by unfold Hid; rw [HS.out, HSt.out], HB2.out⟩
    · have HE : Hid (Lib.validD s.data.toList = true) := by unfold Hid; rw [HS.out, List.drop_eq_nil_of_le (by rw [len_toList]; omega)]; rfl
      go_wp2_with fail
      go_ret
      exact ⟨by rw [HE.out]; rfl, HB.out⟩

theorem bytes_one8 (s : ByteArray) (k : Nat) (h : k < s.size) : (s.extract k (k + 1)).data.toList = [s[k]] := by
  rw [extract_toList, drop_cons s k h, Nat.add_sub_cancel_left]
  rfl
theorem two_conv (w : World) (x y : Nat) (hx : x < 256) (hy : y < 256) : (convert 28 9 (.slice (some ⟨w.heap.size, 0, none⟩) 2 2)).run Tryz.prog (w.alloc (.cells #[.int .u8 (x : Int), .int .u8 (y : Int)] 5)).drew = .ok (.string ⟨#[byteN x, byteN y]⟩) (w.alloc (.cells #[.int .u8 (x : Int), .int .u8 (y : Int)] 5)).drew := by
  have e1 : byteV (byteN x) = .int .u8 (x : Int) := by unfold byteV; rw [byteN_toNat x hx]
  have e2 : byteV (byteN y) = .int .u8 (y : Int) := by unfold byteV; rw [byteN_toNat y hy]
  refine run_string_of_row (l := [byteN x, byteN y]) Tryz.underlying28 Tryz.underlying5 Tryz.underlying9 ⟨#[.int .u8 (x : Int), .int .u8 (y : Int)], 0, 0, heap_alloc_new w _, fun j _ h => by omega, ?_⟩ rfl
  simp [e1, e2]
theorem enc8_two {c : UInt8} {x y : Nat} (h : ¬ c.toNat < 128) (hx : x = 192 + c.toNat / 64) (hy : y = 128 + c.toNat % 64) : enc8 c = [byteN x, byteN y] := by
  subst hx hy
  unfold enc8
  rw [if_neg h]
theorem enc8_one {c : UInt8} (h : c.toNat < 128) : enc8 c = [c] := by unfold enc8; rw [if_pos h]
theorem textM_no {m : Nat} {l : List UInt8} {k : Nat} (hk : k < l.length) (h : m < (l[k]).toNat) : textM m l = none := by
  unfold textM
  rw [if_neg]
  intro ha
  have := List.all_eq_true.1 ha l[k] (List.getElem_mem hk)
  have := of_decide_eq_true this
  omega

set_option maxRecDepth 100000 in
set_option maxHeartbeats 4000000 in
theorem refText_any (nm s : ByteArray) (w : World) (hn : nm.size ≤ 1000000) (hl : s.size ≤ 1000000) :
    Calls Tryz.prog 16 #[.string nm, .string s] w fun e w' => e = .returned (errV (textK (kindL nm.data.toList) s.data.toList)) ∧ Below w.heap.size w w' := by
  have HK := Lib.hid (fun W => refKind_any nm W hn)
  have HVa := Lib.hid (fun W => refValid_any s W hl)
  have hk4 : kindL nm.data.toList < 4 := kindF_lt _
  obtain ⟨k, hk⟩ : ∃ k, k = kindL nm.data.toList := ⟨_, rfl⟩
  rw [← hk] at HK hk4 ⊢
  clear hk
  by_cases k0 : k = 0
  · subst k0
    go_enter Tryz.func16, Tryz.ntmps16
    go_wp2_with fail
    with_reducible refine (HK.out _).mono ?_
    rintro e w1 ⟨rfl, hb1⟩
    go_wp2_with fail
    go_ret2
    exact ⟨rfl, hb1⟩
  by_cases k3 : k = 3
  · subst k3
    cases hv : Lib.validD s.data.toList with
    | true =>
      rw [hv] at HVa
      have HR : Hid (textK 3 s.data.toList = some s.data.toList) := by unfold Hid textK; rw [if_neg (by decide), if_pos rfl, if_pos hv]
      clear hv
      go_enter Tryz.func16, Tryz.ntmps16
      go_wp2_with fail
      with_reducible refine (HK.out _).mono ?_
      rintro e w1 ⟨rfl, hb1⟩
      have HB1 := Lib.hid hb1
      clear hb1
      go_wp2_with fail
      with_reducible refine (HVa.out _).mono ?_
      rintro e w2 ⟨rfl, hb2⟩
      have HB2 := Lib.hid (HB1.out.trans (hb2.mono HB1.out.size))
      clear hb2
      go_wp2_with fail
      go_ret2
      exact ⟨by rw [HR.out]; rfl, HB2.out⟩
    | false =>
      rw [hv] at HVa
      have HR : Hid (textK 3 s.data.toList = none) := by unfold Hid textK; rw [if_neg (by decide), if_pos rfl, if_neg (by rw [hv]; decide)]
      clear hv
      go_enter Tryz.func16, Tryz.ntmps16
      go_wp2_with fail
      with_reducible refine (HK.out _).mono ?_
      rintro e w1 ⟨rfl, hb1⟩
      have HB1 := Lib.hid hb1
      clear hb1
      go_wp2_with fail
      with_reducible refine (HVa.out _).mono ?_
      rintro e w2 ⟨rfl, hb2⟩
      have HB2 := Lib.hid (HB1.out.trans (hb2.mono HB1.out.size))
      clear hb2
      go_wp2_with fail
      go_ret2
      exact ⟨by rw [HR.out]; rfl, HB2.out⟩
  have HR : Hid (textK k s.data.toList = textM (mostN k) s.data.toList) := by unfold Hid textK; rw [if_neg k0, if_neg k3]
  have HMo : Hid (mostN k = if k = 1 then 127 else 255) := rfl
  have bk0 : ((k : Int) == 0) = false := beq_no (by omega)
  have bk3 : ((k : Int) == 3) = false := beq_no (by omega)
  go_enter Tryz.func16, Tryz.ntmps16
  go_wp2_with fail
  with_reducible refine (HK.out _).mono ?_
  rintro e w1 ⟨rfl, hb1⟩
  have HB1 := Lib.hid hb1
  clear hb1
  go_wp2_with fail
  go_loopg [8, 9] s.size (fun g v8 v9 wr => ∃ (i : Nat) (T : ByteArray), g = s.size - i ∧ i ≤ s.size ∧ v9 = .int .i64 (i : Int) ∧ v8 = .string T ∧ T.size ≤ 2 * i ∧ Hid (T.data.toList = (s.data.toList.take i).flatMap enc8) ∧ Hid ((s.data.toList.take i).all (fun c => decide (c.toNat ≤ mostN k)) = true) ∧ Hid (Below w.heap.size w wr))
  case atStart => exact ⟨0, ⟨#[]⟩, by omega, by omega, rfl, rfl, by decide, rfl, rfl, HB1.out⟩
  case round =>
    obtain ⟨i, T, rfl, hi, rfl, rfl, hT, HT, HA, HB⟩ := hrel
    by_cases hlt : i < s.size
    · have hll : i < s.data.toList.length := by rw [len_toList]; exact hlt
      have HTk := Lib.hid (take_snocL s.data.toList i hll)
      have hsl : s.data.toList[i] = s[i] := rfl
      rw [hsl] at HTk
      have HNo := Lib.hid (fun h => textM_no (m := mostN k) hll h)
      rw [hsl] at HNo
      obtain ⟨c, hc⟩ : ∃ c, c = s[i] := ⟨_, rfl⟩
      have hex := bytes_one8 s i hlt
      rw [← hc] at HTk HNo hex
      have hci := hc.symm
      have hct := c.toNat_lt
      obtain ⟨E, hE⟩ : ∃ E : ByteArray, E = s.extract i (i + 1) := ⟨_, rfl⟩
      rw [← hE] at hex
      have HE : Hid (s.extract i (i + 1) = E) := hE.symm
      have hEs : E.size = 1 := by rw [← len_toList, hex]; rfl
      have HEx := Lib.hid hex
      clear hc hsl hE hex
      have hstep : ∀ (U : ByteArray), U.data.toList = T.data.toList ++ enc8 c → c.toNat ≤ mostN k → U.data.toList = (s.data.toList.take (i + 1)).flatMap enc8 ∧ (s.data.toList.take (i + 1)).all (fun c => decide (c.toNat ≤ mostN k)) = true := by
        intro U hU hm
        rw [HTk.out]
        refine ⟨by rw [hU, HT.out, List.flatMap_append]; simp, ?_⟩
        rw [List.all_append, HA.out]
        simp
        exact hm
      have HStep := Lib.hid hstep
      clear hstep
      by_cases h128 : c.toNat < 128
      · have h128i : (c.toNat : Int) < 128 := by omega
        have hcm : c.toNat ≤ mostN k := by rw [HMo.out]; split <;> omega
        go_wp2_with fail
        rw [HE.out]
        go_roundg (s.size - (i + 1))
        case measure => omega
        case rel =>
          obtain ⟨z1, z2⟩ := HStep.out (T ++ E) (by rw [cat_toList, HEx.out, enc8_one h128]) hcm
          exact ⟨i + 1, T ++ E, rfl, by omega, by go_num, rfl, by rw [ByteArray.size_append]; omega, z1, z2, HB.out⟩
      · have h128i : ¬ (c.toNat : Int) < 128 := by omega
        by_cases k2 : k = 2
        · subst k2
          have hcm : c.toNat ≤ mostN 2 := by rw [HMo.out, if_neg (by omega)]; omega
          obtain ⟨x, hx⟩ : ∃ x, x = 192 + c.toNat / 64 := ⟨_, rfl⟩
          obtain ⟨y, hy⟩ : ∃ y, y = 128 + c.toNat % 64 := ⟨_, rfl⟩
          have HEnc := Lib.hid (enc8_two h128 hx hy)
          have ex0 : (c.toNat : Int) / 64 = ((x - 192 : Nat) : Int) := by omega
          have ex1 : (c.toNat : Int).tdiv 64 = ((x - 192 : Nat) : Int) := by rw [Int.tdiv_eq_ediv_of_nonneg (by omega)]; exact ex0
          have ey0 : (c.toNat : Int) % 64 = ((y - 128 : Nat) : Int) := by omega
          have ey1 : (c.toNat : Int).tmod 64 = ((y - 128 : Nat) : Int) := by rw [Int.tmod_eq_emod_of_nonneg (by omega)]; exact ey0
          have hx4 : x - 192 < 4 := by omega
          have hy64 : y - 128 < 64 := by omega
          obtain ⟨p, hp⟩ : ∃ p, p = x - 192 := ⟨_, rfl⟩
          obtain ⟨q, hq⟩ : ∃ q, q = y - 128 := ⟨_, rfl⟩
          rw [← hp] at ex0 ex1 hx4
          rw [← hq] at ey0 ey1 hy64
          have exs : (192 : Int) + (p : Int) = (x : Int) := by omega
          have eys : (128 : Int) + (q : Int) = (y : Int) := by omega
          have w1 : IntKind.u8.wrap (p : Int) = (p : Int) := wraps_u8 _ (by omega) (by omega)
          have w2 : IntKind.u8.wrap (q : Int) = (q : Int) := wraps_u8 _ (by omega) (by omega)
          have w3 : IntKind.u8.wrap (x : Int) = (x : Int) := wraps_u8 _ (by omega) (by omega)
          have w4 : IntKind.u8.wrap (y : Int) = (y : Int) := wraps_u8 _ (by omega) (by omega)
          have hcv := two_conv wr x y (by omega) (by omega)
          have hii : (i : Int) < (s.size : Int) := by omega
          have htl : (T ++ ⟨#[byteN x, byteN y]⟩ : ByteArray).size ≤ 2 * i + 2 := by rw [ByteArray.size_append]; exact Nat.add_le_add hT (Nat.le_refl 2)
          clear hx hy hp hq
          go_wp2_with fail
          go_region_with (fail)
          all_goals
            go_wp2
            go_roundg (s.size - (i + 1))
            case measure => omega
            case rel =>
              obtain ⟨z1, z2⟩ := HStep.out (T ++ (⟨#[byteN x, byteN y]⟩ : ByteArray)) (by rw [cat_toList, HEnc.out]) hcm
              exact ⟨i + 1, T ++ (⟨#[byteN x, byteN y]⟩ : ByteArray), rfl, by omega, by go_num, rfl, by omega, z1, z2, (HB.out.alloc HB.out.size _).drew⟩
        · have bk2 : ((k : Int) == 2) = false := beq_no (by omega)
          have HN := Lib.hid (HNo.out (by rw [HMo.out, if_pos (by omega)]; omega))
          go_wp2_with fail
          go_ret2
          exact ⟨by rw [HR.out, HN.out]; rfl, HB.out⟩
    · have hk2 : s.data.toList.take i = s.data.toList := List.take_of_length_le (by rw [len_toList]; omega)
      rw [hk2] at HT HA
      have HE : Hid (textM (mostN k) s.data.toList = some T.data.toList) := by unfold Hid textM; rw [if_pos HA.out, HT.out]
      go_wp2_with fail
      go_ret2
      exact ⟨by rw [HR.out, HE.out]; rfl, HB.out⟩

end Go.Proofs.YtolkjaebhhbilaaGreatDoor
