/- Statement WordsPlain: a text without the front of an encoded word stays as it is, also behind and ahead of words. -/
import Derived.Test.YtolkjaebhhbilaaDoorWdI
import Derived.Test.YtolkjaebhhbilaaDoorCsT
import Derived.Deep.DeepCutAuto
namespace Go.Proofs.YtolkjaebhhbilaaDoor
open Go Go.RowKit

/-! ### Plain -/
def keepP (c : UInt8) : Bool := c != 63 && c != 32 && c != 9
theorem keepP_no {l : List UInt8} : (63 : UInt8) ∉ l.filter keepP := by
  intro h
  have := (List.mem_filter.1 h).2
  revert this
  decide
theorem keepP_blk {l : List UInt8} : ∀ c ∈ l.filter keepP, blk c = false := by
  intro c hc
  have h := (List.mem_filter.1 hc).2
  unfold keepP at h
  simp at h
  exact blk_false (fun h2 => by
    rcases h2 with h2 | h2
    · exact h.1.2 (toNat_eq (by show c.toNat = 32; omega))
    · exact h.2 (toNat_eq (by show c.toNat = 9; omega)))
theorem encodeL_len2 (l : List UInt8) : (encodeL l).length ≤ 17 * l.length := by
  have := encA_len l.length l (Nat.le_refl _)
  unfold encodeL
  rw [List.length_drop]
  omega
theorem enc_front (t : List UInt8) : (encodeL t)[0]? ≠ some 63 := by
  by_cases h : t = []
  · subst h; simp [encodeL_nil]
  · rw [encodeL_step h]
    unfold pieceL openW
    simp
theorem plain1 {a : List UInt8} (h : (63 : UInt8) ∉ a) : decM none a = a := decM_id a h
theorem plain2 {a t : List UInt8} (h : (63 : UInt8) ∉ a) (hv : Lib.validD t = true) : decM none (a ++ [32] ++ encodeL t) = a ++ [32] ++ t := by
  rw [decM_stays (encodeL t) (enc_front t) (a ++ [32]) (by simp [h]), back_utf t hv]
theorem plain3 {a t : List UInt8} (h : (63 : UInt8) ∉ a) (hb : ∀ c ∈ a, blk c = false) (ht : t ≠ []) (hv : Lib.validD t = true) : decM none (encodeL t ++ [32] ++ a ++ [120]) = t ++ [32] ++ a ++ [120] := by
  have e : encodeL t ++ [32] ++ a ++ [120] = encodeL t ++ (32 :: (a ++ [120])) := by simp
  have hx : (63 : UInt8) ∉ a ++ [120] := by simp [h]
  rw [e, dec_enc _ t ht hv, decM_blank [] (ewL_one _ (by decide)) (by decide)]
  obtain ⟨c, r, hcr⟩ : ∃ c r, a ++ [120] = c :: r := by
    cases a with
    | nil => exact ⟨120, [], rfl⟩
    | cons c a => exact ⟨c, a ++ [120], rfl⟩
  rw [hcr] at hx ⊢
  have hc : blk c = false := by
    have hm : c ∈ a ++ [120] := by rw [hcr]; exact List.mem_cons_self
    rcases List.mem_append.1 hm with h1 | h1
    · exact hb c h1
    · rw [List.mem_singleton.1 h1]; decide
  have hr : (63 : UInt8) ∉ r := fun hm => hx (List.mem_cons_of_mem _ hm)
  have hw : ewL (c :: r) = none := ewL_second (by
    intro h2
    rw [List.getElem?_cons_succ] at h2
    exact hr (List.mem_of_getElem? h2))
  rw [decM_other _ hw hc, decM_id r hr]
  simp only [List.nil_append]
  rw [← hcr]
  simp

set_option maxRecDepth 100000 in
set_option maxHeartbeats 8000000 in
theorem wordsPlain_any (s t : ByteArray) (w : World) (_hs : s.size ≤ 9223372036854775807) (_ht : t.size ≤ 9223372036854775807) (hE : env w) :
    Calls Tryd.prog 4 #[.string s, .string t] w fun e w' => e = .returned (.bool true) ∧ Below w.heap.size w w' := by
  have HAw := Lib.hid (awake_any w hE)
  have HEn := Lib.hid hE
  clear hE
  by_cases h1 : 200 < s.size
  · have q2 : (200 : Int) < (s.size : Int) := by omega
    have q1 : decide ((200 : Int) < (s.size : Int)) = true := decide_eq_true q2
    go_enter Tryd.func4, Tryd.ntmps4
    go_wp2_with fail
    with_reducible refine HAw.out.mono ?_
    rintro e w1 ⟨rfl, hb1⟩
    go_wp2_with fail
    go_ret
    exact ⟨rfl, hb1⟩
  have q2 : ¬ (200 : Int) < (s.size : Int) := by omega
  have q1 : decide ((200 : Int) < (s.size : Int)) = false := decide_eq_false q2
  by_cases h2 : 200 < t.size
  · have q4 : (200 : Int) < (t.size : Int) := by omega
    have q3 : decide ((200 : Int) < (t.size : Int)) = true := decide_eq_true q4
    go_enter Tryd.func4, Tryd.ntmps4
    go_wp2_with fail
    with_reducible refine HAw.out.mono ?_
    rintro e w1 ⟨rfl, hb1⟩
    go_wp2_with fail
    go_ret
    exact ⟨rfl, hb1⟩
  have q4 : ¬ (200 : Int) < (t.size : Int) := by omega
  have q3 : decide ((200 : Int) < (t.size : Int)) = false := decide_eq_false q4
  have HVa := Lib.hid (fun W => refValid_any t W (by omega))
  have HEc := Lib.hid (fun W (hb : Below w.heap.size w W) => Encode_any t W (by omega) (HEn.out.below hb))
  have HDe := Lib.hid (fun (X : ByteArray) (hX : X.size ≤ 100000) W (hb : Below w.heap.size w W) => Decode_any X W hX (HEn.out.below hb))
  go_enter Tryd.func4, Tryd.ntmps4
  go_wp2_with fail
  with_reducible refine HAw.out.mono ?_
  rintro e w1 ⟨rfl, hb1⟩
  have HB1 := Lib.hid hb1
  clear hb1
  go_wp2_with fail
  go_loopg [6, 7] s.size (fun g v6 v7 wr => ∃ (k : Nat) (A : ByteArray), g = s.size - k ∧ k ≤ s.size ∧ v7 = .int .i64 (k : Int) ∧ v6 = .string A ∧ A.size ≤ k ∧ Hid (A.data.toList = (s.data.toList.take k).filter keepP) ∧ w1 = wr)
  case atStart => exact ⟨0, ⟨#[]⟩, rfl, Nat.zero_le _, rfl, rfl, Nat.le_refl _, rfl, rfl⟩
  case round =>
    obtain ⟨k, A, rfl, hk, rfl, rfl, hA, HA, rfl⟩ := hrel
    by_cases hlt : k < s.size
    · have HT := Lib.hid (take_snoc s k hlt)
      have hlti : (k : Int) < (s.size : Int) := by omega
      obtain ⟨c, hc⟩ : ∃ c, c = s[k] := ⟨_, rfl⟩
      have xc : s[k] = c := hc.symm
      rw [xc] at HT
      have hct := c.toNat_lt
      clear hc
      have skip : keepP c = false → Hid (A.data.toList = (s.data.toList.take (k + 1)).filter keepP) := fun h => by
        unfold Hid
        rw [HT.out, List.filter_append, HA.out]
        simp [h]
      have HSk := Lib.hid skip
      clear skip
      by_cases u1 : c.toNat = 63
      · have d1 : ((c.toNat : Int) == 63) = true := beq_yes (by omega)
        have d1' : ((c.toNat : Int) != 63) = false := bne_no (by omega)
        have HA2 := HSk.out (by rw [show c = 63 from toNat_eq u1]; decide)
        clear u1
        go_wp2_with fail
        go_roundg (s.size - (k + 1))
        case measure => omega
        case rel => exact ⟨k + 1, A, rfl, by omega, by go_num, rfl, by omega, HA2, rfl⟩
      have d1 : ((c.toNat : Int) == 63) = false := beq_no (by omega)
      have d1' : ((c.toNat : Int) != 63) = true := bne_yes (by omega)
      by_cases u2 : c.toNat = 32
      · have d2 : ((c.toNat : Int) == 32) = true := beq_yes (by omega)
        have d2' : ((c.toNat : Int) != 32) = false := bne_no (by omega)
        have HA2 := HSk.out (by rw [show c = 32 from toNat_eq u2]; decide)
        clear u1 u2
        go_wp2_with fail
        go_roundg (s.size - (k + 1))
        case measure => omega
        case rel => exact ⟨k + 1, A, rfl, by omega, by go_num, rfl, by omega, HA2, rfl⟩
      have d2 : ((c.toNat : Int) == 32) = false := beq_no (by omega)
      have d2' : ((c.toNat : Int) != 32) = true := bne_yes (by omega)
      by_cases u3 : c.toNat = 9
      · have d3 : ((c.toNat : Int) == 9) = true := beq_yes (by omega)
        have d3' : ((c.toNat : Int) != 9) = false := bne_no (by omega)
        have HA2 := HSk.out (by rw [show c = 9 from toNat_eq u3]; decide)
        clear u1 u2 u3
        go_wp2_with fail
        go_roundg (s.size - (k + 1))
        case measure => omega
        case rel => exact ⟨k + 1, A, rfl, by omega, by go_num, rfl, by omega, HA2, rfl⟩
      have d3 : ((c.toNat : Int) == 9) = false := beq_no (by omega)
      have d3' : ((c.toNat : Int) != 9) = true := bne_yes (by omega)
      have hkeep : keepP c = true := by
        unfold keepP
        simp only [Bool.and_eq_true, bne_iff_ne]
        exact ⟨⟨fun e => u1 (by rw [e]; rfl), fun e => u2 (by rw [e]; rfl)⟩, fun e => u3 (by rw [e]; rfl)⟩
      have hz := extract_size' s k (k + 1) (by omega)
      have hz1 : (s.extract k (k + 1)).size ≤ 1 := by omega
      have HA2 : Hid ((A ++ s.extract k (k + 1)).data.toList = (s.data.toList.take (k + 1)).filter keepP) := by
        unfold Hid
        rw [cat_toList, HT.out, List.filter_append, HA.out, extract_toList, drop_cons s k hlt, xc]
        simp [hkeep]
      have hz2 : (A ++ s.extract k (k + 1)).size ≤ k + 1 := by rw [ByteArray.size_append]; omega
      clear u1 u2 u3 hkeep hz
      go_wp2_with fail
      go_roundg (s.size - (k + 1))
      case measure => omega
      case rel => exact ⟨k + 1, _, rfl, by omega, by go_num, rfl, hz2, HA2, rfl⟩
    · have hkn : ¬ (k : Int) < (s.size : Int) := by omega
      have HAl : Hid (A.data.toList = s.data.toList.filter keepP) := by
        unfold Hid
        rw [HA.out, List.take_of_length_le (by simp; omega)]
      have hA2 : A.size ≤ 200 := by omega
      have hnoq : (63 : UInt8) ∉ A.data.toList := by rw [HAl.out]; exact keepP_no
      have hnob : ∀ c ∈ A.data.toList, blk c = false := by rw [HAl.out]; exact keepP_blk
      have HD0 := Lib.hid (HDe.out A (by omega))
      rw [plain1 hnoq] at HD0
      obtain ⟨D0, hD0⟩ : ∃ D0 : ByteArray, D0 = ⟨A.data.toList.toArray⟩ := ⟨_, rfl⟩
      have r0 : (D0.toList == A.toList) = true := str_eq (by rw [hD0])
      rw [← hD0] at HD0
      clear hD0
      cases hv : Lib.validD t.data.toList with
      | false =>
        rw [hv] at HVa
        clear hv hnoq hnob
        go_wp2_with fail
        with_reducible refine (HVa.out _).mono ?_
        rintro e w2 ⟨rfl, hb2⟩
        have HB2 := Lib.hid (HB1.out.trans (hb2.mono HB1.out.size))
        clear hb2
        go_wp2_with fail
        with_reducible refine (HD0.out _ HB2.out).mono ?_
        rintro e w3 ⟨rfl, hb3⟩
        have HB3 := Lib.hid (HB2.out.trans (hb3.mono HB2.out.size))
        clear hb3
        go_wp2_with fail
        go_ret
        exact ⟨rfl, HB3.out⟩
      | true =>
        rw [hv] at HVa
        by_cases ht0 : t.size = 0
        · have hte : (t.toList == []) = true := by rw [beq_iff_eq, toList_nil_iff]; exact ht0
          have hte2 : t.toList.isEmpty = true := by rw [List.isEmpty_iff, toList_nil_iff]; exact ht0
          clear hv hnoq hnob
          go_wp2_with fail
          with_reducible refine (HVa.out _).mono ?_
          rintro e w2 ⟨rfl, hb2⟩
          have HB2 := Lib.hid (HB1.out.trans (hb2.mono HB1.out.size))
          clear hb2
          go_wp2_with fail
          with_reducible refine (HD0.out _ HB2.out).mono ?_
          rintro e w3 ⟨rfl, hb3⟩
          have HB3 := Lib.hid (HB2.out.trans (hb3.mono HB2.out.size))
          clear hb3
          go_wp2_with fail
          go_ret
          exact ⟨rfl, HB3.out⟩
        · have hte : (t.toList == []) = false := by rw [beq_eq_false_iff_ne]; intro e; rw [toList_nil_iff] at e; omega
          have hte2 : t.toList.isEmpty = false := by rw [← Bool.not_eq_true, List.isEmpty_iff]; intro e; rw [toList_nil_iff] at e; omega
          have htn : t.data.toList ≠ [] := by
            intro e
            apply ht0
            rw [← len_toList, e]
            rfl
          obtain ⟨E, hE⟩ : ∃ E : ByteArray, E = ⟨(encodeL t.data.toList).toArray⟩ := ⟨_, rfl⟩
          have hEl : E.data.toList = encodeL t.data.toList := by rw [hE]
          have hEz : E.size ≤ 3400 := by
            have := encodeL_len2 t.data.toList
            rw [bytes_len, hEl]
            rw [len_toList] at this
            omega
          rw [← hE] at HEc
          have HD1 := Lib.hid (HDe.out (A ++ ⟨#[32]⟩ ++ E) (by rw [ByteArray.size_append, ByteArray.size_append]; show A.size + 1 + E.size ≤ _; omega))
          have HD2 := Lib.hid (HDe.out (E ++ ⟨#[32]⟩ ++ A ++ ⟨#[120]⟩) (by rw [ByteArray.size_append, ByteArray.size_append, ByteArray.size_append]; show E.size + 1 + A.size + 1 ≤ _; omega))
          have e1 : decM none (A ++ ⟨#[32]⟩ ++ E).data.toList = (A ++ ⟨#[32]⟩ ++ t).data.toList := by
            rw [cat_toList, cat_toList, cat_toList, cat_toList, hEl]
            exact plain2 hnoq hv
          have e2 : decM none (E ++ ⟨#[32]⟩ ++ A ++ ⟨#[120]⟩).data.toList = (t ++ ⟨#[32]⟩ ++ A ++ ⟨#[120]⟩).data.toList := by
            rw [cat_toList, cat_toList, cat_toList, cat_toList, cat_toList, cat_toList, hEl]
            exact plain3 hnoq hnob htn hv
          rw [e1] at HD1
          rw [e2] at HD2
          obtain ⟨D1, hD1⟩ : ∃ D1 : ByteArray, D1 = ⟨(A ++ ⟨#[32]⟩ ++ t).data.toList.toArray⟩ := ⟨_, rfl⟩
          obtain ⟨D2, hD2⟩ : ∃ D2 : ByteArray, D2 = ⟨(t ++ ⟨#[32]⟩ ++ A ++ ⟨#[120]⟩).data.toList.toArray⟩ := ⟨_, rfl⟩
          have r1 : (D1.toList == (A ++ ⟨#[32]⟩ ++ t).toList) = true := str_eq (by rw [hD1])
          have r2 : (D2.toList == (t ++ ⟨#[32]⟩ ++ A ++ ⟨#[120]⟩).toList) = true := str_eq (by rw [hD2])
          rw [← hD1] at HD1
          rw [← hD2] at HD2
          clear hv hnoq hnob hE hEl e1 e2 hD1 hD2 htn ht0
          go_wp2_with fail
          with_reducible refine (HVa.out _).mono ?_
          rintro e w2 ⟨rfl, hb2⟩
          have HB2 := Lib.hid (HB1.out.trans (hb2.mono HB1.out.size))
          clear hb2
          go_wp2_with fail
          with_reducible refine (HD0.out _ HB2.out).mono ?_
          rintro e w3 ⟨rfl, hb3⟩
          have HB3 := Lib.hid (HB2.out.trans (hb3.mono HB2.out.size))
          clear hb3
          go_wp2_with fail
          with_reducible refine (HEc.out _ HB3.out).mono ?_
          rintro e w4 ⟨rfl, hb4⟩
          have HB4 := Lib.hid (HB3.out.trans (hb4.mono HB3.out.size))
          clear hb4
          go_wp2_with fail
          with_reducible refine (HD1.out _ HB4.out).mono ?_
          rintro e w5 ⟨rfl, hb5⟩
          have HB5 := Lib.hid (HB4.out.trans (hb5.mono HB4.out.size))
          clear hb5
          go_wp2_with fail
          with_reducible refine (HEc.out _ HB5.out).mono ?_
          rintro e w6 ⟨rfl, hb6⟩
          have HB6 := Lib.hid (HB5.out.trans (hb6.mono HB5.out.size))
          clear hb6
          go_wp2_with fail
          with_reducible refine (HD2.out _ HB6.out).mono ?_
          rintro e w7 ⟨rfl, hb7⟩
          have HB7 := Lib.hid (HB6.out.trans (hb7.mono HB6.out.size))
          clear hb7
          go_wp2_with fail
          go_ret
          exact ⟨rfl, HB7.out⟩
end Go.Proofs.YtolkjaebhhbilaaDoor
