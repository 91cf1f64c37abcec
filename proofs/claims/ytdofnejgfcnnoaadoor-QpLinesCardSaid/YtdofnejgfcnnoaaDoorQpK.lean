/- The laws of layer 3 (quoted-printable): QpBroken. -/
import Derived.Test.YtdofnejgfcnnoaaDoorQpJ
import Derived.Laws.AppendOwnNone
import Derived.Deep.DeepCutAuto
import Derived.Deep.CutBlock
namespace Go.Proofs.YtdofnejgfcnnoaaDoor
open Go Go.RowKit

theorem okB_iff (c : UInt8) : okB c = true ↔ c = 9 ∨ (32 ≤ c.toNat ∧ c.toNat < 127) := by
  have hc := c.toNat_lt
  unfold okB isBl
  rw [Bool.or_eq_true, Bool.or_eq_true, seenB_iff, beq_iff_eq, beq_iff_eq]
  constructor
  · rintro (h | rfl | rfl)
    · exact .inr (by omega)
    · exact .inr (by decide)
    · exact .inl rfl
  · rintro (rfl | h)
    · exact .inr (.inr rfl)
    · by_cases h32 : c = 32
      · exact .inr (.inl h32)
      · have : c.toNat ≠ 32 := fun e => h32 (toNat_eq (by show c.toNat = 32; omega))
        exact .inl (by omega)
theorem xb_last (b : List UInt8) : ∀ x, (120 :: encQ b).getLast? = some x → isBl x = false ∧ x ≠ 61 := by
  intro x hx
  have hm := List.mem_of_getLast? hx
  have hs : seenB x = true := by
    rcases List.mem_cons.1 hm with rfl | h
    · decide
    · exact encQ_seen b x h
  refine ⟨seen_noblank hs, ?_⟩
  rintro rfl
  by_cases h : encQ b = []
  · rw [h] at hx
    simp at hx
  · rw [List.getLast?_cons_of_ne_nil h] at hx
    exact encQ_last b hx
theorem xb_no10 (b : List UInt8) : ∀ x ∈ 120 :: encQ b, x ≠ 10 := by
  intro x hx
  rcases List.mem_cons.1 hx with rfl | h
  · decide
  · exact seen_no10 (encQ_seen b x h)
theorem textS_xb (b : List UInt8) : textS (120 :: encQ b) = some (120 :: b) := by
  rw [textS_seen 120 _ (by decide) (by decide)]
  have := textS_encQ b []
  rw [List.append_nil] at this
  rw [this]
  simp [textS]
/-- Whether a text with this byte in its midst is whole. -/
theorem broken_lf (a b : List UInt8) : (decQ (encQ a ++ 10 :: 120 :: encQ b)).isSome = true := by
  have ht := textS_encQ a []
  rw [List.append_nil] at ht
  have h := ahead_line (p := encQ a) (bl := []) false (encQ_seen a) (by simp) (encQ_last a) (v := a) (by rw [ht]; simp [textS]) (120 :: encQ b)
  have e : encQ a ++ [] ++ ((if false = true then [13] else []) ++ [10]) ++ 120 :: encQ b = encQ a ++ 10 :: 120 :: encQ b := by simp
  rw [e] at h
  rw [h, decQ_last (by simp) (xb_no10 b) (xb_last b), textS_xb]
  rfl
theorem broken_other (a b : List UInt8) (c : UInt8) (h : c ≠ 10) : (decQ (encQ a ++ c :: 120 :: encQ b)).isSome = if c = 61 then false else okB c := by
  rw [decQ_last (by simp) ?_ ?_]
  · rw [textS_encQ, Option.isSome_map]
    by_cases h61 : c = 61
    · rw [if_pos h61, h61]
      cases hb : encQ b with
      | nil => rfl
      | cons y r => rw [textS_nohex 120 y r (by rw [show hexV 120 = 16 by decide]; omega)]; rfl
    · rw [if_neg h61]
      cases hk : okB c
      · rw [textS_bad c _ hk h61]; rfl
      · rw [textS_seen c _ hk h61, textS_xb]; rfl
  · intro x hx
    rcases List.mem_append.1 hx with hx | hx
    · exact seen_no10 (encQ_seen a x hx)
    · rcases List.mem_cons.1 hx with rfl | hx
      · exact h
      · exact xb_no10 b x hx
  · intro x hx
    apply xb_last b
    rw [List.getLast?_append] at hx
    rw [List.getLast?_cons_of_ne_nil (by simp)] at hx
    cases hb : (120 :: encQ b).getLast? with
    | none => simp at hb
    | some y => rw [hb] at hx; simpa using hx
/-- A row of bytes that the call owns, to be appended. -/
theorem owned_src {w : World} {base : Nat} {e : TypeId} {u : Value} {l : List UInt8} (h : w.ownsRow base e 1 u l.length (l.map byteV)) :
    (u = .slice none 0 0 ∧ l = []) ∨ ∃ g cap, u = .slice (some ⟨g, 0, none⟩) l.length cap ∧ Hid (∀ j q, (l.map byteV)[j]? = some q → w.cell? ((⟨g, 0, none⟩ : Addr).add j) = some q) := by
  rcases h.2 with ⟨rfl, hn⟩ | ⟨g, cap, cur, rfl, _⟩
  · exact .inl ⟨rfl, List.eq_nil_of_length_eq_zero hn⟩
  · refine .inr ⟨g, cap, rfl, fun j q hq => ?_⟩
    rw [Addr.add_lit, Nat.zero_add]
    obtain ⟨hj, rfl⟩ := List.getElem?_eq_some_iff.1 hq
    exact (rowAt_owned h).cell j hj

theorem broken_cases (a b : List UInt8) (c : UInt8) :
    (((c.toNat : Int) == 61) = true ∧ Hid ((decQ (encQ a ++ c :: 120 :: encQ b)).isSome = false)) ∨
    (((c.toNat : Int) == 61) = false ∧ ((c.toNat : Int) == 9) = true ∧ Hid ((decQ (encQ a ++ c :: 120 :: encQ b)).isSome = true)) ∨
    (((c.toNat : Int) == 61) = false ∧ ((c.toNat : Int) == 9) = false ∧ ((c.toNat : Int) == 10) = true ∧ Hid ((decQ (encQ a ++ c :: 120 :: encQ b)).isSome = true)) ∨
    (((c.toNat : Int) == 61) = false ∧ ((c.toNat : Int) == 9) = false ∧ ((c.toNat : Int) == 10) = false ∧ 32 ≤ c.toNat ∧ decide ((c.toNat : Int) < 127) = true ∧ Hid ((decQ (encQ a ++ c :: 120 :: encQ b)).isSome = true)) ∨
    (((c.toNat : Int) == 61) = false ∧ ((c.toNat : Int) == 9) = false ∧ ((c.toNat : Int) == 10) = false ∧ c.toNat < 32 ∧ Hid ((decQ (encQ a ++ c :: 120 :: encQ b)).isSome = false)) ∨
    (((c.toNat : Int) == 61) = false ∧ ((c.toNat : Int) == 9) = false ∧ ((c.toNat : Int) == 10) = false ∧ 32 ≤ c.toNat ∧ decide ((c.toNat : Int) < 127) = false ∧ Hid ((decQ (encQ a ++ c :: 120 :: encQ b)).isSome = false)) := by
  by_cases h61 : c = 61
  · exact .inl ⟨by rw [h61]; rfl, by unfold Hid; rw [broken_other a b c (by rw [h61]; decide), if_pos h61]⟩
  have t61 := eq61_no h61
  by_cases h9 : c = 9
  · exact .inr (.inl ⟨t61, by rw [h9]; rfl, by unfold Hid; rw [broken_other a b c (by rw [h9]; decide), if_neg h61, h9]; rfl⟩)
  have t9 : ((c.toNat : Int) == 9) = false := beq_no fun e => h9 (toNat_eq (by show c.toNat = 9; omega))
  by_cases h10 : c = 10
  · exact .inr (.inr (.inl ⟨t61, t9, by rw [h10]; rfl, by unfold Hid; rw [h10]; exact broken_lf a b⟩))
  have t10 : ((c.toNat : Int) == 10) = false := beq_no fun e => h10 (toNat_eq (by show c.toNat = 10; omega))
  have hb := broken_other a b c h10
  rw [if_neg h61] at hb
  by_cases h32 : 32 ≤ c.toNat
  · by_cases h127 : c.toNat < 127
    · exact .inr (.inr (.inr (.inl ⟨t61, t9, t10, h32, by simp; omega, hb.trans ((okB_iff c).2 (.inr ⟨h32, h127⟩))⟩)))
    · refine .inr (.inr (.inr (.inr (.inr ⟨t61, t9, t10, h32, by simp; omega, hb.trans ?_⟩))))
      rw [← Bool.not_eq_true, okB_iff]
      rintro (h | h)
      · exact h9 h
      · omega
  · refine .inr (.inr (.inr (.inr (.inl ⟨t61, t9, t10, by omega, hb.trans ?_⟩))))
    rw [← Bool.not_eq_true, okB_iff]
    rintro (h | h)
    · exact h9 h
    · omega

set_option maxRecDepth 100000 in
set_option maxHeartbeats 4000000 in
theorem qpBroken_any (va : Value) (a : List UInt8) (vb : Value) (b : List UInt8) (c : UInt8) (w : World) (hva : bytesArg w va a) (hvb : bytesArg w vb b) :
    Calls Tryd.prog 6 #[va, vb, .int .u8 (c.toNat : Int)] w fun e w' => e = .returned (.bool true) ∧ Below w.heap.size w w' := by
  obtain ⟨i0, hi, hz0, hz1, hz2⟩ := info_parts Tryd.infoB
  obtain ⟨ao, cap, rfl, hc, hm, hs⟩ := hva
  obtain ⟨bo, bap, rfl, hbc, hbm, hbs⟩ := hvb
  have HA : Hid (bytesArg w (.slice ao a.length cap) a) := ⟨ao, cap, rfl, hc, hm, hs⟩
  have HBB : Hid (bytesArg w (.slice bo b.length bap) b) := ⟨bo, bap, rfl, hbc, hbm, hbs⟩
  clear hs hbs
  have hct := c.toNat_lt
  have hl : 60 < a.length ∨ (a.length ≤ 60 ∧ 60 < b.length) ∨ (a.length ≤ 60 ∧ b.length ≤ 60) := by omega
  rcases hl with hl | ⟨hl, hl2⟩ | ⟨hl, hl2⟩
  iterate 2
    · go_enter Tryd.func6, Tryd.ntmps6
      go_wp2_with fail
      refine (awake_any _).mono ?_
      rintro e w1 ⟨rfl, hb1⟩
      have HB1 := Lib.hid hb1; clear hb1
      go_wp2
      go_ret
      exact ⟨rfl, HB1.out⟩
  · have hla := encQ_len a
    have hlb := encQ_len b
    go_enter Tryd.func6, Tryd.ntmps6
    go_wp2_with fail
    refine (awake_any _).mono ?_
    rintro e w1 ⟨rfl, hb1⟩
    have HB1 := Lib.hid hb1; clear hb1
    go_upto_region 7 with fail
    go_cut [8] (fun m wx => Hid (wx.ownsRow w.heap.size 5 1 m (encQ a).length ((encQ a).map byteV)) ∧ Hid (Below w.heap.size w wx))
    case first =>
      go_wp2_with fail
      refine (encode_any _ a _ (HA.out.below HB1.out) (by omega)).mono ?_
      rintro e w2 ⟨u, rfl, hown, hb2⟩
      have HB2 := Lib.hid (HB1.out.trans (hb2.mono HB1.out.size))
      have HO := Lib.hid hown
      have hsrc := owned_src hown
      clear hown hb2
      rcases hsrc with ⟨rfl, h0⟩ | ⟨g, cp, rfl, HN⟩
      · have H0 := Lib.hid h0
        clear h0
        go_wp2_with (at_builtin; refine wpList_append_own_none rfl _ _ 22 rfl w.heap.size 5 i0 1 Tryd.underlying22 hi _ _ _ rfl (World.ownsRow_nil _ _ _ _) rfl ?_)
        go_meet
        exact ⟨by rw [H0.out]; exact World.ownsRow_nil _ _ _ _, HB2⟩
      · go_wp2_with (at_builtin; refine wpList_append_own _ rfl _ _ 22 rfl w.heap.size 5 i0 (.int .u8 0) 1 1 Tryd.underlying22 hi hz0 hz1 hz2 rfl (by decide) _ _ _ rfl (World.ownsRow_nil _ _ _ _) ⟨g, 0, none⟩ (encQ a).length cp ((encQ a).map byteV) rfl (by simp) HN.out (news_one _) (by unfold maxLen; omega) (by omega) HB2.out.size ?_)
        intro v3 w3 hown3 hgrow3 _
        have HO3 := Lib.hid hown3
        have HB3 : Hid (Below w.heap.size w w3) := HB2.out.grown hgrow3 HB2.out.size (fun q hq => by cases hq)
        clear hown3 hgrow3
        go_wp2_with fail
        go_meet
        exact ⟨own_cast HO3.out (by simp) (by simp), HB3⟩
    case rest =>
      obtain ⟨HO, HB⟩ := hcut
      go_wp2_with (at_builtin; refine wpList_append_own _ rfl _ _ 22 rfl w.heap.size 5 i0 (.int .u8 0) 1 1 Tryd.underlying22 hi hz0 hz1 hz2 rfl (by decide) _ _ _ rfl (HO.out.alloc _) ⟨wc.heap.size, 0, none⟩ 1 1 [byteV c] rfl rfl ?c1 ?c2 ?c3 ?c4 ?c5 ?_)
      case c1 => exact cell_one_new wc _ _
      case c2 => exact news_one [c]
      case c3 => unfold maxLen; omega
      case c4 => omega
      case c5 => simp; have := HB.out.size; omega
      intro v3 w3 hown3 hgrow3 _
      have HO3 : Hid (w3.ownsRow w.heap.size 5 1 v3 (encQ a ++ [c]).length ((encQ a ++ [c]).map byteV)) := own_cast hown3 (by simp) (by simp)
      have HB3 : Hid (Below w.heap.size w w3) := (HB.out.alloc (by have := HB.out.size; omega) _).grown hgrow3 (by have := HB.out.size; simp; omega) (fun q hq => (HO.out.lt q hq).1)
      have hl3 : (encQ a ++ [c]).length ≤ 181 := by simp; omega
      clear hown3 hgrow3
      go_wp2_with (at_builtin; refine wpList_append_own _ rfl _ _ 22 rfl w.heap.size 5 i0 (.int .u8 0) 1 1 Tryd.underlying22 hi hz0 hz1 hz2 rfl (by decide) _ _ _ rfl (HO3.out.alloc _) ⟨w3.heap.size, 0, none⟩ 1 1 [byteV 120] rfl rfl ?c1 ?c2 ?c3 ?c4 ?c5 ?_)
      case c1 => exact cell_one_new w3 _ _
      case c2 => exact news_one [120]
      case c3 => unfold maxLen; omega
      case c4 => omega
      case c5 => simp; have := HB3.out.size; omega
      intro v4 w4 hown4 hgrow4 _
      have HO4 : Hid (w4.ownsRow w.heap.size 5 1 v4 (encQ a ++ [c] ++ [120]).length ((encQ a ++ [c] ++ [120]).map byteV)) := own_cast hown4 (by simp) (by simp)
      have HB4 : Hid (Below w.heap.size w w4) := (HB3.out.alloc (by have := HB3.out.size; omega) _).grown hgrow4 (by have := HB3.out.size; simp; omega) (fun q hq => (HO3.out.lt q hq).1)
      have hl4 : (encQ a ++ [c] ++ [120]).length ≤ 182 := by simp; omega
      clear hown4 hgrow4
      go_upto_region 10 with fail
      go_cut [8] (fun m wx => Hid (wx.ownsRow w.heap.size 5 1 m (encQ a ++ c :: 120 :: encQ b).length ((encQ a ++ c :: 120 :: encQ b).map byteV)) ∧ Hid (Below w.heap.size w wx))
      case first =>
        go_wp2_with fail
        refine (encode_any _ b _ (HBB.out.below HB4.out) (by omega)).mono ?_
        rintro e w5 ⟨u, rfl, hown, hb5⟩
        have HB5 := Lib.hid (HB4.out.trans (hb5.mono HB4.out.size))
        have HO5 := Lib.hid (ownsRow_below HO4.out hb5)
        have hsrc := owned_src hown
        clear hown hb5
        rcases hsrc with ⟨rfl, h0⟩ | ⟨g, cp, rfl, HN⟩
        · have H0 := Lib.hid h0
          clear h0
          go_wp2_with (at_builtin; refine wpList_append_own_none rfl _ _ 22 rfl w.heap.size 5 i0 1 Tryd.underlying22 hi _ _ _ rfl HO5.out rfl ?_)
          go_meet
          exact ⟨by rw [H0.out]; exact own_cast HO5.out (by simp) (by simp), HB5⟩
        · go_wp2_with (at_builtin; refine wpList_append_own _ rfl _ _ 22 rfl w.heap.size 5 i0 (.int .u8 0) 1 1 Tryd.underlying22 hi hz0 hz1 hz2 rfl (by decide) _ _ _ rfl HO5.out ⟨g, 0, none⟩ (encQ b).length cp ((encQ b).map byteV) rfl (by simp) HN.out (news_one _) (by unfold maxLen; omega) (by omega) HB5.out.size ?_)
          intro v6 w6 hown6 hgrow6 _
          have HO6 := Lib.hid hown6
          have HB6 : Hid (Below w.heap.size w w6) := HB5.out.grown hgrow6 HB5.out.size (fun q hq => (HO5.out.lt q hq).1)
          clear hown6 hgrow6
          go_wp2_with fail
          go_meet
          exact ⟨own_cast HO6.out (by simp; omega) (by simp), HB6⟩
      case rest =>
        obtain ⟨HO7, HB7⟩ := hcut
        have hlm : (encQ a ++ c :: 120 :: encQ b).length ≤ 1000000 := by simp; omega
        have HF := Lib.hid (decode_any _ (encQ a ++ c :: 120 :: encQ b) _ (bytesArg_owned HO7.out) hlm)
        clear hlm
        rcases broken_cases a b c with ⟨q1, HR⟩ | ⟨q1, q2, HR⟩ | ⟨q1, q2, q3, HR⟩ | ⟨q1, q2, q3, q4, q5, HR⟩ | ⟨q1, q2, q3, q4, HR⟩ | ⟨q1, q2, q3, q4, q5, HR⟩
        all_goals
          go_wp2_with fail
          with_reducible refine HF.out.mono ?_
          rintro e w8 ⟨hb8, u8, rfl, _⟩
          rw [HR.out]
          have HB8 := Lib.hid (HB7.out.trans (hb8.mono HB7.out.size))
          clear hb8
          go_wp2
          go_ret
          exact ⟨rfl, HB8.out⟩
end Go.Proofs.YtdofnejgfcnnoaaDoor
