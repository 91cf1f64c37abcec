/- Contracts of package qp: cutLine, textOf. -/
import Derived.Test.YtdofnejgfcnnoaaDoorQpB
import Derived.Test.YtdofnejgfcnnoaaDoorShelf
import Derived.BigQuiet
import Derived.Deep.QuietTactic
namespace Go.Proofs.YtdofnejgfcnnoaaDoor
open Go Go.RowKit

def intsOf (l : List UInt8) : List Int := l.map fun b => (b.toNat : Int)
theorem intsOf_len (l : List UInt8) : (intsOf l).length = l.length := by simp [intsOf]
theorem bytesOf_ints (l : List UInt8) : Lib.bytesOf (intsOf l) = l := by
  unfold Lib.bytesOf intsOf
  rw [List.map_map]
  conv => rhs; rw [← List.map_id l]
  apply List.map_congr_left
  intro b _
  apply toNat_eq
  have := b.toNat_lt
  simp
theorem sliceAt.ints {w : World} {ao : Option Addr} {l : List UInt8} (h : sliceAt w ao l) : Lib.BytesIn w ao l.length (intsOf l) := by
  intro hn
  rcases h with rfl | ⟨b, off, rfl, hb, hc⟩
  · simp at hn
  · refine ⟨b, off, rfl, fun i hi => ?_⟩
    rw [hc i hi]
    simp [byteV, intsOf, List.getD, hi]
theorem ints_byte (l : List UInt8) : ∀ x ∈ intsOf l, 0 ≤ x ∧ x < 256 := by
  intro x hx
  obtain ⟨b, _, rfl⟩ := List.mem_map.1 hx
  have := b.toNat_lt
  omega
theorem indexByte_feed : ∀ l : List UInt8, Lib.indexByte l 10 = if feedI l < l.length then (feedI l : Int) else -1
  | [] => rfl
  | c :: l => by
    have ih := indexByte_feed l
    unfold Lib.indexByte
    have e : feedI (c :: l) = if c == 10 then 0 else feedI l + 1 := by
      unfold feedI
      rw [List.findIdx_cons]
      cases c == 10 <;> rfl
    cases h : c == 10
    · have e' : feedI (c :: l) = feedI l + 1 := by rw [e, h]; rfl
      rw [e', List.length_cons, ih]
      simp only [Bool.false_eq_true, if_false]
      by_cases h1 : feedI l < l.length
      · rw [if_pos h1, if_neg (show ¬ ((feedI l : Int) == -1) = true by simp), if_pos (show feedI l + 1 < l.length + 1 by omega)]
        omega
      · rw [if_neg h1, if_neg (show ¬ feedI l + 1 < l.length + 1 by omega)]
        rfl
    · have e' : feedI (c :: l) = 0 := by rw [e, h]; rfl
      rw [e', List.length_cons, if_pos (show 0 < l.length + 1 by omega)]
      simp
theorem index_yes (ao : Option Addr) (cap : Nat) (l : List UInt8) (w : World) (hs : sliceAt w ao l) (h : feedI l < l.length) :
    Calls Tryd.prog 17 #[.slice ao l.length cap, .int .u8 10] w fun e w' => e = .returned (.int .i64 (feedI l : Int)) ∧ w = w' := by
  rcases hs with rfl | ⟨b, off, rfl, hb, hc⟩
  · simp at h
  · refine (Tryd.bytes_IndexByte_at ⟨b, off, none⟩ l.length cap (intsOf l) 10 w (intsOf_len l) fun i hi => ?_).mono ?_
    · rw [Addr.add_lit, hc i hi]
      simp [byteV, intsOf, List.getD, hi]
    · rintro e w' ⟨rfl, rfl⟩
      refine ⟨ret_int ?_, rfl⟩
      rw [bytesOf_ints]
      exact (indexByte_feed l).trans (if_pos h)
theorem index_no (ao : Option Addr) (cap : Nat) (l : List UInt8) (w : World) (hs : sliceAt w ao l) (hne : l ≠ []) (h : ¬ feedI l < l.length) :
    Calls Tryd.prog 17 #[.slice ao l.length cap, .int .u8 10] w fun e w' => e = .returned (.int .i64 (-1)) ∧ w = w' := by
  rcases hs with rfl | ⟨b, off, rfl, hb, hc⟩
  · exact absurd rfl hne
  · refine (Tryd.bytes_IndexByte_at ⟨b, off, none⟩ l.length cap (intsOf l) 10 w (intsOf_len l) fun i hi => ?_).mono ?_
    · rw [Addr.add_lit, hc i hi]
      simp [byteV, intsOf, List.getD, hi]
    · rintro e w' ⟨rfl, rfl⟩
      refine ⟨ret_int ?_, rfl⟩
      rw [bytesOf_ints]
      exact (indexByte_feed l).trans (if_neg h)

/-- What cutLine answers. -/
def Cut3 (w0 w : World) (l : List UInt8) (e : Ending) (w' : World) : Prop :=
  ∃ a1 c1 a2 c2 a3 c3, e = .returned (.tuple #[.slice a1 (lineL l).length c1, .slice a2 (endL l).length c2, .slice a3 (restL l).length c3]) ∧
    ((lineL l).length ≤ c1 ∧ c1 ≤ 2 ^ 63 - 1 ∧ sliceAt w0 a1 (lineL l)) ∧ ((endL l).length ≤ c2 ∧ c2 ≤ 2 ^ 63 - 1 ∧ sliceAt w0 a2 (endL l) ∧ (endL l = [] → a2 = none ∧ c2 = 0)) ∧ ((restL l).length ≤ c3 ∧ c3 ≤ 2 ^ 63 - 1 ∧ sliceAt w0 a3 (restL l)) ∧ ∃ n, w' = w.drewN n

theorem lineL_at {l : List UInt8} (h : feedI l < l.length) : lineL l = l.take (fromI l) ∧ (lineL l).length = fromI l := by
  have := fromI_le l
  unfold lineL
  rw [if_pos h]
  exact ⟨rfl, by rw [List.length_take]; omega⟩
theorem endL_at {l : List UInt8} (h : feedI l < l.length) : endL l = (l.drop (fromI l)).take (feedI l + 1 - fromI l) ∧ (endL l).length = feedI l + 1 - fromI l := by
  have := fromI_le l
  unfold endL
  rw [if_pos h]
  exact ⟨rfl, by rw [List.length_take, List.length_drop]; omega⟩
theorem restL_at' (l : List UInt8) : (restL l).length = l.length - (feedI l + 1) := by unfold restL; rw [List.length_drop]

theorem cut_ret {a1 a2 a3 : Option Addr} {c1 c2 c3 n1 n2 n3 m1 m2 m3 : Nat} (h1 : n1 = m1) (h2 : n2 = m2) (h3 : n3 = m3) : Ending.returned (.tuple #[.slice a1 n1 c1, .slice a2 n2 c2, .slice a3 n3 c3]) = .returned (.tuple #[.slice a1 m1 c1, .slice a2 m2 c2, .slice a3 m3 c3]) := by subst h1 h2 h3; rfl
set_option maxHeartbeats 1000000 in
theorem cutLine_any (w0 w : World) (ao : Option Addr) (cap : Nat) (l : List UInt8) (hb : Below w0.heap.size w0 w) (hs : sliceAt w0 ao l) (hne : l ≠ []) (hc : l.length ≤ cap) (hm : cap ≤ 2 ^ 63 - 1) :
    Calls Tryd.prog 12 #[.slice ao l.length cap] w (Cut3 w0 w l) := by
  have HS := Lib.hid hs
  have HB := Lib.hid hb
  by_cases h : feedI l < l.length
  · have HF := Lib.hid (index_yes ao cap l w (hs.below hb) h)
    obtain ⟨b, off, rfl, hbl, hc0⟩ := hs.cell 0 (by omega)
    have hfr := fromI_le l
    have HL1 := Lib.hid (lineL_at h)
    have HL2 := Lib.hid (endL_at h)
    have HL3 := Lib.hid (restL_at' l)
    have hprev : 0 < feedI l → w.cell? ⟨b, off + (feedI l - 1), none⟩ = some (.int .u8 ((l.getD (feedI l - 1) 0).toNat : Int)) := by
      intro h0
      obtain ⟨b', off', e, _, hc1⟩ := hs.cell (feedI l - 1) (by omega)
      cases e
      rw [hb.cell (p := ⟨b, off + (feedI l - 1), none⟩) hbl, hc1]
      simp [List.getD, show feedI l - 1 < l.length by omega]
    obtain ⟨x, hx⟩ : ∃ x, x = l.getD (feedI l - 1) 0 := ⟨_, rfl⟩
    rw [← hx] at hprev
    have hfd : fromI l = if 0 < feedI l ∧ x = 13 then feedI l - 1 else feedI l := by rw [hx]; rfl
    obtain ⟨F, hF⟩ : ∃ F, F = feedI l := ⟨_, rfl⟩
    obtain ⟨G, hG⟩ : ∃ G, G = fromI l := ⟨_, rfl⟩
    have HFG := Lib.hid (And.intro hF hG)
    rw [← hF] at h hfr HF HL2 HL3 hprev hfd
    rw [← hG] at hfr HL1 HL2 hfd
    clear hs hb hc0 hx hF hG
    have hg : (F = 0 ∧ G = 0) ∨ (∃ q, F = q + 1 ∧ x = 13 ∧ G = q) ∨ (∃ q, F = q + 1 ∧ x ≠ 13 ∧ G = q + 1) := by
      by_cases h0 : F = 0
      · exact .inl ⟨h0, by rw [hfd, h0]; rfl⟩
      · by_cases h13 : x = 13
        · exact .inr (.inl ⟨F - 1, by omega, h13, by rw [hfd, if_pos ⟨by omega, h13⟩]⟩)
        · exact .inr (.inr ⟨F - 1, by omega, h13, by rw [hfd, if_neg (fun h => h13 h.2)]; omega⟩)
    clear hfd
    rcases hg with ⟨rfl, rfl⟩ | ⟨q, rfl, rfl, rfl⟩ | ⟨q, rfl, h13, rfl⟩
    · have HA2 : Hid (restL l = l.drop (0 + 1)) := by have := HFG.out.1; unfold Hid restL; rw [← this]
      clear hprev
      by_cases hcp : cap = 0 + 1
      · subst hcp
        go_enter Tryd.func12, Tryd.ntmps12
        go_wp2_with fail
        with_reducible refine HF.out.mono ?_
        rintro e w1 ⟨rfl, rfl⟩
        go_wp2
        go_quiet (fail)
        go_wp2
        go_ret3
        obtain ⟨e1, f1⟩ := HL1.out
        obtain ⟨e2, f2⟩ := HL2.out
        have f3 := HL3.out
        refine ⟨_, _, _, _, _, _, cut_ret ?_ ?_ ?_, ⟨?_, ?_, ?_⟩, ⟨?_, ?_, ?_, fun h => absurd (congrArg List.length h) (by rw [f2, List.length_nil]; omega)⟩, ⟨?_, ?_, ?_⟩, _, rfl⟩
        any_goals omega
        · rw [e1]; exact HS.out.take _
        · rw [e2]; exact (HS.out.drop (k := 0)).take _
        · exact .inl (List.eq_nil_of_length_eq_zero (by omega))
      · have hcp2 : 0 + 1 < cap := by omega
        clear hcp
        go_enter Tryd.func12, Tryd.ntmps12
        go_wp2_with fail
        with_reducible refine HF.out.mono ?_
        rintro e w1 ⟨rfl, rfl⟩
        go_wp2
        go_quiet (fail)
        go_wp2
        go_ret3
        obtain ⟨e1, f1⟩ := HL1.out
        obtain ⟨e2, f2⟩ := HL2.out
        have f3 := HL3.out
        refine ⟨_, _, _, _, _, _, cut_ret ?_ ?_ ?_, ⟨?_, ?_, ?_⟩, ⟨?_, ?_, ?_, fun h => absurd (congrArg List.length h) (by rw [f2, List.length_nil]; omega)⟩, ⟨?_, ?_, ?_⟩, _, rfl⟩
        any_goals omega
        · rw [e1]; exact HS.out.take _
        · rw [e2]; exact (HS.out.drop (k := 0)).take _
        · rw [HA2.out]; exact HS.out.drop
    · have HA2 : Hid (restL l = l.drop (G + 1 + 1)) := by have := HFG.out.1; unfold Hid restL; rw [← this]
      have hp := hprev (by omega)
      clear hprev
      simp only [Nat.add_sub_cancel] at hp
      by_cases hcp : cap = G + 1 + 1
      · subst hcp
        go_enter Tryd.func12, Tryd.ntmps12
        go_wp2_with fail
        with_reducible refine HF.out.mono ?_
        rintro e w1 ⟨rfl, rfl⟩
        go_wp2
        go_quiet (fail)
        go_wp2
        go_ret3
        obtain ⟨e1, f1⟩ := HL1.out
        obtain ⟨e2, f2⟩ := HL2.out
        have f3 := HL3.out
        refine ⟨_, _, _, _, _, _, cut_ret ?_ ?_ ?_, ⟨?_, ?_, ?_⟩, ⟨?_, ?_, ?_, fun h => absurd (congrArg List.length h) (by rw [f2, List.length_nil]; omega)⟩, ⟨?_, ?_, ?_⟩, _, rfl⟩
        any_goals omega
        · rw [e1]; exact HS.out.take _
        · rw [e2]; exact (HS.out.drop (k := G)).take _
        · exact .inl (List.eq_nil_of_length_eq_zero (by omega))
      · have hcp2 : G + 1 + 1 < cap := by omega
        clear hcp
        go_enter Tryd.func12, Tryd.ntmps12
        go_wp2_with fail
        with_reducible refine HF.out.mono ?_
        rintro e w1 ⟨rfl, rfl⟩
        go_wp2
        go_quiet (fail)
        go_wp2
        go_ret3
        obtain ⟨e1, f1⟩ := HL1.out
        obtain ⟨e2, f2⟩ := HL2.out
        have f3 := HL3.out
        refine ⟨_, _, _, _, _, _, cut_ret ?_ ?_ ?_, ⟨?_, ?_, ?_⟩, ⟨?_, ?_, ?_, fun h => absurd (congrArg List.length h) (by rw [f2, List.length_nil]; omega)⟩, ⟨?_, ?_, ?_⟩, _, rfl⟩
        any_goals omega
        · rw [e1]; exact HS.out.take _
        · rw [e2]; exact (HS.out.drop (k := G)).take _
        · rw [HA2.out]; exact HS.out.drop
    · have HA2 : Hid (restL l = l.drop (q + 1 + 1)) := by have := HFG.out.1; unfold Hid restL; rw [← this]
      have hp := hprev (by omega)
      clear hprev
      simp only [Nat.add_sub_cancel] at hp
      have t13 : ((x.toNat : Int) == 13) = false := beq_no fun e => h13 (toNat_eq (by show x.toNat = 13; omega))
      clear h13
      by_cases hcp : cap = q + 1 + 1
      · subst hcp
        go_enter Tryd.func12, Tryd.ntmps12
        go_wp2_with fail
        with_reducible refine HF.out.mono ?_
        rintro e w1 ⟨rfl, rfl⟩
        go_wp2
        go_quiet (fail)
        go_wp2
        go_ret3
        obtain ⟨e1, f1⟩ := HL1.out
        obtain ⟨e2, f2⟩ := HL2.out
        have f3 := HL3.out
        refine ⟨_, _, _, _, _, _, cut_ret ?_ ?_ ?_, ⟨?_, ?_, ?_⟩, ⟨?_, ?_, ?_, fun h => absurd (congrArg List.length h) (by rw [f2, List.length_nil]; omega)⟩, ⟨?_, ?_, ?_⟩, _, rfl⟩
        any_goals omega
        · rw [e1]; exact HS.out.take _
        · rw [e2]; exact (HS.out.drop (k := q + 1)).take _
        · exact .inl (List.eq_nil_of_length_eq_zero (by omega))
      · have hcp2 : q + 1 + 1 < cap := by omega
        clear hcp
        go_enter Tryd.func12, Tryd.ntmps12
        go_wp2_with fail
        with_reducible refine HF.out.mono ?_
        rintro e w1 ⟨rfl, rfl⟩
        go_wp2
        go_quiet (fail)
        go_wp2
        go_ret3
        obtain ⟨e1, f1⟩ := HL1.out
        obtain ⟨e2, f2⟩ := HL2.out
        have f3 := HL3.out
        refine ⟨_, _, _, _, _, _, cut_ret ?_ ?_ ?_, ⟨?_, ?_, ?_⟩, ⟨?_, ?_, ?_, fun h => absurd (congrArg List.length h) (by rw [f2, List.length_nil]; omega)⟩, ⟨?_, ?_, ?_⟩, _, rfl⟩
        any_goals omega
        · rw [e1]; exact HS.out.take _
        · rw [e2]; exact (HS.out.drop (k := q + 1)).take _
        · rw [HA2.out]; exact HS.out.drop
  · have HF := Lib.hid (index_no ao cap l w (hs.below hb) hne h)
    have h1 : feedI l = l.length := by have := feedI_le l; omega
    have hl : lineL l = l ∧ endL l = [] ∧ restL l = [] := by
      unfold lineL endL restL
      rw [if_neg h, if_neg h, h1]
      simp
    have HL := Lib.hid hl
    clear hl h1 h hs hb
    go_enter Tryd.func12, Tryd.ntmps12
    go_wp2_with fail
    with_reducible refine HF.out.mono ?_
    rintro e w1 ⟨rfl, rfl⟩
    go_wp2
    go_ret3
    obtain ⟨e1, e2, e3⟩ := HL.out
    exact ⟨_, _, _, _, _, _, by rw [e1, e2, e3]; rfl, ⟨by rw [e1]; exact hc, hm, by rw [e1]; exact HS.out⟩, ⟨by rw [e2]; exact Nat.le_refl _, by omega, .inl e2, fun _ => ⟨rfl, rfl⟩⟩, ⟨by rw [e3]; exact Nat.le_refl _, by omega, .inl e3⟩, 0, rfl⟩
end Go.Proofs.YtdofnejgfcnnoaaDoor
