/- Contracts of package qp: Decode. -/
import Derived.Test.YtdofnejgfcnnoaaDoorQpD
import Derived.Laws.AppendOwnNone
namespace Go.Proofs.YtdofnejgfcnnoaaDoor
open Go Go.RowKit

theorem textS_len : ∀ (n : Nat) (t p : List UInt8), t.length ≤ n → textS t = some p → p.length ≤ t.length
  | _, [], p, _, h => by cases h; exact Nat.le_refl _
  | 0, c :: r, p, hn, _ => by simp at hn
  | n + 1, c :: r, p, hn, h => by
    by_cases h61 : c = 61
    · subst h61
      cases hx : hex2 r
      · rw [textS_no hx] at h; cases h
      · rw [textS_yes hx] at h
        obtain ⟨q, hq, rfl⟩ := Option.map_eq_some_iff.1 h
        have h2 := hex2_len hx
        have := textS_len n (r.drop 2) q (by simp at hn ⊢; omega) hq
        simp at this ⊢
        omega
    · cases hk : okB c
      · rw [textS_bad c r hk h61] at h; cases h
      · rw [textS_seen c r hk h61] at h
        obtain ⟨q, hq, rfl⟩ := Option.map_eq_some_iff.1 h
        have := textS_len n r q (by simp at hn; omega) hq
        simp
        omega
theorem parts_len (l : List UInt8) : (lineL l).length + (endL l).length + (restL l).length = l.length := by
  have h3 := restL_at' l
  have hf := feedI_le l
  by_cases h1 : feedI l < l.length
  · have e1 := (lineL_at h1).2
    have e2 := (endL_at h1).2
    have := fromI_le l
    omega
  · have e1 : lineL l = l := by unfold lineL; rw [if_neg h1]
    have e2 : endL l = [] := by unfold endL; rw [if_neg h1]
    rw [e1, e2, List.length_nil]
    omega
/-- What is still to tell. -/
def LeftQ (l r out : List UInt8) : Prop := decQ l = (decQ r).map (out ++ ·)
theorem LeftQ.refl (l : List UInt8) : LeftQ l l [] := by unfold LeftQ; simp
theorem LeftQ.step {l r out p : List UInt8} (h : LeftQ l r out) (h0 : r ≠ []) (ht : textS (txtL (lineL r)) = some p) : LeftQ l (restL r) (out ++ p ++ tailL r) := by
  unfold LeftQ at *
  rw [h, decQ_some h0 ht]
  simp [Function.comp_def]
theorem LeftQ.stop {l r out : List UInt8} (h : LeftQ l r out) (h0 : r ≠ []) (ht : textS (txtL (lineL r)) = none) : decQ l = none := by
  unfold LeftQ at h
  rw [h, decQ_none h0 ht]
  rfl
theorem LeftQ.done {l out : List UInt8} (h : LeftQ l [] out) : decQ l = some out := by
  unfold LeftQ at h
  rw [h, decQ_nil]
  simp
/-- What Decode answers. -/
def Decoded (w : World) (o : Option (List UInt8)) (e : Ending) (w' : World) : Prop :=
  Below w.heap.size w w' ∧ ∃ u, e = .returned (.tuple #[u, .bool o.isSome]) ∧ w'.ownsRow w.heap.size 5 1 u (o.getD []).length ((o.getD []).map byteV)
theorem decoded_none {w w' : World} {l : List UInt8} (hb : Below w.heap.size w w') (h : decQ l = none) : Decoded w (decQ l) (.returned (.tuple #[.slice none 0 0, .bool false])) w' := by
  rw [h]
  exact ⟨hb, _, rfl, World.ownsRow_nil _ _ _ _⟩
theorem decoded_some {w w' : World} {l out : List UInt8} {u : Value} (hb : Below w.heap.size w w') (h : LeftQ l [] out) (ho : w'.ownsRow w.heap.size 5 1 u out.length (out.map byteV)) : Decoded w (decQ l) (.returned (.tuple #[u, .bool true])) w' := by
  rw [h.done]
  exact ⟨hb, u, rfl, ho⟩

set_option maxHeartbeats 2000000 in
theorem decode_any (v : Value) (l : List UInt8) (w : World) (hv : bytesArg w v l) (hl : l.length ≤ 1000000) : Calls Tryd.prog 8 #[v] w (Decoded w (decQ l)) := by
  obtain ⟨i0, hi, hz0, hz1, hz2⟩ := info_parts Tryd.infoB
  obtain ⟨ao, cap, rfl, hc, hm, hs⟩ := hv
  have HS : Hid (sliceAt w ao l) := hs
  clear hs
  unfold maxLen at hm
  go_enter Tryd.func8, Tryd.ntmps8
  go_wp2
  go_loopg [0, 4] l.length (fun g v o wr => ∃ (cp : Nat) (a : Option Addr) (r out : List UInt8), v = .slice a g cp ∧ g ≤ cp ∧ cp ≤ 2 ^ 63 - 1 ∧ out.length + g ≤ 1000000 ∧ wr.ownsRow w.heap.size 5 1 o out.length (out.map byteV) ∧ Hid (r.length = g) ∧ Hid (sliceAt w a r) ∧ Hid (Below w.heap.size w wr) ∧ Hid (LeftQ l r out))
  case atStart => exact ⟨cap, ao, l, [], rfl, hc, hm, by simp; omega, World.ownsRow_nil _ _ _ _, rfl, HS.out, Below.refl _ _, LeftQ.refl l⟩
  case round =>
    obtain ⟨cp, a, r, out, rfl, hgc, hcm, hol, hown, HN, HR, HB, HL⟩ := hrel
    have HO := Lib.hid hown
    clear hown
    by_cases h0 : r = []
    · subst h0
      obtain rfl : gk = 0 := HN.out.symm
      go_wp2
      go_ret2
      exact decoded_some HB.out HL.out HO.out
    · have hg : gk = r.length := HN.out.symm
      subst hg
      have hpos : 0 < r.length := List.length_pos_iff.2 h0
      have H0 := Lib.hid h0
      have hparts := parts_len r
      have hrl := restL_len r h0
      have HC := Lib.hid (cutLine_any w wr a cp r HB.out HR.out h0 hgc hcm)
      clear h0
      go_wp2_with fail
      with_reducible refine HC.out.mono ?_
      rintro e w1 ⟨a1, c1, a2, c2, a3, c3, rfl, ⟨p1, p2, s1⟩, ⟨q1, q2, s2, q4⟩, ⟨r1, r2, s3⟩, n, rfl⟩
      have HS1 := Lib.hid s1
      have HS2 := Lib.hid s2
      have HS3 := Lib.hid s3
      have HQ4 := Lib.hid q4
      have HB1 : Hid (Below w.heap.size w (wr.drewN n)) := HB.out.trans ((below_drewN' n).mono HB.out.size)
      have HO1 : Hid ((wr.drewN n).ownsRow w.heap.size 5 1 _ out.length (out.map byteV)) := ownsRow_below HO.out (below_drewN' n)
      obtain ⟨w1, hw1⟩ : ∃ w1, w1 = wr.drewN n := ⟨_, rfl⟩
      rw [← hw1] at HB1 HO1 ⊢
      clear s1 s2 s3 q4 hw1
      have HT := Lib.hid (textOf_any a1 c1 (lineL r) w1 (HS1.out.below HB1.out) p1 p2)
      go_wp2_with fail
      with_reducible refine HT.out.mono ?_
      rintro e w2 ⟨rfl, hb2⟩
      have htl : (txtL (lineL r)).length ≤ (lineL r).length := (txtL_prefix _).length_le
      have HB2 : Hid (Below w.heap.size w w2) := HB1.out.trans (hb2.mono HB1.out.size)
      have HO2 := Lib.hid (ownsRow_below HO1.out hb2)
      clear hb2
      have HA := Lib.hid (appendTold_any w w2 _ out (txtL (lineL r)) a1 c1 HB2.out HO2.out (HS1.out.pre (txtL_prefix _)) (by omega) (by unfold maxLen; omega) (by omega))
      go_wp2_with fail
      with_reducible refine HA.out.mono ?_
      rintro e w3 ⟨hb3, ht⟩
      have HB3 := Lib.hid hb3
      clear hb3
      obtain ⟨oo, hoo⟩ : ∃ oo, textS (txtL (lineL r)) = oo := ⟨_, rfl⟩
      rw [hoo] at ht
      have HOO := Lib.hid hoo
      clear hoo
      cases oo with
      | none =>
        obtain rfl : e = _ := ht
        go_wp2
        go_ret2
        exact decoded_none HB3.out (HL.out.stop H0.out HOO.out)
      | some p =>
        obtain ⟨u, rfl, hown3⟩ := ht
        have HO3 := Lib.hid hown3
        have hp := textS_len _ _ _ (Nat.le_refl _) HOO.out
        have HLS := Lib.hid (HL.out.step H0.out HOO.out)
        clear hown3
        cases hq : softL (lineL r)
        · have HTL : Hid (tailL r = endL r) := by unfold Hid tailL; rw [hq]; rfl
          by_cases he : endL r = []
          · obtain ⟨rfl, rfl⟩ := HQ4.out he
            have HE := Lib.hid he
            have e0 : (endL r).length = 0 := by rw [he]; rfl
            clear he
            go_wp2_with (at_builtin; refine wpList_append_own_none rfl _ _ 22 rfl w.heap.size 5 i0 1 Tryd.underlying22 hi _ _ _ rfl HO3.out (by rw [← e0]; rfl) ?_)
            go_wp2
            go_roundg (restL r).length
            case measure => omega
            case rel => exact ⟨_, _, restL r, out ++ p, rfl, r1, r2, by simp; omega, HO3.out, rfl, HS3.out, HB3.out, by have := HLS.out; rw [HTL.out, HE.out, List.append_nil] at this; exact this⟩
          · have HE := Lib.hid he
            have he' : 0 < (endL r).length := List.length_pos_iff.2 he
            obtain ⟨b2, off2, rfl, _, _⟩ := HS2.out.cell 0 he'
            have HN2 := Lib.hid ((HS2.out.below HB3.out).news)
            clear he
            go_wp2_with (at_builtin; refine wpList_append_own _ rfl _ _ 22 rfl w.heap.size 5 i0 (.int .u8 0) 1 1 Tryd.underlying22 hi hz0 hz1 hz2 rfl (by decide) _ _ _ rfl HO3.out ⟨b2, off2, none⟩ (endL r).length c2 ((endL r).map byteV) rfl (by simp) HN2.out (news_one _) (by unfold maxLen; simp; omega) (by simp; omega) HB3.out.size ?_)
            intro v4 w4 hown4 hgrow4 _
            have HO4 := Lib.hid hown4
            have HB4 : Hid (Below w.heap.size w w4) := HB3.out.grown hgrow4 HB3.out.size (fun q hq => (HO3.out.lt q hq).1)
            clear hown4 hgrow4
            go_wp2
            go_roundg (restL r).length
            case measure => omega
            case rel => exact ⟨_, _, restL r, out ++ p ++ endL r, rfl, r1, r2, by simp; omega, own_cast HO4.out (by simp; omega) (by simp), rfl, HS3.out, HB4.out, by have := HLS.out; rw [HTL.out] at this; exact this⟩
        · have HTL : Hid (tailL r = []) := by unfold Hid tailL; rw [hq]; rfl
          go_wp2
          go_roundg (restL r).length
          case measure => omega
          case rel => exact ⟨_, _, restL r, out ++ p, rfl, r1, r2, by simp; omega, HO3.out, rfl, HS3.out, HB3.out, by have := HLS.out; rw [HTL.out, List.append_nil] at this; exact this⟩
end Go.Proofs.YtdofnejgfcnnoaaDoor
