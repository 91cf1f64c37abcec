/- Statement CharsetBack: what is a text is the same bytes again, and the other way round. -/
import Derived.Test.YtodheanfpclhaaaDoorCsX
namespace Go.Proofs.YtodheanfpclhaaaDoor
open Go Go.RowKit

theorem errV_some (t : List UInt8) : errV (some t) = .tuple #[.string ⟨t.toArray⟩, .int .i64 0] := rfl
theorem flat_len (l : List UInt8) : l.length ≤ (l.flatMap enc8).length ∧ (l.flatMap enc8).length ≤ 2 * l.length := by
  induction l with
  | nil => exact ⟨Nat.le_refl _, Nat.le_refl _⟩
  | cons c l ih =>
    have h := enc8_len c
    rw [List.flatMap_cons, List.length_append, List.length_cons]
    omega
theorem textK_len {k : Nat} {a b : List UInt8} (h : textK k a = some b) : a.length ≤ b.length ∧ b.length ≤ 2 * a.length := by
  unfold textK at h
  split at h
  · cases h
  · split at h
    · split at h
      · cases h; omega
      · cases h
    · unfold textM at h
      split at h
      · cases h; exact flat_len a
      · cases h

set_option maxRecDepth 100000 in
set_option maxHeartbeats 8000000 in
theorem charsetBack_any (nm : ByteArray) (v : Value) (l : List UInt8) (w : World) (_hn : nm.size ≤ 9223372036854775807) (hv : bytesArg w v l) (hT : Tryd.tabs w) :
    Calls Tryd.prog 4 #[.string nm, v] w fun e w' => e = .returned (.bool true) ∧ Below w.heap.size w w' := by
  have HAw := Lib.hid (awake_any w hT)
  have HTb := Lib.hid hT
  have HV := Lib.hid hv
  obtain ⟨ao, cap, rfl, hc, hm, _⟩ := hv
  unfold maxLen at hm
  clear hT
  by_cases g0 : 300 < l.length
  · have p0 : decide ((300 : Int) < (l.length : Int)) = true := decide_eq_true (by omega)
    have r0 : (300 : Int) < (l.length : Int) := by omega
    go_enter Tryd.func4, Tryd.ntmps4
    go_wp2_with fail
    with_reducible refine HAw.out.mono ?_
    rintro e w1 ⟨rfl, hb1⟩
    go_wp2_with fail
    go_ret
    exact ⟨rfl, hb1⟩
  have p0 : decide ((300 : Int) < (l.length : Int)) = false := decide_eq_false (by omega)
  have r0 : ¬ (300 : Int) < (l.length : Int) := by omega
  by_cases g1 : 50 < nm.size
  · have p1 : decide ((50 : Int) < (nm.size : Int)) = true := decide_eq_true (by omega)
    have r1 : (50 : Int) < (nm.size : Int) := by omega
    go_enter Tryd.func4, Tryd.ntmps4
    go_wp2_with fail
    with_reducible refine HAw.out.mono ?_
    rintro e w1 ⟨rfl, hb1⟩
    go_wp2_with fail
    go_ret
    exact ⟨rfl, hb1⟩
  have p1 : decide ((50 : Int) < (nm.size : Int)) = false := decide_eq_false (by omega)
  have r1 : ¬ (50 : Int) < (nm.size : Int) := by omega
  obtain ⟨S, hS⟩ : ∃ S : ByteArray, S = ⟨l.toArray⟩ := ⟨_, rfl⟩
  have hSs : S.size ≤ 300 := by rw [hS]; show l.length ≤ _; omega
  have hSl : S.data.toList = l := by rw [hS]
  have HS : Hid (S = ⟨l.toArray⟩) := hS
  have HCv : Hid (∀ W, Below w.heap.size w W → (convert 22 9 (.slice ao l.length cap)).run Tryd.prog W = .ok (.string S) W) := fun W hb => by rw [hS]; exact bytesArg_string (HV.out.below hb)
  have HTx := Lib.hid (fun W hb => text_any nm (.slice ao l.length cap) l W (by omega) (HV.out.below hb) (by omega) (Utf8Tabs_below HTb.out hb))
  have HTy := Lib.hid (fun W (hb : Below w.heap.size w W) u t (hu : bytesArg W u t) (h : t.length ≤ 300) => text_any nm u t W (by omega) hu (by omega) (Utf8Tabs_below HTb.out hb))
  have HBx := Lib.hid (fun W (hb : Below w.heap.size w W) => bytes_any nm S W (by omega) (by omega) (Utf8Tabs_below HTb.out hb))
  have HBy := Lib.hid (fun W (hb : Below w.heap.size w W) (t : ByteArray) (h : t.size ≤ 600) => bytes_any nm t W (by omega) (by omega) (Utf8Tabs_below HTb.out hb))
  rw [hSl] at HBx
  obtain ⟨k, hk⟩ : ∃ k, k = kindL nm.data.toList := ⟨_, rfl⟩
  rw [← hk] at HTx HTy HBx HBy
  have s1 : (S.toList == S.toList) = true := by simp
  have s2 : (S.toList != S.toList) = false := by simp
  clear hS hSl hk
  cases h1 : textK k l with
  | none =>
    rw [h1] at HTx
    unfold errV at HTx
    clear h1
    go_enter Tryd.func4, Tryd.ntmps4
    go_wp2_with fail
    with_reducible refine HAw.out.mono ?_
    rintro e w1 ⟨rfl, hb1⟩
    have HB1 := Lib.hid hb1
    clear hb1
    go_wp2_with fail
    with_reducible refine (HTx.out _ HB1.out).mono ?_
    rintro e w2 ⟨rfl, hb2⟩
    have HB2 := Lib.hid (HB1.out.trans (hb2.mono HB1.out.size))
    clear hb2
    have hcvA := HCv.out w2 HB2.out
    go_wp2_with fail
    with_reducible refine (HBx.out _ HB2.out).mono ?_
    rintro e wa ⟨⟨vb, rfl, hvb⟩, hba⟩
    have HBa := Lib.hid (HB2.out.trans (hba.mono HB2.out.size))
    clear hba hcvA
    cases h2 : bytesK k l with
    | none =>
      rw [h2] at hvb
      unfold bytE at hvb
      subst hvb
      clear h2
      go_wp2_with fail
      go_ret
      exact ⟨rfl, HBa.out⟩
    | some t2 =>
      rw [h2] at hvb
      obtain ⟨u, rfl, hu⟩ := hvb
      have hb2 := back2 h2
      have hl2 := textK_len hb2
      have HTz := Lib.hid (HTy.out wa HBa.out u t2 hu (by omega))
      rw [hb2, errV_some, ← HS.out] at HTz
      clear h2 hb2 hu
      go_wp2_with fail
      with_reducible refine HTz.out.mono ?_
      rintro e wb ⟨rfl, hbb⟩
      have HBb := Lib.hid (HBa.out.trans (hbb.mono HBa.out.size))
      have hcvB := HCv.out wb HBb.out
      clear hbb HTz
      go_wp2_with fail
      go_ret
      exact ⟨rfl, HBb.out⟩
  | some t =>
    rw [h1] at HTx
    unfold errV at HTx
    have hb1' := back1 h1
    have hl1 := textK_len h1
    have HBz := Lib.hid (fun W (hb : Below w.heap.size w W) => HBy.out W hb ⟨t.toArray⟩ (by show t.length ≤ _; omega))
    rw [show (⟨t.toArray⟩ : ByteArray).data.toList = t from rfl, hb1'] at HBz
    clear h1 hb1' hl1
    go_enter Tryd.func4, Tryd.ntmps4
    go_wp2_with fail
    with_reducible refine HAw.out.mono ?_
    rintro e w1 ⟨rfl, hb1⟩
    have HB1 := Lib.hid hb1
    clear hb1
    go_wp2_with fail
    with_reducible refine (HTx.out _ HB1.out).mono ?_
    rintro e w2 ⟨rfl, hb2⟩
    have HB2 := Lib.hid (HB1.out.trans (hb2.mono HB1.out.size))
    clear hb2
    go_wp2_with fail
    with_reducible refine (HBz.out _ HB2.out).mono ?_
    rintro e w3 ⟨⟨vc, rfl, u3, rfl, hu3⟩, hb3⟩
    have HB3 := Lib.hid (HB2.out.trans (hb3.mono HB2.out.size))
    have hcu3 : (convert 22 9 u3).run Tryd.prog w3 = .ok (.string S) w3 := by rw [HS.out]; exact bytesArg_string hu3
    obtain ⟨uo3, uc3, rfl, _, _, _⟩ := hu3
    clear hb3
    have hcvA := HCv.out w3 HB3.out
    go_wp2_with fail
    with_reducible refine (HBx.out _ HB3.out).mono ?_
    rintro e wa ⟨⟨vb, rfl, hvb⟩, hba⟩
    have HBa := Lib.hid (HB3.out.trans (hba.mono HB3.out.size))
    clear hba hcvA
    cases h2 : bytesK k l with
    | none =>
      rw [h2] at hvb
      unfold bytE at hvb
      subst hvb
      clear h2
      go_wp2_with fail
      go_ret
      exact ⟨rfl, HBa.out⟩
    | some t2 =>
      rw [h2] at hvb
      obtain ⟨u, rfl, hu⟩ := hvb
      have hb2 := back2 h2
      have hl2 := textK_len hb2
      have HTz := Lib.hid (HTy.out wa HBa.out u t2 hu (by omega))
      rw [hb2, errV_some, ← HS.out] at HTz
      clear h2 hb2 hu
      go_wp2_with fail
      with_reducible refine HTz.out.mono ?_
      rintro e wb ⟨rfl, hbb⟩
      have HBb := Lib.hid (HBa.out.trans (hbb.mono HBa.out.size))
      have hcvB := HCv.out wb HBb.out
      clear hbb HTz
      go_wp2_with fail
      go_ret
      exact ⟨rfl, HBb.out⟩
end Go.Proofs.YtodheanfpclhaaaDoor
