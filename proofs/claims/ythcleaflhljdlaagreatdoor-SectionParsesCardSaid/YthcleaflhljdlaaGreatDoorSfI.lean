/- The law SectionParses. -/
import Derived.Test.YthcleaflhljdlaaGreatDoorSfH
import Derived.Test.YthcleaflhljdlaaGreatDoorSeS
namespace Go.Proofs.YthcleaflhljdlaaGreatDoor
open Go Go.RowKit

def outS (o : Option Spc) : Spc := match o with
  | some sp => sp
  | none => ⟨[], 0, [], false, 0, 0⟩
def outN (o : Option Spc) : Int := match o with
  | some _ => 0
  | none => 50
theorem okS_specR (l : List UInt8) : okS (specR l) = specC l := by
  unfold okS specC
  rw [spec_same]
  rcases specL l with _ | sp <;> rfl
theorem rowOf_none (W : World) : rowOf W (.slice none 0 0) [] := ⟨none, 0, rfl, .inl rfl⟩
theorem specC_parts {l : List UInt8} {sp : Spc} (h : specC l = some sp) : TextOf l sp ∧ checkS sp = true := by
  unfold specC at h
  cases h2 : specL l with
  | none => rw [h2] at h; cases h
  | some q =>
    rw [h2] at h
    simp only at h
    split at h
    · next hc =>
      cases h
      exact ⟨(specL_iff l _).1 h2, hc⟩
    · cases h
theorem out_len (l : List UInt8) : (outS (specC l)).path.length ≤ 1000000000 ∧ (outS (specC l)).names.length ≤ 1000000000 := by
  cases h : specC l with
  | none => exact ⟨Nat.zero_le _, Nat.zero_le _⟩
  | some sp =>
    obtain ⟨_, h1, _, _, h2, _⟩ := checkS_parts (specC_parts h).2
    exact ⟨by show sp.path.length ≤ _; omega, by show sp.names.length ≤ _; omega⟩
theorem parse_out (s : ByteArray) (w : World) (hl : s.size ≤ 1000) (hw : wrds w) :
    Calls Tryz.prog 8 #[.string s] w fun e w' => ∃ a1 c1 a2 c2, e = .returned (.tuple #[spV (outS (specC s.data.toList)) a1 a2 c1 c2, .int .i64 (outN (specC s.data.toList))]) ∧ SpA w' (outS (specC s.data.toList)) a1 a2 c1 c2 ∧ Below w.heap.size w w' := by
  refine (parse_any s w (by omega) hw).mono fun e w' h => ?_
  unfold ParseIs at h
  cases hc : specC s.data.toList with
  | none =>
    rw [hc] at h
    exact ⟨none, 0, none, 0, h.1, ⟨rowOf_none _, rowOf_none _, fun a ha => by cases ha⟩, h.2⟩
  | some sp =>
    rw [hc] at h
    obtain ⟨v, he, hv, hn, hb⟩ := h
    obtain ⟨a1, c1, a2, c2, rfl, hs⟩ := hv.spA hn
    exact ⟨a1, c1, a2, c2, he, hs, hb⟩
theorem refParse_out (s : ByteArray) (w : World) (hl : s.size ≤ 1000) :
    Calls Tryz.prog 9 #[.string s] w fun e w' => ∃ a1 c1 a2 c2, e = .returned (.tuple #[spV (outS (specC s.data.toList)) a1 a2 c1 c2, .int .i64 (outN (specC s.data.toList))]) ∧ SpA w' (outS (specC s.data.toList)) a1 a2 c1 c2 ∧ Below w.heap.size w w' := by
  refine (refParse_any s w (by omega)).mono fun e w' h => ?_
  rw [okS_specR] at h
  unfold ParseRs at h
  cases hc : specC s.data.toList with
  | none =>
    rw [hc] at h
    exact ⟨none, 0, none, 0, h.1, ⟨rowOf_none _, rowOf_none _, fun a ha => by cases ha⟩, h.2⟩
  | some sp =>
    rw [hc] at h
    obtain ⟨a1, c1, a2, c2, he, h1, h2, hb⟩ := h
    exact ⟨a1, c1, a2, c2, he, ⟨rowOf_owned h1, rowOf_owned h2, fun a ha => by have := textOf_names (specC_parts hc).1 a ha; rw [len_toList] at this; omega⟩, hb⟩
set_option maxRecDepth 100000 in
set_option maxHeartbeats 8000000 in
theorem sectionParses_any (s : ByteArray) (w : World) (hl : s.size ≤ 9223372036854775807) (he : env w) :
    Calls Tryz.prog 3 #[.string s] w fun e w' => e = .returned (.bool true) ∧ Below w.heap.size w w' := by
  have HA := Lib.hid (awake_any w he)
  have HE := Lib.hid he
  clear he
  by_cases h300 : 300 < (s.size : Int)
  · go_enter Tryz.func3, Tryz.ntmps3
    go_wp2_with fail
    with_reducible refine HA.out.mono ?_
    rintro e w1 ⟨rfl, hb1⟩
    go_wp2_with fail
    go_ret
    exact ⟨rfl, hb1⟩
  · have d300 : decide (300 < (s.size : Int)) = false := decide_eq_false h300
    have hP := Lib.hid (fun W (hw : wrds W) => parse_out s W (by omega) hw)
    have hR := Lib.hid (fun W => refParse_out s W (by omega))
    have HLs := Lib.hid (out_len s.data.toList)
    obtain ⟨sp, hsp⟩ : ∃ sp, sp = outS (specC s.data.toList) := ⟨_, rfl⟩
    obtain ⟨nn, hnn⟩ : ∃ nn, nn = outN (specC s.data.toList) := ⟨_, rfl⟩
    rw [← hsp, ← hnn] at hP hR
    rw [← hsp] at HLs
    unfold spV at hP hR
    clear hsp hnn
    go_enter Tryz.func3, Tryz.ntmps3
    go_wp2_with fail
    with_reducible refine HA.out.mono ?_
    rintro e w1 ⟨rfl, hb1⟩
    have HB1 := Lib.hid hb1
    clear hb1 HA
    go_wp2_with fail
    with_reducible refine (hP.out w1 (by have h := HE.out.below HB1.out; unfold env at h; exact h.2)).mono ?_
    rintro e w2 ⟨a1, c1, a2, c2, rfl, hs1, hb2⟩
    obtain ⟨W2, hW2⟩ : ∃ W2, W2 = w2.alloc (.cells #[.slice a1 sp.path.length c1, .int .i64 sp.what, .slice a2 sp.names.length c2, .bool sp.cut, .int .i64 sp.frm, .int .i64 sp.many] 26) := ⟨_, rfl⟩
    have hb22 : Below w2.heap.size w2 W2 := by rw [hW2]; exact (Below.refl _ _).alloc (Nat.le_refl _) _
    have HX2 : Hid (Box W2 w2.heap.size (.slice a1 sp.path.length c1) sp.what (.slice a2 sp.names.length c2) sp.cut sp.frm sp.many) := by rw [hW2]; exact heap_alloc_new w2 _
    have HB2 := Lib.hid (HB1.out.trans ((hb2.trans (hb22.mono hb2.size)).mono HB1.out.size))
    have HS1 := Lib.hid (hs1.below hb22)
    have HW2 := Lib.hid hW2.symm
    obtain ⟨X, hX⟩ : ∃ X, X = w2.heap.size := ⟨_, rfl⟩
    rw [← hX] at HX2
    have HXe := Lib.hid hX
    clear hb2 hb22 hs1 hW2 hX
    go_upto_region 7 with fail
    rw [HW2.out, ← HXe.out]
    go_wp2_with fail
    with_reducible refine (hR.out W2).mono ?_
    rintro e w3 ⟨b1, d1, b2, d2, rfl, hs2, hb3⟩
    obtain ⟨W3, hW3⟩ : ∃ W3, W3 = w3.alloc (.cells #[.slice b1 sp.path.length d1, .int .i64 sp.what, .slice b2 sp.names.length d2, .bool sp.cut, .int .i64 sp.frm, .int .i64 sp.many] 30) := ⟨_, rfl⟩
    have hb33 : Below w3.heap.size w3 W3 := by rw [hW3]; exact (Below.refl _ _).alloc (Nat.le_refl _) _
    have HY3 : Hid (BoxR W3 w3.heap.size (.slice b1 sp.path.length d1) sp.what (.slice b2 sp.names.length d2) sp.cut sp.frm sp.many) := by rw [hW3]; exact heap_alloc_new w3 _
    have hb23 : Below W2.heap.size W2 W3 := hb3.trans (hb33.mono hb3.size)
    have HB3 := Lib.hid (HB2.out.trans (hb23.mono HB2.out.size))
    have HS2 := Lib.hid (hs2.below hb33)
    have HS13 := Lib.hid (HS1.out.below hb23)
    have HX3 := Lib.hid (HX2.out.below hb23)
    have HW3 := Lib.hid hW3.symm
    obtain ⟨Y, hY⟩ : ∃ Y, Y = w3.heap.size := ⟨_, rfl⟩
    rw [← hY] at HY3
    have HYe := Lib.hid hY
    clear hb3 hb33 hb23 hs2 hW3 hY
    obtain ⟨x0, x1, x2, x3, x4, x5⟩ := HX3.out.c
    obtain ⟨y0, y1, y2, y3, y4, y5⟩ := HY3.out.c
    have X0 := BW.cell x0
    have Y0 := BW.cell y0
    have X1 := BW.cell x1
    have Y1 := BW.cell y1
    have X2 := BW.cell x2
    have Y2 := BW.cell y2
    have X3 := BW.cell x3
    have Y3 := BW.cell y3
    have X4 := BW.cell x4
    have Y4 := BW.cell y4
    have X5 := BW.cell x5
    have Y5 := BW.cell y5
    have HF1 : Hid (∀ z : BW W3, _) := fun z => specOf_any sp a1 a2 c1 c2 z.v
    have HF3 : Hid (∀ z : BW W3, _) := fun z => same_spec sp a1 a2 c1 c2 b1 b2 d1 d2 z.v (HS13.out.below z.h) (HS2.out.below z.h) HLs.out.1 HLs.out.2
    unfold spV at HF1 HF3
    clear x0 x1 x2 x3 x4 x5 y0 y1 y2 y3 y4 y5
    go_upto_region 8 with fail
    rw [HW3.out, ← HYe.out]
    refine wp_region_below (by kernel_rfl) (by kernel_rfl) ?_
    repeat (go_big_quiet_step (first | (go_at_call 11; with_reducible exact BW.calls (HF1.out _)) | (go_at_call 10; with_reducible exact BW.calls (HF3.out _))))
    refine wpQuiet_nil ?_
    rintro W8 ⟨⟨_, hb8⟩, rfl⟩
    have HB8 := Lib.hid (HB3.out.trans (hb8.mono HB3.out.size))
    clear hb8
    go_wp2_with fail
    go_ret
    exact ⟨rfl, HB8.out⟩
end Go.Proofs.YthcleaflhljdlaaGreatDoor
