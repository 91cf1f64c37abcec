/- Contracts of package params: Quoted. -/
import Derived.Test.YtkkdplccneeaiaaGreatDoorGbParD
namespace Go.Proofs.YtkkdplccneeaiaaGreatDoor
open Go Go.RowKit

theorem Esc.setCell {lo : Nat} {W : World} {M : Nat} (h : Esc lo W M) {p : Addr} (hp : p.block < lo) (u : Value) : Esc lo (W.setCell p u) M := by
  obtain ⟨F, a34, c34, a92, c92, t, ct, hlo, hT, h34, h92, ho, h256, r34, r92, rt, k1, k2, k3⟩ := h
  exact ⟨F, a34, c34, a92, c92, t, ct, hlo, hT.block (Below.heap_setCell _ _ _ _ (by omega)), h34, h92, ho, h256, r34.below (Below.heap_setCell _ _ _ _ (by omega)), r92.below (Below.heap_setCell _ _ _ _ (by omega)), rt.below (Below.heap_setCell _ _ _ _ (by omega)), k1, k2, k3⟩

/-- A replacer's block. -/
def repF (r v : Value) (d s : Int) : Nat → Value := fun k => if k = 0 then .int .u32 d else if k = 1 then .int .i32 s else if k = 2 then .int .u32 0 else if k = 3 then r else v

set_option maxRecDepth 100000 in
set_option maxHeartbeats 1600000 in
theorem buildOnce_any (b q cap : Nat) (d s : Int) (w : World) (hb : Tab w b 5 (repF .nilIface (.slice (some ⟨q, 0, none⟩) 4 cap) d s))
    (s0 : w.cell? ⟨q, 0, none⟩ = some (.string ⟨#[34]⟩)) (s1 : w.cell? ⟨q, 1, none⟩ = some (.string ⟨#[92, 34]⟩)) (s2 : w.cell? ⟨q, 2, none⟩ = some (.string ⟨#[92]⟩)) (s3 : w.cell? ⟨q, 3, none⟩ = some (.string ⟨#[92, 92]⟩)) :
    Calls Tryz.prog 46 #[.pointer (some ⟨b, 0, none⟩)] w fun e w' => e = .returned (.tuple #[]) ∧ ∃ M, Esc (b + 1) w' M ∧
      Tab w' b 5 (updF (updF (repF .nilIface (.slice (some ⟨q, 0, none⟩) 4 cap) d s) 3 (.iface 114 (.pointer (some ⟨M, 0, none⟩)))) 4 (.slice none 0 0)) ∧ Below b w w' := by
  have HT := Lib.hid hb
  have HB := Lib.hid (fun h4 => build_any b q cap w h4 s0 s1 s2 s3)
  have hbl := hb.lt (by decide)
  clear s0 s1 s2 s3 hb
  go_enter Tryz.func46, Tryz.ntmps46
  go_wp2_with fail
  with_reducible refine (HB.out ?h4).mono ?_
  case h4 => exact HT.out.c 4 (by decide)
  rintro e w1 ⟨M, rfl, hM, hE, hb1⟩
  have HT1 := Lib.hid (HT.out.below (by decide) hb1)
  have HE1 := Lib.hid hE
  have HB1 := Lib.hid hb1
  have x3 := HT1.out.c 3 (by decide)
  have z3 := HT1.out.z 3 (by decide)
  have x4 := HT1.out.c 4 (by decide)
  have z4 := HT1.out.z 4 (by decide)
  clear hb1 hE HB HT
  go_wp2_with fail
  first | go_end0 | skip
  refine ⟨rfl, M, ?_, ?_, ?_⟩
  · have h1 := (HE1.out.setCell (p := ⟨b, 3, none⟩) hbl (.iface 114 (.pointer (some ⟨M, 0, none⟩)))).setCell (p := ⟨b, 4, none⟩) hbl (.slice none 0 0)
    obtain ⟨F, a34, c34, a92, c92, t, ct, hlo, r⟩ := h1
    exact ⟨F, a34, c34, a92, c92, t, ct, ⟨by omega, by omega, by omega, by omega⟩, r⟩
  · exact (HT1.out.set (k := 3) (by decide) _).set (k := 4) (by decide) _
  · have h0 : Below b w w1 := HB1.out.mono (Nat.le_of_lt hbl)
    exact (h0.setCell (p := ⟨b, 3, none⟩) (Nat.le_refl _) _).setCell (p := ⟨b, 4, none⟩) (Nat.le_refl _) _

set_option maxRecDepth 100000 in
set_option maxHeartbeats 1600000 in
theorem replace_any (b q cap : Nat) (t : ByteArray) (w : World) (hb : Tab w b 5 (repF .nilIface (.slice (some ⟨q, 0, none⟩) 4 cap) 0 0)) (hl : t.size ≤ 1000000000) (hqb : q < b)
    (s0 : w.cell? ⟨q, 0, none⟩ = some (.string ⟨#[34]⟩)) (s1 : w.cell? ⟨q, 1, none⟩ = some (.string ⟨#[92, 34]⟩)) (s2 : w.cell? ⟨q, 2, none⟩ = some (.string ⟨#[92]⟩)) (s3 : w.cell? ⟨q, 3, none⟩ = some (.string ⟨#[92, 92]⟩)) :
    Calls Tryz.prog 31 #[.pointer (some ⟨b, 0, none⟩), .string t] w fun e w' => e = .returned (.string ⟨(escL t.data.toList).toArray⟩) ∧ Below b w w' := by
  have hqo : ∀ k, (w.setCell ⟨b, 1, none⟩ (.int .i32 1)).cell? ⟨q, k, none⟩ = w.cell? ⟨q, k, none⟩ := fun k => World.cell?_of_block (Below.heap_setCell w ⟨b, 1, none⟩ _ q (by show q ≠ b; omega))
  have HTa : Tab (w.setCell ⟨b, 1, none⟩ (.int .i32 1)) b 5 (repF .nilIface (.slice (some ⟨q, 0, none⟩) 4 cap) 0 1) := by
    have h1 := hb.set (k := 1) (by decide) (.int .i32 1)
    refine ⟨fun k hk => ?_, h1.z⟩
    rw [h1.c k hk]
    unfold updF repF
    congr 1
    by_cases e0 : k = 0
    · subst e0; rfl
    · by_cases e1 : k = 1
      · subst e1; rfl
      · rw [if_neg e1, if_neg e0, if_neg e1, if_neg e0, if_neg e1]
  have hbo := buildOnce_any b q cap 0 1 _ HTa ((hqo 0).trans s0) ((hqo 1).trans s1) ((hqo 2).trans s2) ((hqo 3).trans s3)
  have hdo := do_any b (.pointer (some ⟨b, 0, none⟩)) w (fun w1 => ∃ M, Esc (b + 1) w1 M ∧ Tab w1 b 5 (updF (updF (repF .nilIface (.slice (some ⟨q, 0, none⟩) 4 cap) 0 1) 3 (.iface 114 (.pointer (some ⟨M, 0, none⟩)))) 4 (.slice none 0 0)) ∧ Below b w w1)
    (hb.c 0 (by decide)) (hb.c 1 (by decide)) (hb.z 1 (by decide))
    (hbo.mono fun e w' ⟨he, M, hE, hT, hbl⟩ => ⟨he, hT.c 0 (by decide), hT.c 1 (by decide), hT.z 0 (by decide), hT.z 1 (by decide), M, hE, hT, ((Below.refl b w).setCell (p := ⟨b, 1, none⟩) (Nat.le_refl _) _).trans hbl⟩)
  have hdo2 := hdo.mono (R' := fun e w' => e = .returned (.tuple #[]) ∧ ∃ M, Esc (b + 1) w' M ∧ w'.cell? ⟨b, 3, none⟩ = some (.iface 114 (.pointer (some ⟨M, 0, none⟩))) ∧ Below b w w') fun e w' ⟨he, w1, ⟨M, hE, hT, hbl⟩, hw1⟩ => by
    refine ⟨he, M, ?_, ?_, ?_⟩
    · rw [hw1]
      have hE' : Esc (b + 1) w1.drew M := hE.below (Below.refl _ _).drew
      exact (hE'.setCell (p := ⟨b, 0, none⟩) (Nat.lt_succ_self b) (.int .u32 1)).setCell (p := ⟨b, 1, none⟩) (Nat.lt_succ_self b) (.int .i32 0)
    · rw [hw1]
      have hT' := hT.block (W' := w1.drew) rfl
      exact ((hT'.set (k := 0) (by decide) (.int .u32 1)).set (k := 1) (by decide) (.int .i32 0)).c 3 (by decide)
    · rw [hw1]
      exact (hbl.drew.setCell (p := ⟨b, 0, none⟩) (Nat.le_refl _) _).setCell (p := ⟨b, 1, none⟩) (Nat.le_refl _) _
  have hbw : b < w.heap.size := hb.lt (by decide)
  have HD := Lib.hid hdo2
  have hm : ∀ (m : Nat) W, (method 302 114 (.pointer (some ⟨m, 0, none⟩)) "Replace").run Tryz.prog W = .ok (145, .pointer (some ⟨m, 0, none⟩)) W := fun _ _ => by kernel_rfl
  clear hdo2 hdo hbo HTa hqo s0 s1 s2 s3 hb
  go_enter Tryz.func31, Tryz.ntmps31
  go_wp2_with (go_at_call 45; refine HD.out.mono ?_; rintro e w1 ⟨rfl, M, hE, c3, hbl⟩)
  have HB := Lib.hid hbl
  have HR := Lib.hid (bsReplace_any (b + 1) M t w1 hE hl)
  clear hE hbl HD
  go_wp2_with (go_at_call 145; refine HR.out.mono ?_; rintro e w2 ⟨rfl, hb2⟩)
  go_ret
  exact ⟨rfl, HB.out.trans (hb2.mono (by have := HB.out.size; omega))⟩

set_option maxRecDepth 100000 in
set_option maxHeartbeats 1600000 in
/-- strings.NewReplacer of four texts. -/
theorem newReplacer_any (q cap : Nat) (w : World)
    (s0 : w.cell? ⟨q, 0, none⟩ = some (.string ⟨#[34]⟩)) (s1 : w.cell? ⟨q, 1, none⟩ = some (.string ⟨#[92, 34]⟩)) (s2 : w.cell? ⟨q, 2, none⟩ = some (.string ⟨#[92]⟩)) (s3 : w.cell? ⟨q, 3, none⟩ = some (.string ⟨#[92, 92]⟩)) :
    Calls Tryz.prog 30 #[.slice (some ⟨q, 0, none⟩) 4 cap] w fun e w' => ∃ b g k, e = .returned (.pointer (some ⟨b, 0, none⟩)) ∧ w.heap.size ≤ b ∧ g < b ∧ Tab w' b 5 (repF .nilIface (.slice (some ⟨g, 0, none⟩) 4 k) 0 0) ∧
      w'.cell? ⟨g, 0, none⟩ = some (.string ⟨#[34]⟩) ∧ w'.cell? ⟨g, 1, none⟩ = some (.string ⟨#[92, 34]⟩) ∧ w'.cell? ⟨g, 2, none⟩ = some (.string ⟨#[92]⟩) ∧ w'.cell? ⟨g, 3, none⟩ = some (.string ⟨#[92, 92]⟩) ∧ Below w.heap.size w w' := by
  obtain ⟨i0, hi, hz⟩ := Option.map_eq_some_iff.1 Tryz.infoStrg
  simp only [Prod.mk.injEq] at hz
  obtain ⟨hz0, hz1, hz2⟩ := hz
  have HNw : Hid (∀ j u, [Value.string ⟨#[34]⟩, .string ⟨#[92, 34]⟩, .string ⟨#[92]⟩, .string ⟨#[92, 92]⟩][j]? = some u → w.cell? ((⟨q, 0, none⟩ : Addr).add j) = some u) := by
    intro j u hu
    rw [Addr.add_lit, Nat.zero_add]
    match j, hu with
    | 0, hu => cases hu; exact s0
    | 1, hu => cases hu; exact s1
    | 2, hu => cases hu; exact s2
    | 3, hu => cases hu; exact s3
    | j + 4, hu => simp at hu
  go_enter Tryz.func30, Tryz.ntmps30
  go_wp2_with (at_builtin; refine wpList_append_own _ rfl _ _ 41 rfl w.heap.size 9 i0 (.string ⟨#[]⟩) 1 16 Tryz.underlying41 hi hz0 hz1 hz2 rfl (by decide) (.slice none 0 0) 0 [] rfl (World.ownsRow_nil _ _ _ _) ⟨q, 0, none⟩ 4 cap [.string ⟨#[34]⟩, .string ⟨#[92, 34]⟩, .string ⟨#[92]⟩, .string ⟨#[92, 92]⟩] rfl rfl HNw.out (by simp [Value.oneCell']) (by decide) (by decide) (Nat.le_refl _) ?_; intro v w1 hown hgrow)
  intro _
  obtain ⟨g, k, rfl, hk, hkm, hgl, hgu⟩ := ownsRow_slice hown (by decide)
  go_wp2_with fail
  go_ret
  have hr := rowAt_owned hown
  have hA : Below w1.heap.size w1 (w1.alloc (.cells #[.int .u32 0, .int .i32 0, .int .u32 0, .nilIface, .slice (some ⟨g, 0, none⟩) 4 k] 88)) := (Below.refl _ _).alloc (Nat.le_refl _) _
  have hr2 := hr.below (hA.block g hgu)
  have hB1 : Below w.heap.size w w1 := Below.grown (Below.refl _ _) hgrow (Nat.le_refl _) (by intro _ h; cases h)
  refine ⟨w1.heap.size, g, k, rfl, hgrow.size, hgu, Tab.of_row (cs := #[.int .u32 0, .int .i32 0, .int .u32 0, .nilIface, .slice (some ⟨g, 0, none⟩) 4 k]) (heap_alloc_new _ _) (fun j hj => ?_), hr2.cell 0 (by decide), hr2.cell 1 (by decide), hr2.cell 2 (by decide), hr2.cell 3 (by decide), hB1.trans (hA.mono hB1.size)⟩
  rcases (show j = 0 ∨ j = 1 ∨ j = 2 ∨ j = 3 ∨ j = 4 by omega) with rfl | rfl | rfl | rfl | rfl <;> rfl

def quoteL (l : List UInt8) : List UInt8 := [34] ++ escL l ++ [34]
set_option maxRecDepth 100000 in
theorem quoted_any (s : ByteArray) (w : World) (hl : s.size ≤ 1000000000) :
    Calls Tryz.prog 20 #[.string s] w fun e w' => e = .returned (.string ⟨(quoteL s.data.toList).toArray⟩) ∧ Below w.heap.size w w' := by
  have HN := Lib.hid newReplacer_any
  have HR := Lib.hid replace_any
  obtain ⟨r, hr⟩ : ∃ r : ByteArray, r = ⟨(escL s.data.toList).toArray⟩ := ⟨_, rfl⟩
  have hrs : r.size ≤ 2000000000 := by
    have e : r.size = (escL s.data.toList).length := by rw [hr]; rfl
    have h1 := escL_len s.data.toList
    have h2 := List.countP_le_length (p := hitB) (l := s.data.toList)
    rw [len_toList] at h1 h2
    omega
  have HRe : Hid (r = _) := Lib.hid hr
  obtain ⟨W, hW⟩ : ∃ W, W = w.alloc (.cells #[.string ⟨#[34]⟩, .string ⟨#[92, 34]⟩, .string ⟨#[92]⟩, .string ⟨#[92, 92]⟩] 9) := ⟨_, rfl⟩
  have hB0 : Below w.heap.size w W := by rw [hW]; exact (Below.refl _ _).alloc (Nat.le_refl _) _
  have hcell : ∀ j u, [Value.string ⟨#[34]⟩, .string ⟨#[92, 34]⟩, .string ⟨#[92]⟩, .string ⟨#[92, 92]⟩][j]? = some u → W.cell? ⟨w.heap.size, j, none⟩ = some u := by
    intro j u hu
    rw [hW]
    have := cells_four_new w 9 (.string ⟨#[34]⟩) (.string ⟨#[92, 34]⟩) (.string ⟨#[92]⟩) (.string ⟨#[92, 92]⟩) j u hu
    rwa [Addr.add_lit, Nat.zero_add] at this
  have HW := Lib.hid hcell
  have HB0 := Lib.hid hB0
  have HWe : Hid (W = _) := Lib.hid hW
  clear hcell hB0 hW hr
  go_enter Tryz.func20, Tryz.ntmps20
  go_wp2_with (go_at_call 30; rw [← HWe.out]; refine (HN.out w.heap.size 4 W (HW.out 0 _ rfl) (HW.out 1 _ rfl) (HW.out 2 _ rfl) (HW.out 3 _ rfl)).mono ?_)
  rintro e w1 ⟨b, g, k, rfl, hb, hgb, hT, s0, s1, s2, s3, hb1⟩
  have HB1 : Hid (Below w.heap.size w w1) := HB0.out.trans (hb1.mono HB0.out.size)
  have HR1 := Lib.hid (HR.out b g k s w1 hT hl hgb s0 s1 s2 s3)
  rw [← HRe.out] at HR1
  have hbw : w.heap.size ≤ b := Nat.le_trans HB0.out.size hb
  clear HR HN HW hT s0 s1 s2 s3 hb1 hgb
  go_wp2_with fail
  with_reducible refine HR1.out.mono ?_
  rintro e w2 ⟨rfl, hb2⟩
  go_wp2_with fail
  go_ret
  refine ⟨ret_str (bytes_eq ?_), HB1.out.trans (hb2.mono hbw)⟩
  rw [cat_toList, cat_toList, HRe.out]
  rfl
end Go.Proofs.YtkkdplccneeaiaaGreatDoor
