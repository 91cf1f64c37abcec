/- Contracts of package section: Put, whole. -/
import Derived.Test.YthcleaflhljdlaaGreatDoorSeQ
namespace Go.Proofs.YthcleaflhljdlaaGreatDoor
open Go Go.RowKit

set_option maxRecDepth 100000 in
set_option maxHeartbeats 4000000 in
theorem put_any (s : Spc) (answer : Bool) (a1 a2 : Option Addr) (c1 c2 : Nat) (w : World) (h : SpA w s a1 a2 c1 c2) (he : env w) :
    Calls Tryz.prog 14 #[spV s a1 a2 c1 c2, .bool answer] w fun e w' => e = .returned (strV (putS s answer)) ∧ Below w.heap.size w w' := by
  have HSp := Lib.hid (fun W (hb : Below w.heap.size w W) => h.below hb)
  have HEn := Lib.hid (fun W (hb : Below w.heap.size w W) => he.below hb)
  have HCh := Lib.hid (fun W (hb : Below w.heap.size w W) => check_any s a1 a2 c1 c2 W (h.below hb))
  unfold errS at HCh
  cases hc : checkS s with
  | false =>
    have HE : Hid (putS s answer = []) := by unfold Hid putS; rw [hc]; rfl
    rw [hc] at HCh
    clear h he hc
    obtain ⟨pt, hpt⟩ : ∃ pt, pt = putS s answer := ⟨_, rfl⟩
    rw [← hpt] at HE ⊢
    clear hpt
    obtain ⟨p, q, ns, c, x, y⟩ := s
    unfold spV at HCh ⊢
    simp only at HCh ⊢
    have HB0 : Hid (Below w.heap.size w (w.alloc (boxO p q ns c x y a1 a2 c1 c2))) := (Below.refl _ _).alloc (Nat.le_refl _) _
    unfold boxO at HB0
    have HCb := Lib.hid (HCh.out _ HB0.out)
    go_enter Tryz.func14, Tryz.ntmps14
    go_wp2_with fail
    with_reducible refine HCb.out.mono ?_
    rintro e w2 ⟨rfl, hb2⟩
    have HB2 := Lib.hid (HB0.out.trans (hb2.mono HB0.out.size))
    clear hb2
    go_wp2_with fail
    go_ret
    exact ⟨by rw [HE.out]; rfl, HB2.out⟩
  | true =>
    obtain ⟨h1, h2, h3, h4, h5, h6⟩ := checkS_parts hc
    have hA := askT_len s h1 h2 h4
    have hN := nmsT_len s.names h.hn h5
    have hC := cutT_len s answer h6
    have HA := Lib.hid (fun W (hb : Below w.heap.size w W) => askedText_any s a1 a2 c1 c2 W (h.below hb) h1 h2 h3 h4 (he.below hb))
    have HN := Lib.hid (fun W (hb : Below w.heap.size w W) => namesText_any s.names a2 c2 W (h.below hb).rn h.hn h5)
    have HC := Lib.hid (fun W (hb : Below w.heap.size w W) => cutText_any s answer a1 a2 c1 c2 W h6 (he.below hb).1)
    have HE : Hid (putS s answer = [91] ++ (askT s ++ (nmsT s.names ++ ([93] ++ cutT s answer)))) := by unfold Hid putS; rw [hc]; rfl
    rw [hc] at HCh
    clear h he hc h1 h2 h3 h4 h5 h6
    obtain ⟨pt, hpt⟩ : ∃ pt, pt = putS s answer := ⟨_, rfl⟩
    rw [← hpt] at HE ⊢
    obtain ⟨tA, htA⟩ : ∃ t, t = askT s := ⟨_, rfl⟩
    obtain ⟨tN, htN⟩ : ∃ t, t = nmsT s.names := ⟨_, rfl⟩
    obtain ⟨tC, htC⟩ : ∃ t, t = cutT s answer := ⟨_, rfl⟩
    rw [← htA] at hA HA HE
    rw [← htN] at hN HN HE
    rw [← htC] at hC HC HE
    unfold strV at HA HN HC
    clear hpt htA htN htC
    obtain ⟨p, q, ns, c, x, y⟩ := s
    unfold spV at HCh HA HC ⊢
    simp only at HCh HA HN HC ⊢
    have HB0 : Hid (Below w.heap.size w (w.alloc (boxO p q ns c x y a1 a2 c1 c2))) := (Below.refl _ _).alloc (Nat.le_refl _) _
    have hbx : Box (w.alloc (boxO p q ns c x y a1 a2 c1 c2)) w.heap.size (.slice a1 p.length c1) q (.slice a2 ns.length c2) c x y := heap_alloc_new w _
    unfold boxO at HB0 hbx
    have HCb := Lib.hid (HCh.out _ HB0.out)
    have HBx := Lib.hid hbx
    obtain ⟨R, hR⟩ : ∃ R, R = w.heap.size := ⟨_, rfl⟩
    rw [← hR] at HBx
    have HR := Lib.hid hR
    clear hbx hR HCh
    go_enter Tryz.func14, Tryz.ntmps14
    go_wp2_with fail
    with_reducible refine HCb.out.mono ?_
    rintro e w2 ⟨rfl, hb2⟩
    have HB2 := Lib.hid (HB0.out.trans (hb2.mono HB0.out.size))
    have HBx2 := Lib.hid (HBx.out.below hb2)
    rw [← HR.out]
    clear hb2
    obtain ⟨k0, k1, k2, k3, k4, k5⟩ := HBx2.out.c
    have K0 := BW.cell k0
    have K1 := BW.cell k1
    have K2 := BW.cell k2
    have K3 := BW.cell k3
    have K4 := BW.cell k4
    have K5 := BW.cell k5
    have HAw : Hid (∀ z : BW w2, _) := fun z => HA.out z.v (HB2.out.trans (z.h.mono HB2.out.size))
    have HNw : Hid (∀ z : BW w2, _) := fun z => HN.out z.v (HB2.out.trans (z.h.mono HB2.out.size))
    have HCw : Hid (∀ z : BW w2, _) := fun z => HC.out z.v (HB2.out.trans (z.h.mono HB2.out.size))
    clear HA HN HC HCb
    go_wp2_with fail
    refine wp_region_below (by kernel_rfl) (by kernel_rfl) ?_
    repeat (go_big_quiet_step (first | (go_at_call 26; with_reducible exact BW.calls (HAw.out _)) | (go_at_call 27; with_reducible exact BW.calls (HNw.out _)) | (go_at_call 28; with_reducible exact BW.calls (HCw.out _))))
    refine wpQuiet_nil ?_
    rintro W3 ⟨⟨_, hb3⟩, rfl⟩
    have HB3 := Lib.hid (HB2.out.trans (hb3.mono HB2.out.size))
    clear hb3
    go_wp2_with fail
    go_ret
    rw [HE.out]
    unfold strV
    exact ⟨ret_str (bytes_eq (by simp)), HB3.out⟩
end Go.Proofs.YthcleaflhljdlaaGreatDoor
