/- Contracts of package addr: a group's items; a group. -/
import Derived.Test.YtjlcphofkepajaaGreatAdJ
namespace Go.Proofs.YtjlcphofkepajaaGreat
open Go Go.RowKit

theorem Kp.cell {B A : Nat} {W W' : World} {u : Value} (k : Kp B W W') (h : W.cell? ⟨A, 0, none⟩ = some u) (hn : ¬ ownR B W A) : W'.cell? ⟨A, 0, none⟩ = some u ∧ ¬ ownR B W' A := by
  obtain ⟨e1, e2⟩ := k.kept A (World.block_lt_of_cell? _ _ h) hn
  exact ⟨(World.cell?_of_block (a := ⟨A, 0, none⟩) e1).trans h, e2⟩
set_option maxRecDepth 100000 in
set_option maxHeartbeats 2000000 in
theorem group1_any (base A B : Nat) (s : ByteArray) (ts : List Tok) (b : Bool) (al0 : List Adr) (w : World) (h : St w base B s ts b al0) (hA : w.cell? ⟨A, 0, none⟩ = some (.pointer (some ⟨B, 0, none⟩))) (hnA : ¬ ownR B w A) (hl : s.size ≤ 1000000000) (hn : al0.length ≤ 1000000000000) :
    Calls Tryz.prog 36 #[.pointer (some ⟨A, 0, none⟩)] w (Does base B s b al0 w (wboxT ts)) := by
  have hwt := h.wt
  have HWs := Lib.hid (fun W h => wordsS_any base B s ts b al0 W h hl)
  have HWt := Lib.hid (wordsT_wt ts)
  rcases hz : wordsT ts with ⟨us, t3⟩
  rw [hz] at HWs HWt
  have hu : wsW us ≤ 4000000000 := by have h1 : wsW us + wt t3 = wt ts := HWt.out; omega
  have HBx := Lib.hid (fun v W h hv => box_any base B s t3 b al0 v us W h hv hu hl hn)
  have HP : Hid (wboxT ts = boxT us t3) := by unfold Hid wboxT; rw [hz]
  have HS := Lib.hid h
  have HN := Lib.hid hnA
  have HCA := Lib.hid hA
  have HD : Hid (Kp B w w.drew) := Kp.grow (Below.refl _ _).drew h.lt
  have HSd : Hid (St w.drew base B s ts b al0) := h.grow (Below.refl _ _).drew
  unfold Does at HBx
  clear hz h hnA
  go_enter Tryz.func36, Tryz.ntmps36
  go_wp2_with fail
  go_region_with (first | (go_at_call 23; with_reducible refine (HWs.out _ HSd.out).mono ?_; rintro e w1 ⟨v1, rfl, hv1, hs1, hk1⟩; have HK1 := Lib.hid (HD.out.trans hk1); have HS1 := Lib.hid hs1; have HV1 := Lib.hid hv1; have hA1 := (HK1.out.cell HCA.out HN.out).1; clear hs1 hk1 hv1) | (go_at_call 25; with_reducible refine (HBx.out _ _ HS1.out HV1.out).mono ?_; rintro e w2 ⟨rfl, hs2, hk2⟩; have HS2 := Lib.hid hs2; have HK2 := Lib.hid (HK1.out.trans hk2); clear hs2 hk2))
  all_goals
    go_wp2_with fail
    go_ret
    rw [HP.out]
    exact ⟨rfl, HS2.out, HK2.out⟩
end Go.Proofs.YtjlcphofkepajaaGreat
