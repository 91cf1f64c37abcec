/- Contracts of package record: a reader's number. -/
import Derived.Test.YtedminjnnhlknaaGreatDoorGbRcA
namespace Go.Proofs.YtedminjnnhlknaaGreatDoor
open Go Go.RowKit
structure Src (w0 : World) (R b off cap : Nat) (l : List UInt8) : Prop where
 bl : b < w0.heap.size
 base : w0.heap.size ≤ R
 big : l.length ≤ 1000000
 cap1 : l.length ≤ cap
 cap2 : cap ≤ maxLen
 cell : ∀ j, (h : j < l.length) → w0.cell? ⟨b, off + j, none⟩ = some (byteV l[j])
def At (W : World) (R b off cap : Nat) (l s : List UInt8) : Prop := ∃ k, k ≤ l.length ∧ Mk W R (.slice (some ⟨b, off, none⟩) l.length cap) k ∧ s = l.drop k
theorem At.below {W W' : World} {R b off cap : Nat} {l s : List UInt8} (h : At W R b off cap l s) (hb : Below W.heap.size W W') : At W' R b off cap l s := by
 obtain ⟨k, h1, h2, h3⟩ := h
 exact ⟨k, h1, h2.below hb, h3⟩
theorem At.block {W W' : World} {R b off cap : Nat} {l s : List UInt8} (h : At W R b off cap l s) (hb : W'.heap[R]? = W.heap[R]?) : At W' R b off cap l s := by
 obtain ⟨k, h1, h2, h3⟩ := h
 exact ⟨k, h1, h2.block hb, h3⟩
theorem At.lt {W : World} {R b off cap : Nat} {l s : List UInt8} (h : At W R b off cap l s) : R < W.heap.size := by
 obtain ⟨k, h1, h2, h3⟩ := h
 exact h2.lt
def numPost (R b off cap : Nat) (l : List UInt8) (q : Rs Nat) (w : World) (e : Ending) (w' : World) : Prop :=
 Gr R w w' ∧ match q with
  | .ok n r => e = .returned (.tuple #[.int .i64 (n : Int), .nilIface]) ∧ At w' R b off cap l r
  | .no x => ∃ (z : Nat) (r : List UInt8), e = .returned (.tuple #[.int .i64 0, fltV (z : Int) (x : Int)]) ∧ At w' R b off cap l r
theorem below_base {w0 w w' : World} {R : Nat} (h : Below w0.heap.size w0 w) (hR : w0.heap.size ≤ R) (hg : Gr R w w') : Below w0.heap.size w0 w' := gr_below h hR hg
set_option maxRecDepth 100000 in
set_option maxHeartbeats 4000000 in
theorem recNumber_any (w0 : World) (R b off cap : Nat) (l : List UInt8) (hS : Src w0 R b off cap l) (s : List UInt8) (w : World) (hw : Below w0.heap.size w0 w) (hat : At w R b off cap l s) :
  Calls Tryz.prog 31 #[.pointer (some ⟨R, 0, none⟩)] w (numPost R b off cap l (numP s) w) := by
 have HS := Lib.hid hS
 have HW := Lib.hid hw
 have HA := Lib.hid hat
 have HP : Hid (numP s = numL 7 0 0 s) := rfl
 obtain ⟨q, hq⟩ : ∃ q, q = numP s := ⟨_, rfl⟩
 rw [← hq] at HP ⊢
 have hbig := hS.big
 have hcap := hS.cap1
 have hcap2 := hS.cap2
 unfold maxLen at hcap2
 clear hq hat hw hS
 go_enter Tryz.func31, Tryz.ntmps31
 go_wp2_with fail
 go_step3
 go_wp2_with fail
 go_step3
 go_wp2_with fail
 go_loopg [4, 5, 6, 7, 8] 7 (fun g x4 x5 x6 x7 x8 wr => ∃ (p a : Nat) (s1 : List UInt8), p ≤ 7 ∧ a < 128 ^ p ∧ g = 7 - p ∧ x4 = .int .i64 (a : Int) ∧ x8 = .int .i64 (p : Int) ∧ Hid (At wr R b off cap l s1) ∧ Hid (Gr R w wr) ∧ Hid (q = numL (7 - p) p a s1))
 case atStart => exact ⟨0, 0, s, by omega, by decide, rfl, rfl, rfl, HA.out, Gr.refl _ _, HP.out⟩
 case round =>
  obtain ⟨p, a, s1, hp, ha, rfl, rfl, rfl, HA1, HG1, HQ⟩ := hrel
  by_cases hlt : p < 7
  ·have hlt' : (p : Int) < 7 := by omega
   obtain ⟨k, hk, hm, hs1⟩ := HA1.out
   have HM1 := Lib.hid hm
   have Hs := Lib.hid hs1
   have HBw := Lib.hid (below_base HW.out HS.out.base HG1.out)
   have HQ1 : Hid (numL (7 - p) p a s1 = numL (6 - p + 1) p a s1) := by unfold Hid; rw [show 7 - p = 6 - p + 1 by omega]
   clear hm hs1
   by_cases hkl : k < l.length
   ·have HTk := Lib.hid (take_yes R b off l.length cap k 1 wr HM1.out (by omega) HS.out.cap1 HS.out.cap2 hkl (by decide) (by decide))
    have hone : ((1 : Nat) : Int) = 1 := rfl
    rw [hone] at HTk
    clear hone
    obtain ⟨d, hdd⟩ : ∃ d, d = l[k] := ⟨_, rfl⟩
    have HC0 : Hid (w0.cell? ⟨b, off + k, none⟩ = some (.int .u8 (d.toNat : Int))) := by rw [hdd]; exact HS.out.cell k hkl
    have HD : Hid (s1 = d :: l.drop (k + 1)) := by unfold Hid; rw [Hs.out, hdd]; exact List.drop_eq_getElem_cons hkl
    have hdl := d.toNat_lt
    clear hdd
    obtain ⟨Z, hZ⟩ : ∃ Z, Z = (d.toNat % 128) * 128 ^ p := ⟨_, rfl⟩
    have hpw : 128 ^ p ≤ 128 ^ 6 := Nat.pow_le_pow_right (by decide) (by omega)
    have hZb : Z ≤ 127 * 128 ^ p := by rw [hZ]; exact Nat.mul_le_mul_right _ (by omega)
    have hZi : (d.toNat : Int) % 128 * 2 ^ (p * 7) = (Z : Int) := by
     rw [hZ, Nat.mul_comm p 7, show ((2 : Int) ^ (7 * p)) = ((128 ^ p : Nat) : Int) by rw [Int.natCast_pow, Int.pow_mul]; rfl]
     simp
    obtain ⟨N, hN⟩ : ∃ N, N = a + Z := ⟨_, rfl⟩
    have hNi : (a : Int) + (Z : Int) = (N : Int) := by omega
    have hNb : N < 128 ^ (p + 1) := by rw [Nat.pow_succ]; omega
    have hNs : N < 4398046511104 * 128 := by omega
    have hZs : Z < 4398046511104 * 128 := by omega
    have HNv : Hid (N = a + (d.toNat % 128) * 128 ^ p) := by unfold Hid; rw [hN, hZ]
    have HNb := Lib.hid hNb
    clear hZ hZb hpw hN hNb
    go_wp2_with fail
    with_reducible refine HTk.out.mono ?_
    rintro e w2 ⟨rfl, hg2, hm2⟩
    have HG2 := Lib.hid (HG1.out.trans hg2)
    have HB2 := Lib.hid (below_base HBw.out HS.out.base hg2)
    have HM2 := Lib.hid hm2
    have HA2 : Hid (At w2 R b off cap l (l.drop (k + 1))) := ⟨k + 1, hkl, hm2, rfl⟩
    have hcell : w2.cell? ⟨b, off + k, none⟩ = some (.int .u8 (d.toNat : Int)) := (HB2.out.cell (p := ⟨b, off + k, none⟩) HS.out.bl).trans HC0.out
    have HF := Lib.hid (fun e => fault_any R _ (k + 1) e _ HM2.out)
    clear hg2 hm2 HTk
    by_cases h128 : 128 ≤ d.toNat
    ·have hi : (128 : Int) ≤ (d.toNat : Int) := by omega
     have HQ2 : Hid (q = numL (6 - p) (p + 1) N (l.drop (k + 1))) := by
      unfold Hid
      rw [HQ.out, HQ1.out, HD.out]
      show (if 128 ≤ d.toNat then _ else _) = _
      rw [if_pos h128, ← HNv.out]
     clear HF
     go_wp2_with fail
     (try simp only [Exit.noGoto_normal, Exit.inBlock, Exit.then])
     go_roundg (7 - (p + 1))
     case measure => omega
     case rel => exact ⟨p + 1, N, _, by omega, HNb.out, rfl, by go_num, by go_num, HA2.out, HG2.out, by rw [show 7 - (p + 1) = 6 - p by omega]; exact HQ2.out⟩
    ·have hi : ¬ (128 : Int) ≤ (d.toNat : Int) := by omega
     have HQ2 : Hid (q = if 1099511627776 ≤ N ∨ (d.toNat = 0 ∧ 0 < p) then .no 11 else .ok N (l.drop (k + 1))) := by
      unfold Hid
      rw [HQ.out, HQ1.out, HD.out]
      show (if 128 ≤ d.toNat then _ else _) = _
      rw [if_neg h128, ← HNv.out]
     by_cases hbig2 : 1099511627776 ≤ N
     ·have hbi : (1099511627776 : Int) ≤ (N : Int) := by omega
      have HQ3 : Hid (q = .no 11) := by unfold Hid; rw [HQ2.out, if_pos (.inl hbig2)]
      clear HQ2
      go_wp2_with fail
      with_reducible refine (HF.out 11).mono ?_
      rintro e w3 ⟨rfl, rfl⟩
      go_wp2_with fail
      (try simp only [Exit.noGoto_normal, Exit.inBlock, Exit.then])
      go_ret2
      unfold numPost
      rw [HQ3.out]
      exact ⟨HG2.out, k + 1, _, rfl, HA2.out⟩
     ·have hbi : ¬ (1099511627776 : Int) ≤ (N : Int) := by omega
      have hbd : decide ((1099511627776 : Int) ≤ (N : Int)) = false := decide_eq_false hbi
      by_cases hz : d.toNat = 0 ∧ 0 < p
      ·have hz1 : ((d.toNat : Int) == 0) = true := beq_yes (by omega)
       have hz2 : decide ((0 : Int) < (p : Int)) = true := decide_eq_true (by omega)
       have hz3 : (0 : Int) < (p : Int) := by omega
       have HQ3 : Hid (q = .no 11) := by unfold Hid; rw [HQ2.out, if_pos (.inr hz)]
       clear HQ2 hbig2 hbi hz
       go_wp2_with fail
       with_reducible refine (HF.out 11).mono ?_
       rintro e w3 ⟨rfl, rfl⟩
       go_wp2_with fail
       (try simp only [Exit.noGoto_normal, Exit.inBlock, Exit.then])
       go_ret2
       unfold numPost
       rw [HQ3.out]
       exact ⟨HG2.out, k + 1, _, rfl, HA2.out⟩
      ·have HQ3 : Hid (q = .ok N (l.drop (k + 1))) := by unfold Hid; rw [HQ2.out, if_neg (fun h => h.elim hbig2 hz)]
       clear HQ2 hbig2 hbi
       by_cases hz0 : d.toNat = 0
       ·have hz1 : ((d.toNat : Int) == 0) = true := beq_yes (by omega)
        have hz2 : decide ((0 : Int) < (p : Int)) = false := decide_eq_false (by omega)
        have hz3 : ¬ (0 : Int) < (p : Int) := by omega
        clear hz hz0
        go_wp2_with fail
        (try simp only [Exit.noGoto_normal, Exit.inBlock, Exit.then])
        go_ret2
        unfold numPost
        rw [HQ3.out]
        exact ⟨HG2.out, rfl, HA2.out⟩
       ·have hz1 : ((d.toNat : Int) == 0) = false := beq_no (by omega)
        clear hz hz0
        go_wp2_with fail
        (try simp only [Exit.noGoto_normal, Exit.inBlock, Exit.then])
        go_ret2
        unfold numPost
        rw [HQ3.out]
        exact ⟨HG2.out, rfl, HA2.out⟩
   ·have HE : Hid (s1 = []) := by unfold Hid; rw [Hs.out]; exact List.drop_eq_nil_of_le (by omega)
    have HQ3 : Hid (q = .no 10) := by
     unfold Hid
     rw [HQ.out, HQ1.out, HE.out]
     rfl
    have HTk := Lib.hid (take_no R (some ⟨b, off, none⟩) l.length cap k 1 wr HM1.out (by omega) hk (by omega))
    have hone : ((1 : Nat) : Int) = 1 := rfl
    rw [hone] at HTk
    clear hone
    go_wp2_with fail
    with_reducible refine HTk.out.mono ?_
    rintro e w2 ⟨rfl, hg2, hm2⟩
    have HG2 := Lib.hid (HG1.out.trans hg2)
    have HA2 : Hid (At w2 R b off cap l (l.drop k)) := ⟨k, hk, hm2, rfl⟩
    clear hg2 hm2 HTk
    unfold fltV
    go_wp2_with fail
    (try simp only [Exit.noGoto_normal, Exit.inBlock, Exit.then])
    go_ret2
    unfold numPost
    rw [HQ3.out]
    exact ⟨HG2.out, k, _, rfl, HA2.out⟩
  ·obtain rfl : p = 7 := by omega
   have HQ3 : Hid (q = .no 11) := HQ.out
   obtain ⟨k, hk, hm, hs1⟩ := HA1.out
   have HA2 : Hid (At wr R b off cap l s1) := HA1.out
   have HF := Lib.hid (fun e => fault_any R _ k e _ hm)
   clear hm hs1
   go_wp2_with fail
   with_reducible refine (HF.out 11).mono ?_
   rintro e w3 ⟨rfl, rfl⟩
   go_wp2_with fail
   (try simp only [Exit.noGoto_normal, Exit.inBlock, Exit.then])
   go_ret2
   unfold numPost
   rw [HQ3.out]
   exact ⟨HG1.out, k, _, rfl, HA2.out⟩
def atP (m : Nat) (s : List UInt8) : Rs Nat := (numP s).bind fun n r => if m < n then .no 11 else .ok n r
def spanP (f : Nat) (s : List UInt8) : Rs Sp := (numP s).bind fun n r => .ok (f, f + n) r
def apartP (f : Nat) (s : List UInt8) : Rs Sp := (numP s).bind fun x r => (numP r).bind fun y r => .ok (f + x, f + x + y) r
def spanPost (R b off cap : Nat) (l : List UInt8) (q : Rs Sp) (w : World) (e : Ending) (w' : World) : Prop :=
 Gr R w w' ∧ match q with
  | .ok v r => e = .returned (.tuple #[.agg #[.int .i64 (v.1 : Int), .int .i64 (v.2 : Int)], .nilIface]) ∧ At w' R b off cap l r
  | .no x => ∃ (z : Nat) (r : List UInt8) (u1 u2 : Int), e = .returned (.tuple #[.agg #[.int .i64 u1, .int .i64 u2], fltV (z : Int) (x : Int)]) ∧ At w' R b off cap l r
theorem numP_lt {s r : List UInt8} {n : Nat} (h : numP s = .ok n r) : n < 1099511627776 := (numP_inv h).2
set_option maxRecDepth 100000 in
set_option maxHeartbeats 4000000 in
theorem recAtMost_any (w0 : World) (R b off cap : Nat) (l : List UInt8) (hS : Src w0 R b off cap l) (s : List UInt8) (w : World) (hw : Below w0.heap.size w0 w) (hat : At w R b off cap l s) (m : Nat) (_ : m ≤ 1000) :
  Calls Tryz.prog 70 #[.pointer (some ⟨R, 0, none⟩), .int .i64 (m : Int)] w (numPost R b off cap l (atP m s) w) := by
 have HN := Lib.hid (recNumber_any w0 R b off cap l hS s w hw hat)
 have HQ : Hid (atP m s = (numP s).bind fun n r => if m < n then .no 11 else .ok n r) := rfl
 obtain ⟨q, hq⟩ : ∃ q, q = atP m s := ⟨_, rfl⟩
 rw [← hq] at HQ ⊢
 clear hq hat hw hS
 unfold numPost at HN
 cases hn : numP s with
 | no x =>
  rw [hn] at HN HQ
  have HQ3 : Hid (q = .no x) := HQ.out
  clear HQ hn
  go_enter Tryz.func70, Tryz.ntmps70
  go_wp2_with fail
  with_reducible refine HN.out.mono ?_
  rintro e w1 ⟨hg, z, r, rfl, ha⟩
  have HG := Lib.hid hg
  have HA := Lib.hid ha
  clear hg ha
  unfold fltV
  go_wp2_with fail
  go_ret2
  unfold numPost
  rw [HQ3.out]
  exact ⟨HG.out, z, r, rfl, HA.out⟩
 | ok n r =>
  have hnb := numP_lt hn
  rw [hn] at HN HQ
  have HQ2 : Hid (q = if m < n then .no 11 else .ok n r) := HQ.out
  clear HQ hn
  by_cases hmn : m < n
  ·have HQ3 : Hid (q = .no 11) := by unfold Hid; rw [HQ2.out, if_pos hmn]
   have hd : (m : Int) < (n : Int) := by omega
   have hdd : decide ((m : Int) < (n : Int)) = true := decide_eq_true hd
   have hd2 : decide (m < n) = true := decide_eq_true hmn
   clear HQ2
   go_enter Tryz.func70, Tryz.ntmps70
   go_wp2_with fail
   with_reducible refine HN.out.mono ?_
   rintro e w1 ⟨hg, rfl, k, hk, hm, hs⟩
   have HG := Lib.hid hg
   have HA : Hid (At w1 R b off cap l r) := ⟨k, hk, hm, hs⟩
   have HF := Lib.hid (fault_any R _ k 11 _ hm)
   clear hg hk hm hs
   go_wp2_with fail
   with_reducible refine HF.out.mono ?_
   rintro e w2 ⟨rfl, rfl⟩
   go_wp2_with fail
   go_ret2
   unfold numPost
   rw [HQ3.out]
   exact ⟨HG.out, k, r, rfl, HA.out⟩
  ·have HQ3 : Hid (q = .ok n r) := by unfold Hid; rw [HQ2.out, if_neg hmn]
   have hd : ¬ (m : Int) < (n : Int) := by omega
   have hdd : decide ((m : Int) < (n : Int)) = false := decide_eq_false hd
   have hd2 : decide (m < n) = false := decide_eq_false hmn
   clear HQ2
   go_enter Tryz.func70, Tryz.ntmps70
   go_wp2_with fail
   with_reducible refine HN.out.mono ?_
   rintro e w1 ⟨hg, rfl, ha⟩
   have HG := Lib.hid hg
   have HA := Lib.hid ha
   clear hg ha
   go_wp2_with fail
   go_ret2
   unfold numPost
   rw [HQ3.out]
   exact ⟨HG.out, rfl, HA.out⟩
theorem gr_below' {R : Nat} {w w' : World} (h : Below w.heap.size w w') : Gr R w w' := (Gr.refl R w).below h
theorem gr_alloc {R : Nat} {w w' : World} (h : Gr R w w') (o : Obj) : Gr R w (w'.alloc o) := h.below ((Below.refl _ _).alloc (Nat.le_refl _) o)
theorem box2_ret {w : World} {B : Nat} {t : TypeId} {x y : Int} {u v : Value} {fr : Nat × Nat} (h : w.heap[B]? = some (.cells #[u, v] t fr)) : ((w.setCell ⟨B, 0, none⟩ (.int .i64 x)).setCell ⟨B, 1, none⟩ (.int .i64 y)).heap[B]? = some (.cells #[.int .i64 x, .int .i64 y] t fr) := by
 have h0 : (w.setCell ⟨B, 0, none⟩ (.int .i64 x)).heap[B]? = some (.cells #[.int .i64 x, v] t fr) := row_set h
 exact row_set h0
theorem cells_of_heap2 {w : World} {B : Nat} {t : TypeId} {u v : Value} {fr : Nat × Nat} (h : w.heap[B]? = some (.cells #[u, v] t fr)) : w.cell? ⟨B, 0, none⟩ = some u ∧ w.cell? ⟨B, 1, none⟩ = some v := by simp [World.cell?, h]
set_option maxRecDepth 100000 in
set_option maxHeartbeats 4000000 in
theorem recSpan_any (w0 : World) (R b off cap : Nat) (l : List UInt8) (hS : Src w0 R b off cap l) (s : List UInt8) (w : World) (hw : Below w0.heap.size w0 w) (hat : At w R b off cap l s) (f : Nat) (hf : f ≤ 1152921504606846976) :
  Calls Tryz.prog 71 #[.pointer (some ⟨R, 0, none⟩), .int .i64 (f : Int)] w (spanPost R b off cap l (spanP f s) w) := by
 have hR := hat.lt
 obtain ⟨X, hX⟩ : ∃ X, X = w.alloc (.cells #[.int .i64 0, .int .i64 0] 27) := ⟨_, rfl⟩
 have HB : Hid (Below w.heap.size w X) := by rw [hX]; exact (Below.refl _ _).alloc (Nat.le_refl _) _
 have HO : Hid (X.heap[w.heap.size]? = some (.cells #[.int .i64 0, .int .i64 0] 27 (0, 0))) := by rw [hX]; exact heap_alloc_new w _
 have HN := Lib.hid (recNumber_any w0 R b off cap l hS s X (hw.trans (HB.out.mono hw.size)) (hat.below HB.out))
 have HQ : Hid (spanP f s = (numP s).bind fun n r => .ok (f, f + n) r) := rfl
 obtain ⟨q, hq⟩ : ∃ q, q = spanP f s := ⟨_, rfl⟩
 rw [← hq] at HQ ⊢
 have HR := Lib.hid hR
 clear hq hat hw hS
 unfold numPost at HN
 cases hn : numP s with
 | no x =>
  rw [hn] at HN HQ
  have HQ3 : Hid (q = .no x) := HQ.out
  clear HQ hn
  go_enter Tryz.func71, Tryz.ntmps71
  go_wp2_with fail
  rw [← hX]
  with_reducible refine HN.out.mono ?_
  rintro e w1 ⟨hg, z, r, rfl, ha⟩
  have HG := Lib.hid ((gr_below' HB.out).trans hg)
  have ho := (hg.block w.heap.size (by have := HO.out; exact (Array.getElem?_eq_some_iff.1 this).1) (by intro e; have := Option.some.inj e; omega)).trans HO.out
  have HP := Lib.hid ho
  have HA := Lib.hid ha
  have c0 : w1.cell? ⟨w.heap.size, 0, none⟩ = some (.int .i64 0) := by simp [World.cell?, ho]
  have c1 : w1.cell? ⟨w.heap.size, 1, none⟩ = some (.int .i64 0) := by simp [World.cell?, ho]
  have f0 : w1.frozen? ⟨w.heap.size, 0, none⟩ = false := by simp [World.frozen?, ho]
  have f1 : w1.frozen? ⟨w.heap.size, 1, none⟩ = false := by simp [World.frozen?, ho]
  clear hg ha ho hX
  unfold fltV
  go_wp2_with fail
  (try simp only [Exit.inBlock, Exit.then])
  have h9 := box2_ret (x := (f : Int)) (y := (f : Int)) HP.out
  have g0 := cells_of_heap2 h9
  refine bodyPost_ret (v := .tuple #[.agg #[.int .i64 (f : Int), .int .i64 (f : Int)], .iface 117 (.agg #[.int .i64 (z : Int), .iface 32 (.int .i64 (x : Int))])]) (by simp [results, Tryz.results71, go_sem, g0.1, g0.2]) rfl ?_
  unfold spanPost
  rw [HQ3.out]
  refine ⟨gr_set (gr_set HG.out (p := ⟨w.heap.size, 0, none⟩) (Nat.le_refl _) _) (p := ⟨w.heap.size, 1, none⟩) (Nat.le_refl _) _, z, r, _, _, rfl, HA.out.block ?_⟩
  rw [Below.heap_setCell _ _ _ _ (by simp; omega), Below.heap_setCell _ _ _ _ (by simp; omega)]
 | ok n r =>
  have hnb := numP_lt hn
  rw [hn] at HN HQ
  have HQ3 : Hid (q = .ok (f, f + n) r) := HQ.out
  obtain ⟨y, hy⟩ : ∃ y, y = f + n := ⟨_, rfl⟩
  have hyi : (f : Int) + (n : Int) = (y : Int) := by omega
  rw [← hy] at HQ3
  have hyb : y ≤ 1152921504606846976 + 1099511627776 := by omega
  clear HQ hn hy
  go_enter Tryz.func71, Tryz.ntmps71
  go_wp2_with fail
  rw [← hX]
  with_reducible refine HN.out.mono ?_
  rintro e w1 ⟨hg, rfl, ha⟩
  have HG := Lib.hid ((gr_below' HB.out).trans hg)
  have ho := (hg.block w.heap.size (by have := HO.out; exact (Array.getElem?_eq_some_iff.1 this).1) (by intro e; have := Option.some.inj e; omega)).trans HO.out
  have HP := Lib.hid ho
  have HA := Lib.hid ha
  have c0 : w1.cell? ⟨w.heap.size, 0, none⟩ = some (.int .i64 0) := by simp [World.cell?, ho]
  have c1 : w1.cell? ⟨w.heap.size, 1, none⟩ = some (.int .i64 0) := by simp [World.cell?, ho]
  have f0 : w1.frozen? ⟨w.heap.size, 0, none⟩ = false := by simp [World.frozen?, ho]
  have f1 : w1.frozen? ⟨w.heap.size, 1, none⟩ = false := by simp [World.frozen?, ho]
  clear hg ha ho hX
  go_wp2_with fail
  (try simp only [Exit.inBlock, Exit.then])
  have h9 := box2_ret (x := (f : Int)) (y := (y : Int)) HP.out
  have g0 := cells_of_heap2 h9
  refine bodyPost_ret (v := .tuple #[.agg #[.int .i64 (f : Int), .int .i64 (y : Int)], .nilIface]) (by simp [results, Tryz.results71, go_sem, g0.1, g0.2]) rfl ?_
  unfold spanPost
  rw [HQ3.out]
  refine ⟨gr_set (gr_set HG.out (p := ⟨w.heap.size, 0, none⟩) (Nat.le_refl _) _) (p := ⟨w.heap.size, 1, none⟩) (Nat.le_refl _) _, rfl, HA.out.block ?_⟩
  rw [Below.heap_setCell _ _ _ _ (by simp; omega), Below.heap_setCell _ _ _ _ (by simp; omega)]
theorem apartP_eq (f : Nat) (s : List UInt8) : apartP f s = (spanP f s).bind fun v r => spanP v.2 r := by
 unfold apartP spanP
 cases numP s with
 | no e => rfl
 | ok n r => rfl
theorem spanP_ok {f : Nat} {s r : List UInt8} {v : Sp} (h : spanP f s = .ok v r) : v.1 = f ∧ f ≤ v.2 ∧ v.2 < f + 1099511627776 := by
 unfold spanP at h
 obtain ⟨n, r', h1, h2⟩ := bind_ok h
 have := numP_lt h1
 cases h2
 refine ⟨rfl, ?_, ?_⟩ <;> simp only <;> omega
set_option maxRecDepth 100000 in
set_option maxHeartbeats 4000000 in
theorem recApart_any (w0 : World) (R b off cap : Nat) (l : List UInt8) (hS : Src w0 R b off cap l) (s : List UInt8) (w : World) (hw : Below w0.heap.size w0 w) (hat : At w R b off cap l s) (f : Nat) (hf : f ≤ 576460752303423488) :
  Calls Tryz.prog 101 #[.pointer (some ⟨R, 0, none⟩), .int .i64 (f : Int)] w (spanPost R b off cap l (apartP f s) w) := by
 have hR := hat.lt
 obtain ⟨X, hX⟩ : ∃ X, X = w.alloc (.cells #[.int .i64 0, .int .i64 0] 27) := ⟨_, rfl⟩
 have HB : Hid (Below w.heap.size w X) := by rw [hX]; exact (Below.refl _ _).alloc (Nat.le_refl _) _
 have HO : Hid (X.heap[w.heap.size]? = some (.cells #[.int .i64 0, .int .i64 0] 27 (0, 0))) := by rw [hX]; exact heap_alloc_new w _
 have hwX := hw.trans (HB.out.mono hw.size)
 have HN := Lib.hid (recSpan_any w0 R b off cap l hS s X hwX (hat.below HB.out) f (by omega))
 have HN2 := Lib.hid (fun s' W' f' (hW' : Gr R X W') hat' hf' => recSpan_any w0 R b off cap l hS s' W' (below_base hwX hS.base hW') hat' f' hf')
 have HQ : Hid (apartP f s = (spanP f s).bind fun v r => spanP v.2 r) := apartP_eq f s
 obtain ⟨q, hq⟩ : ∃ q, q = apartP f s := ⟨_, rfl⟩
 rw [← hq] at HQ ⊢
 clear hq hat hw hS hwX
 unfold spanPost at HN HN2
 cases hn : spanP f s with
 | no x =>
  rw [hn] at HN HQ
  have HQ3 : Hid (q = .no x) := HQ.out
  clear HQ hn HN2
  go_enter Tryz.func101, Tryz.ntmps101
  go_wp2_with fail
  rw [← hX]
  with_reducible refine HN.out.mono ?_
  rintro e w1 ⟨hg, z, r, u1, u2, rfl, ha⟩
  have HG := Lib.hid ((gr_below' HB.out).trans hg)
  have ho := (hg.block w.heap.size (by have := HO.out; exact (Array.getElem?_eq_some_iff.1 this).1) (by intro e; have := Option.some.inj e; omega)).trans HO.out
  have hz1 : w.heap.size < w1.heap.size := (Array.getElem?_eq_some_iff.1 ho).1
  have hoX := (Below.heap_alloc w1 (.cells #[.int .i64 u1, .int .i64 u2] 27) w.heap.size hz1).trans ho
  have haX := ha.below ((Below.refl _ _).alloc (Nat.le_refl _) (.cells #[.int .i64 u1, .int .i64 u2] 27))
  have hgX := gr_alloc HG.out (.cells #[.int .i64 u1, .int .i64 u2] 27)
  clear hg ha ho hX
  go_upto_region 2 with fail
  obtain ⟨X1, hX1⟩ : ∃ X1, X1 = w1.alloc (.cells #[.int .i64 u1, .int .i64 u2] 27) := ⟨_, rfl⟩
  rw [← hX1] at hoX haX hgX ⊢
  have HP := Lib.hid hoX
  have HA := Lib.hid haX
  have HG2 := Lib.hid hgX
  obtain ⟨c0, c1⟩ := cells_of_heap2 hoX
  have f0 : X1.frozen? ⟨w.heap.size, 0, none⟩ = false := by simp [World.frozen?, hoX]
  have f1 : X1.frozen? ⟨w.heap.size, 1, none⟩ = false := by simp [World.frozen?, hoX]
  clear hX1 hoX haX hgX
  unfold fltV
  go_wp2_with fail
  (try simp only [Exit.inBlock, Exit.then])
  have h9 := box2_ret (x := 0) (y := 0) HP.out
  have g0 := cells_of_heap2 h9
  refine bodyPost_ret (v := .tuple #[.agg #[.int .i64 0, .int .i64 0], .iface 117 (.agg #[.int .i64 (z : Int), .iface 32 (.int .i64 (x : Int))])]) (by simp [results, Tryz.results101, go_sem, g0.1, g0.2]) rfl ?_
  unfold spanPost
  rw [HQ3.out]
  refine ⟨gr_set (gr_set HG2.out (p := ⟨w.heap.size, 0, none⟩) (Nat.le_refl _) _) (p := ⟨w.heap.size, 1, none⟩) (Nat.le_refl _) _, z, r, _, _, rfl, HA.out.block ?_⟩
  rw [Below.heap_setCell _ _ _ _ (by simp; omega), Below.heap_setCell _ _ _ _ (by simp; omega)]
 | ok v r =>
  have hnb := spanP_ok hn
  rw [hn] at HN HQ
  obtain ⟨v1, v2⟩ := v
  simp only at HN hnb
  obtain ⟨e1, hn1, hn2⟩ := hnb
  subst e1
  have HQ2 : Hid (q = spanP v2 r) := HQ.out
  clear HQ hn
  have HK : Hid (∀ w1 : World, Gr R X w1 → w1.heap[w.heap.size]? = some (.cells #[.int .i64 0, .int .i64 0] 27 (0, 0))) := fun w1 hg => (hg.block w.heap.size (by have := HO.out; exact (Array.getElem?_eq_some_iff.1 this).1) (by intro e; have := Option.some.inj e; omega)).trans HO.out
  go_enter Tryz.func101, Tryz.ntmps101
  go_wp2_with fail
  rw [← hX]
  with_reducible refine HN.out.mono ?_
  rintro e w1 ⟨hg, rfl, ha⟩
  have hz1 : w.heap.size < w1.heap.size := (Array.getElem?_eq_some_iff.1 (HK.out w1 hg)).1
  have hgX := gr_alloc hg (.cells #[.int .i64 (v1 : Int), .int .i64 (v2 : Int)] 27)
  have HM := Lib.hid (HN2.out r _ v2 hgX (ha.below ((Below.refl _ _).alloc (Nat.le_refl _) (.cells #[.int .i64 (v1 : Int), .int .i64 (v2 : Int)] 27))) (by omega))
  have HGX := Lib.hid hgX
  clear hg ha hX hgX HN HN2
  cases hn : spanP v2 r with
  | no x =>
   rw [hn] at HM HQ2
   clear hn
   go_wp2_with fail
   with_reducible refine HM.out.mono ?_
   rintro e w2 ⟨hg, z, r', u1, u2, rfl, ha⟩
   have HG := Lib.hid ((gr_below' HB.out).trans (HGX.out.trans hg))
   have ho := HK.out w2 (HGX.out.trans hg)
   have HP := Lib.hid ho
   have HA := Lib.hid ha
   obtain ⟨c0, c1⟩ := cells_of_heap2 ho
   have f0 : w2.frozen? ⟨w.heap.size, 0, none⟩ = false := by simp [World.frozen?, ho]
   have f1 : w2.frozen? ⟨w.heap.size, 1, none⟩ = false := by simp [World.frozen?, ho]
   clear hg ha ho
   unfold fltV
   go_wp2_with fail
   (try simp only [Exit.inBlock, Exit.then])
   have h9 := box2_ret (x := u1) (y := u2) HP.out
   have g0 := cells_of_heap2 h9
   refine bodyPost_ret (v := .tuple #[.agg #[.int .i64 u1, .int .i64 u2], .iface 117 (.agg #[.int .i64 (z : Int), .iface 32 (.int .i64 (x : Int))])]) (by simp [results, Tryz.results101, go_sem, g0.1, g0.2]) rfl ?_
   unfold spanPost
   rw [HQ2.out]
   refine ⟨gr_set (gr_set HG.out (p := ⟨w.heap.size, 0, none⟩) (Nat.le_refl _) _) (p := ⟨w.heap.size, 1, none⟩) (Nat.le_refl _) _, z, r', _, _, rfl, HA.out.block ?_⟩
   rw [Below.heap_setCell _ _ _ _ (by simp; omega), Below.heap_setCell _ _ _ _ (by simp; omega)]
  | ok y r' =>
   rw [hn] at HM HQ2
   obtain ⟨y1, y2⟩ := y
   simp only at HM
   clear hn
   go_wp2_with fail
   with_reducible refine HM.out.mono ?_
   rintro e w2 ⟨hg, rfl, ha⟩
   have HG := Lib.hid ((gr_below' HB.out).trans (HGX.out.trans hg))
   have ho := HK.out w2 (HGX.out.trans hg)
   have HP := Lib.hid ho
   have HA := Lib.hid ha
   obtain ⟨c0, c1⟩ := cells_of_heap2 ho
   have f0 : w2.frozen? ⟨w.heap.size, 0, none⟩ = false := by simp [World.frozen?, ho]
   have f1 : w2.frozen? ⟨w.heap.size, 1, none⟩ = false := by simp [World.frozen?, ho]
   clear hg ha ho
   go_wp2_with fail
   (try simp only [Exit.inBlock, Exit.then])
   have h9 := box2_ret (x := (y1 : Int)) (y := (y2 : Int)) HP.out
   have g0 := cells_of_heap2 h9
   refine bodyPost_ret (v := .tuple #[.agg #[.int .i64 (y1 : Int), .int .i64 (y2 : Int)], .nilIface]) (by simp [results, Tryz.results101, go_sem, g0.1, g0.2]) rfl ?_
   unfold spanPost
   rw [HQ2.out]
   refine ⟨gr_set (gr_set HG.out (p := ⟨w.heap.size, 0, none⟩) (Nat.le_refl _) _) (p := ⟨w.heap.size, 1, none⟩) (Nat.le_refl _) _, rfl, HA.out.block ?_⟩
   rw [Below.heap_setCell _ _ _ _ (by simp; omega), Below.heap_setCell _ _ _ _ (by simp; omega)]
end Go.Proofs.YtedminjnnhlknaaGreatDoor
