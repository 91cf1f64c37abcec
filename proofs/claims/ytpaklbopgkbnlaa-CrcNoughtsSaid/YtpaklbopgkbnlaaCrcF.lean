/- The laws of layer 4 (sums): CrcNoughts. -/
import Derived.Test.YtpaklbopgkbnlaaCrcE
import Derived.OwnWalk
import Derived.Laws.OwnMore
namespace Go.Proofs.Ytpaklbopgkbnlaa
open Go Go.RowKit

def fillL (c : UInt8) (n k : Nat) : List UInt8 := List.replicate k c ++ List.replicate (n - k) 0
theorem fillL_len (c : UInt8) (n k : Nat) (h : k ≤ n) : (fillL c n k).length = n := by simp [fillL]; omega
theorem fillL_zero (c : UInt8) (n : Nat) : fillL c n 0 = List.replicate n 0 := by simp [fillL]
theorem fillL_all (c : UInt8) (n : Nat) : fillL c n n = List.replicate n c := by simp [fillL]
theorem fillL_step (c : UInt8) (n k : Nat) (h : k < n) : fillL c n (k + 1) = (fillL c n k).set k c := by
  unfold fillL
  rw [List.set_append_right _ _ (by simp), List.length_replicate, Nat.sub_self]
  rw [show n - k = (n - (k + 1)) + 1 by omega, List.replicate_succ (n := n - (k + 1)), List.set_cons_zero, List.replicate_succ' (n := k), List.append_assoc]
  rfl

set_option maxRecDepth 100000 in
set_option maxHeartbeats 1000000 in
theorem crcNoughts_any (s : Nat) (c n : UInt8) (w : World) (hs : s ≤ 4294967295) :
    Calls Try.prog 6 #[.int .u32 (s : Int), .int .u8 (c.toNat : Int), .int .u8 (n.toNat : Int)] w fun e w' => e = .returned (.bool true) ∧ Below w.heap.size w w' := by
  obtain ⟨i0, hi, hz0, hz1, hz2⟩ := info_parts Try.infoB
  have hct := c.toNat_lt
  have hnt := n.toNat_lt
  obtain ⟨N, hN⟩ : ∃ N, N = n.toNat := ⟨_, rfl⟩
  rw [← hN] at hnt ⊢
  clear hN
  go_enter Try.func6, Try.ntmps6
  go_wp2_with fail
  refine (awake_any _).mono ?_
  rintro e w1 ⟨rfl, hb1⟩
  have HB1 := Lib.hid hb1; clear hb1
  go_wp2_with (refine wpList_make_full _ rfl _ _ 23 rfl w1.heap.size 5 i0 (.int .u8 0) 1 Try.underlying23 hi hz0 hz1 .i64 .i64 _ _ N rfl rfl rfl rfl ?c1 ?c2 ?c3 ?_)
  case c1 => rw [hz2]; omega
  case c2 => unfold maxLen; omega
  case c3 => exact Nat.le_refl _
  intro w2 hown2 hgrow2
  have HO2 : Hid (w2.ownsRow w1.heap.size 5 1 (.slice (some ⟨w1.heap.size, 0, none⟩) N N) N ((fillL c N 0).map byteV)) := by
    unfold Hid
    rw [toList_madeCells_one] at hown2
    rw [fillL_zero, List.map_replicate]
    exact hown2
  have HB12 : Hid (Below w1.heap.size w1 w2) := (Below.refl _ _).grown hgrow2 (Nat.le_refl _) (fun k hk => by cases hk)
  clear hown2 hgrow2
  go_wp2
  go_loopg [9] N (fun g x9 wr => ∃ k : Nat, k ≤ N ∧ g = N - k ∧ x9 = .int .i64 k ∧ Hid (wr.ownsRow w1.heap.size 5 1 (.slice (some ⟨w1.heap.size, 0, none⟩) N N) N ((fillL c N k).map byteV)) ∧ Hid (Below w1.heap.size w1 wr))
  case atStart => exact ⟨0, by omega, by omega, rfl, HO2.out, HB12.out⟩
  case round =>
    obtain ⟨k, hk, rfl, rfl, HO, HB⟩ := hrel
    by_cases hlt : k < N
    · obtain ⟨x, hcell⟩ : ∃ x, wr.cell? ⟨w1.heap.size, k, none⟩ = some x := by
        refine ⟨_, (HO.out.cellAt k (by omega)).trans (List.getElem?_eq_getElem ?_)⟩
        rw [List.length_map, fillL_len c N k hk]
        exact hlt
      have hfr := HO.out.frozenAt k
      go_wp2
      go_roundg (N - (k + 1))
      case measure => omega
      case rel =>
        refine ⟨k + 1, by omega, rfl, by go_num, ?_, HB.out.setCell (Nat.le_refl _) _⟩
        have := (HO.out.stored k (byteV c)).1
        rw [← List.map_set, ← fillL_step c N k hlt] at this
        exact this
    · obtain rfl : k = N := by omega
      have hA := bytesArg_owned (own_cast HO.out (show k = (fillL c k k).length by rw [fillL_len c k k hk]) rfl)
      obtain ⟨l, hl⟩ : ∃ l, l = fillL c k k := ⟨_, rfl⟩
      have hlk : l.length = k := by rw [hl, fillL_len c k k hk]
      rw [← hl] at hA
      obtain ⟨B, hB⟩ : ∃ B : ByteArray, B = ⟨l.toArray⟩ := ⟨_, rfl⟩
      have hBl : B.size ≤ 65536 := by rw [hB]; show (List.toArray l).size ≤ 65536; simp; omega
      have HBL : Hid (B.data.toList = l) := by unfold Hid; rw [hB]
      have HV : Hid (∀ W', Below wr.heap.size wr W' → bytesArg W' (.slice (some ⟨w1.heap.size, 0, none⟩) k k) l) := fun W' hb => hA.below hb
      have HU : Hid (∀ W', Below wr.heap.size wr W' → (convert 23 9 (.slice (some ⟨w1.heap.size, 0, none⟩) k k)).run Try.prog W' = .ok (.string B) W') := by
        intro W' hb
        rw [hB]
        exact bytesArg_string (hA.below hb)
      obtain ⟨m, hm1⟩ : ∃ m, m = moreS s l := ⟨_, rfl⟩
      have HM := Lib.hid hm1
      have hml : m < 4294967296 := by rw [hm1]; exact moreS_lt _ _
      clear hm1 hB hl hA hlk
      have hB3 : Below wr.heap.size wr wr.drew := (Below.refl _ _).drew
      go_wp2_with fail
      go_region_held (fun W' => (convert 23 9 (.slice (some ⟨w1.heap.size, 0, none⟩) k k)).run Try.prog W' = .ok (.string B) W') (exact HU.out _ (by assumption))
        ((first | (go_at_call 9; refine (more_any s _ l _ (by omega) (HV.out _ (by assumption))).mono ?_; rintro e w4 ⟨rfl, hb4⟩; rw [← HM.out]; have hB4 : Below wr.heap.size wr w4 := hB3.trans (hb4.mono hB3.size)) | (go_at_call 10; refine (refMore_any s B _ (by omega) hBl).mono ?_; rintro e w4' ⟨rfl, rfl⟩; rw [HBL.out, ← HM.out])))
      all_goals
        have HB5 := Lib.hid (HB1.out.trans ((HB.out.trans (hB4.mono HB.out.size)).mono HB1.out.size))
        clear hB4 hB3 hb4
        go_wp2
        go_ret
        exact ⟨rfl, HB5.out⟩
end Go.Proofs.Ytpaklbopgkbnlaa
