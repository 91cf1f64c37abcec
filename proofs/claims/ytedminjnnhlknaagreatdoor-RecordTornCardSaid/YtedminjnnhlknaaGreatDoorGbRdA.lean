/- The document's Number (of four bytes) and Sealed. -/
import Derived.Test.YtedminjnnhlknaaGreatDoorGbRcN
import Derived.Test.YtedminjnnhlknaaGreatDoorGbRcJ
namespace Go.Proofs.YtedminjnnhlknaaGreatDoor
open Go Go.RowKit
theorem one_new (W : World) (c : UInt8) (t : TypeId) (fr : Nat × Nat) : (convert 22 9 (.slice (some ⟨W.heap.size, 0, none⟩) 1 1)).run Tryz.prog (W.alloc (.cells #[.int .u8 (c.toNat : Int)] t fr)) = .ok (.string ⟨#[c]⟩) (W.alloc (.cells #[.int .u8 (c.toNat : Int)] t fr)) := by
 have h : bytesArg (W.alloc (.cells #[.int .u8 (c.toNat : Int)] t fr)) (.slice (some ⟨W.heap.size, 0, none⟩) 1 1) [c] := ⟨_, 1, rfl, Nat.le_refl _, by decide, sliceAt_new W t fr _ [c] rfl⟩
 exact bytesArg_string h
theorem sum4_at (N k : Nat) (hk : k < 4) : (sum4 N).take (k + 1) = (sum4 N).take k ++ [UInt8.ofNat (N / 256 ^ k)] := by
 have h : k = 0 ∨ k = 1 ∨ k = 2 ∨ k = 3 := by omega
 rcases h with rfl | rfl | rfl | rfl <;> simp [sum4]
set_option maxRecDepth 100000 in
set_option maxHeartbeats 2000000 in
theorem refNumber4_any (N : Nat) (hN : N < 4294967296) (w : World) :
  Calls Tryz.prog 25 #[.int .u64 (N : Int), .int .i64 4] w fun e w' => ∃ S : ByteArray, e = .returned (.string S) ∧ S.data.toList = sum4 N ∧ Below w.heap.size w w' := by
 go_enter Tryz.func25, Tryz.ntmps25
 go_wp2_with fail
 go_loopg [0, 5, 6] 4 (fun g x0 x5 x6 wr => ∃ (k X : Nat) (S : ByteArray), k ≤ 4 ∧ g = 4 - k ∧ x0 = .int .u64 (X : Int) ∧ x5 = .string S ∧ x6 = .int .i64 (k : Int) ∧ X < 4294967296 ∧ S.size = k ∧ Hid (X = N / 256 ^ k) ∧ Hid (S.data.toList = (sum4 N).take k) ∧ Hid (Below w.heap.size w wr))
 case atStart => exact ⟨0, N, ⟨#[]⟩, by omega, by omega, rfl, rfl, rfl, hN, rfl, by unfold Hid; simp, rfl, Below.refl _ _⟩
 case round =>
  obtain ⟨k, X, S, hk, rfl, rfl, rfl, rfl, hX, hsz, HX, HS, HB⟩ := hrel
  by_cases hlt : k < 4
  ·obtain ⟨c, hc⟩ : ∃ c, c = UInt8.ofNat X := ⟨_, rfl⟩
   have hcn : c.toNat = X % 256 := by rw [hc, UInt8.toNat_ofNat']
   have m1 : (X : Int) % 256 = (c.toNat : Int) := by omega
   have m2 : (X : Int).tmod 256 = (c.toNat : Int) := by rw [Int.tmod_eq_emod_of_nonneg (by omega)]; exact m1
   obtain ⟨Y, hY⟩ : ∃ Y, Y = X / 256 := ⟨_, rfl⟩
   have d1 : (X : Int) / 256 = (Y : Int) := by omega
   have d2 : (X : Int).tdiv 256 = (Y : Int) := by rw [Int.tdiv_eq_ediv_of_nonneg (by omega)]; exact d1
   have hYl : Y < 4294967296 := by omega
   have HY : Hid (Y = N / 256 ^ (k + 1)) := by
    unfold Hid
    rw [hY, HX.out, Nat.pow_succ, Nat.div_div_eq_div_mul]
   have HS2 : Hid ((sum4 N).take (k + 1) = (sum4 N).take k ++ [c]) := by unfold Hid; rw [hc, HX.out]; exact sum4_at N k hlt
   have kc := one_new wr c 5 (0, 0)
   have HCn := Lib.hid hcn
   clear hY hcn hc
   go_wp2_with fail
   go_roundg (4 - (k + 1))
   case measure => omega
   case rel =>
    refine ⟨k + 1, Y, S ++ ⟨#[c]⟩, by omega, rfl, rfl, rfl, by go_num, hYl, ?_, HY, ?_, ?_⟩
    ·rw [ByteArray.size_append, hsz]; rfl
    ·unfold Hid; rw [HS2.out, cat_toList, HS.out]
    ·exact HB.out.alloc HB.out.size _
  ·obtain rfl : k = 4 := by omega
   go_wp2_with fail
   go_ret
   exact ⟨S, rfl, HS.out, HB.out⟩
set_option maxHeartbeats 1000000 in
theorem refSeal_any (S : ByteArray) (w : World) (hS : S.size ≤ 1000000) :
  Calls Tryz.prog 13 #[.string S] w fun e w' => ∃ R : ByteArray, e = .returned (.string R) ∧ R.data.toList = sealL S.data.toList ∧ Below w.heap.size w w' := by
 have HO := Lib.hid (refOf_any S w hS)
 obtain ⟨c, hc⟩ : ∃ c, c = moreS 0 S.data.toList := ⟨_, rfl⟩
 have hcl : c < 4294967296 := by rw [hc]; exact moreS_lt _ _
 have HN := Lib.hid (refNumber4_any c hcl w)
 rw [← hc] at HO
 have HC : Hid (crcN S.data.toList = c) := hc.symm
 clear hc
 go_enter Tryz.func13, Tryz.ntmps13
 go_wp2_with fail
 with_reducible refine (HO.out).mono ?_
 rintro e w1 ⟨rfl, rfl⟩
 go_wp2_with fail
 with_reducible refine (HN.out).mono ?_
 rintro e w2 ⟨R, rfl, hR, hb⟩
 have HR : Hid ((S ++ R).data.toList = sealL S.data.toList) := by unfold Hid sealL; rw [cat_toList, hR, HC.out]
 have HB := Lib.hid hb
 have hsz : R.size = 4 := by rw [bytes_len, hR]; rfl
 clear hb hR
 go_wp2_with fail
 go_ret
 exact ⟨_, rfl, HR.out, HB.out⟩
end Go.Proofs.YtedminjnnhlknaaGreatDoor
