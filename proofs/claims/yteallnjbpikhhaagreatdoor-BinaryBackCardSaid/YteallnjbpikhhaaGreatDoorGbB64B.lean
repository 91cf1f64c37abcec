/- Contracts of package b64: four letters. -/
import Derived.Test.YteallnjbpikhhaaGreatDoorProg
import Derived.Test.YteallnjbpikhhaaGreatDoorGbQpM
import Derived.LoopN
import Derived.Outline
import Derived.Test.YteallnjbpikhhaaGreatDoorRow
import Derived.Laws.BitsAllLaws
import Derived.Laws.BitsLemmas
namespace Go.Proofs.YteallnjbpikhhaaGreatDoor
open Go Go.RowKit

def letA : Array Value := (tabL.map byteV).toArray
/-- The variable of the letters holds them. -/
def lets (w : World) : Prop := ∃ t fr, w.heap[0]? = some (.cells letA t fr)
theorem letA_at (i : Nat) (h : i < 64) : letA[i]? = some (.int .u8 ((letB i).toNat : Int)) := by
  have h' : i < tabL.length := h
  unfold letA letB
  rw [List.getElem?_toArray, List.getElem?_map, List.getD_eq_getElem?_getD, List.getElem?_eq_getElem h']
  rfl
theorem lets.lt {w : World} (h : lets w) : 0 < w.heap.size := by
  obtain ⟨t, fr, h⟩ := h
  exact (Array.getElem?_eq_some_iff.1 h).1
theorem lets.at {w : World} (h : lets w) (i : Nat) (hi : i < 64) : w.cell? ⟨0, i, none⟩ = some (.int .u8 ((letB i).toNat : Int)) := by
  obtain ⟨t, fr, h⟩ := h
  rw [cell_of_row w _ i _ _ _ h]
  exact letA_at i hi
theorem lets.below {w w' : World} (h : lets w) (hb : Below w.heap.size w w') : lets w' := by
  have hl := h.lt
  obtain ⟨t, fr, h⟩ := h
  exact ⟨t, fr, (hb.block _ hl).trans h⟩

theorem bits1 (a : UInt8) : bits .or .u32 0 ((a.toNat : Int) * 65536) = ((a.toNat * 65536 : Nat) : Int) := by
  have ha := a.toNat_lt
  have := or_i32 (x := 0) (y := (a.toNat : Int) * 65536) 0 (a.toNat * 65536) rfl (by omega) (by omega) (by omega)
  rw [this, Nat.zero_or]
theorem bits2 (a b : UInt8) : bits .or .u32 (bits .or .u32 0 ((a.toNat : Int) * 65536)) ((b.toNat : Int) * 256) = ((a.toNat * 65536 + b.toNat * 256 : Nat) : Int) := by
  have ha := a.toNat_lt
  have hb := b.toNat_lt
  rw [bits1, or_i32 (a.toNat * 65536) (b.toNat * 256) rfl (by omega) (by omega) (by omega)]
  have := or_add 16 a.toNat (b.toNat * 256) (by omega)
  rw [show (65536 : Nat) = 2 ^ 16 from rfl, this]
theorem bits3 (a b c : UInt8) : bits .or .u32 (bits .or .u32 (bits .or .u32 0 ((a.toNat : Int) * 65536)) ((b.toNat : Int) * 256)) (c.toNat : Int) = ((a.toNat * 65536 + b.toNat * 256 + c.toNat : Nat) : Int) := by
  have ha := a.toNat_lt
  have hb := b.toNat_lt
  have hc := c.toNat_lt
  rw [bits2, or_i32 (a.toNat * 65536 + b.toNat * 256) c.toNat rfl rfl (by omega) (by omega)]
  have := or_add 8 (a.toNat * 256 + b.toNat) c.toNat (by omega)
  have e2 : a.toNat * 65536 + b.toNat * 256 = (a.toNat * 256 + b.toNat) * 2 ^ 8 := by omega
  rw [e2, this]
theorem six (N : Nat) (h : N < 16777216) (k : Nat) : bits .and .u32 ((N : Int) / (k : Int)) 63 = ((N / k % 64 : Nat) : Int) := by
  have h1 : N / k ≤ N := Nat.div_le_self N k
  have := and_u32 (N / k) 63 (by omega) (by omega)
  rw [show (63 : Nat) = 2 ^ 6 - 1 from rfl, Nat.and_two_pow_sub_one_eq_mod] at this
  rw [Int.natCast_ediv] at this
  exact this
theorem six0 (N : Nat) (h : N < 16777216) : bits .and .u32 (N : Int) 63 = ((N % 64 : Nat) : Int) := by
  have := six N h 1
  simpa using this

theorem fourOf3 (a b c : UInt8) (bl off cap : Nat) (w : World) (h0 : w.cell? ⟨bl, off, none⟩ = some (.int .u8 (a.toNat : Int))) (h1 : w.cell? ⟨bl, off + 1, none⟩ = some (.int .u8 (b.toNat : Int))) (h2 : w.cell? ⟨bl, off + 2, none⟩ = some (.int .u8 (c.toNat : Int))) 
    (ht : lets w) :
    Calls Tryz.prog 13 #[.slice (some ⟨bl, off, none⟩) 3 cap] w fun e w' => e = .returned (.agg ((encS [a, b, c]).map byteV).toArray) ∧ Below w.heap.size w w' := by
  have hb1 := World.block_lt_of_cell? w _ h0
  have hg := ht.lt
  have ha := a.toNat_lt
  have hb := b.toNat_lt
  have hc := c.toNat_lt
  obtain ⟨N, hN⟩ : ∃ N : Nat, N = a.toNat * 65536 + b.toNat * 256 + c.toNat := ⟨_, rfl⟩
  have hn : N < 16777216 := by omega
  have e3 := bits3 a b c
  rw [← hN] at e3
  obtain ⟨i0, hi0⟩ : ∃ i : Nat, i = N / 262144 % 64 := ⟨_, rfl⟩
  obtain ⟨i1, hi1⟩ : ∃ i : Nat, i = N / 4096 % 64 := ⟨_, rfl⟩
  obtain ⟨i2, hi2⟩ : ∃ i : Nat, i = N / 64 % 64 := ⟨_, rfl⟩
  obtain ⟨i3, hi3⟩ : ∃ i : Nat, i = N % 64 := ⟨_, rfl⟩
  have l0 : i0 < 64 := by omega
  have l1 : i1 < 64 := by omega
  have l2 : i2 < 64 := by omega
  have l3 : i3 < 64 := by omega
  have s0 : bits BinOp.and IntKind.u32 ((N : Int) / 262144) 63 = (i0 : Int) := by rw [hi0]; exact six N hn 262144
  have s1 : bits BinOp.and IntKind.u32 ((N : Int) / 4096) 63 = (i1 : Int) := by rw [hi1]; exact six N hn 4096
  have s2 : bits BinOp.and IntKind.u32 ((N : Int) / 64) 63 = (i2 : Int) := by rw [hi2]; exact six N hn 64
  have s3 : bits BinOp.and IntKind.u32 (N : Int) 63 = (i3 : Int) := by rw [hi3]; exact six0 N hn
  have t0 := ht.at i0 l0
  have t1 := ht.at i1 l1
  have t2 := ht.at i2 l2
  have t3 := ht.at i3 l3
  have HI := Lib.hid (And.intro hi0 (And.intro hi1 (And.intro hi2 hi3)))
  clear hi0 hi1 hi2 hi3
  clear ht
  have HN := Lib.hid hN
  clear hN
  go_enter Tryz.func13, Tryz.ntmps13
  go_wp2
  refine wp_loop_rounds 4 ?_
  rw [rounds_succ]; go_wp2
  rw [rounds_succ]; go_wp2
  rw [rounds_succ]; go_wp2
  rw [rounds_succ]; go_wp2
  refine wp_loop_rounds 5 ?_
  rw [rounds_succ]; go_wp2
  rw [rounds_succ]; go_wp2
  rw [rounds_succ]; go_wp2
  rw [rounds_succ]; go_wp2
  rw [rounds_succ]; go_wp2
  obtain ⟨j0, j1, j2, j3⟩ := HI.out
  have hN := HN.out
  refine bodyPost_ret (v := .agg #[.int .u8 ((letB i0).toNat : Int), .int .u8 ((letB i1).toNat : Int), .int .u8 ((letB i2).toNat : Int), .int .u8 ((letB i3).toNat : Int)]) (by simp [results, Tryz.results13, go_sem]) rfl ⟨?_, ?_⟩
  · congr 1
    simp only [encS, List.map_cons, List.map_nil, byteV]
    rw [show a.toNat / 4 = i0 by omega, show a.toNat % 4 * 16 + b.toNat / 16 = i1 by omega, show b.toNat % 16 * 4 + c.toNat / 64 = i2 by omega, show c.toNat % 64 = i3 by omega]
  · exact ((Below.refl _ _).alloc (Nat.le_refl _) _).alloc (by simp) _
theorem fourOf2 (a b : UInt8) (bl off cap : Nat) (w : World) (h0 : w.cell? ⟨bl, off, none⟩ = some (.int .u8 (a.toNat : Int))) (h1 : w.cell? ⟨bl, off + 1, none⟩ = some (.int .u8 (b.toNat : Int))) 
    (ht : lets w) :
    Calls Tryz.prog 13 #[.slice (some ⟨bl, off, none⟩) 2 cap] w fun e w' => e = .returned (.agg ((encS [a, b]).map byteV).toArray) ∧ Below w.heap.size w w' := by
  have hb1 := World.block_lt_of_cell? w _ h0
  have hg := ht.lt
  have ha := a.toNat_lt
  have hb := b.toNat_lt
  obtain ⟨N, hN⟩ : ∃ N : Nat, N = a.toNat * 65536 + b.toNat * 256 := ⟨_, rfl⟩
  have hn : N < 16777216 := by omega
  have e3 := bits2 a b
  rw [← hN] at e3
  obtain ⟨i0, hi0⟩ : ∃ i : Nat, i = N / 262144 % 64 := ⟨_, rfl⟩
  obtain ⟨i1, hi1⟩ : ∃ i : Nat, i = N / 4096 % 64 := ⟨_, rfl⟩
  obtain ⟨i2, hi2⟩ : ∃ i : Nat, i = N / 64 % 64 := ⟨_, rfl⟩
  have l0 : i0 < 64 := by omega
  have l1 : i1 < 64 := by omega
  have l2 : i2 < 64 := by omega
  have s0 : bits BinOp.and IntKind.u32 ((N : Int) / 262144) 63 = (i0 : Int) := by rw [hi0]; exact six N hn 262144
  have s1 : bits BinOp.and IntKind.u32 ((N : Int) / 4096) 63 = (i1 : Int) := by rw [hi1]; exact six N hn 4096
  have s2 : bits BinOp.and IntKind.u32 ((N : Int) / 64) 63 = (i2 : Int) := by rw [hi2]; exact six N hn 64
  have t0 := ht.at i0 l0
  have t1 := ht.at i1 l1
  have t2 := ht.at i2 l2
  have HI := Lib.hid (And.intro hi0 (And.intro hi1 hi2))
  clear hi0 hi1 hi2
  clear ht
  have HN := Lib.hid hN
  clear hN
  go_enter Tryz.func13, Tryz.ntmps13
  go_wp2
  refine wp_loop_rounds 3 ?_
  rw [rounds_succ]; go_wp2
  rw [rounds_succ]; go_wp2
  rw [rounds_succ]; go_wp2
  refine wp_loop_rounds 4 ?_
  rw [rounds_succ]; go_wp2
  rw [rounds_succ]; go_wp2
  rw [rounds_succ]; go_wp2
  rw [rounds_succ]; go_wp2
  obtain ⟨j0, j1, j2⟩ := HI.out
  have hN := HN.out
  refine bodyPost_ret (v := .agg #[.int .u8 ((letB i0).toNat : Int), .int .u8 ((letB i1).toNat : Int), .int .u8 ((letB i2).toNat : Int), .int .u8 61]) (by simp [results, Tryz.results13, go_sem]) rfl ⟨?_, ?_⟩
  · congr 1
    simp only [encS, List.map_cons, List.map_nil, byteV]
    rw [show a.toNat / 4 = i0 by omega, show a.toNat % 4 * 16 + b.toNat / 16 = i1 by omega, show b.toNat % 16 * 4 = i2 by omega]
    rfl
  · exact ((Below.refl _ _).alloc (Nat.le_refl _) _).alloc (by simp) _
theorem fourOf1 (a : UInt8) (bl off cap : Nat) (w : World) (h0 : w.cell? ⟨bl, off, none⟩ = some (.int .u8 (a.toNat : Int))) 
    (ht : lets w) :
    Calls Tryz.prog 13 #[.slice (some ⟨bl, off, none⟩) 1 cap] w fun e w' => e = .returned (.agg ((encS [a]).map byteV).toArray) ∧ Below w.heap.size w w' := by
  have hb1 := World.block_lt_of_cell? w _ h0
  have hg := ht.lt
  have ha := a.toNat_lt
  obtain ⟨N, hN⟩ : ∃ N : Nat, N = a.toNat * 65536 := ⟨_, rfl⟩
  have hn : N < 16777216 := by omega
  have e3 := bits1 a
  rw [← hN] at e3
  obtain ⟨i0, hi0⟩ : ∃ i : Nat, i = N / 262144 % 64 := ⟨_, rfl⟩
  obtain ⟨i1, hi1⟩ : ∃ i : Nat, i = N / 4096 % 64 := ⟨_, rfl⟩
  have l0 : i0 < 64 := by omega
  have l1 : i1 < 64 := by omega
  have s0 : bits BinOp.and IntKind.u32 ((N : Int) / 262144) 63 = (i0 : Int) := by rw [hi0]; exact six N hn 262144
  have s1 : bits BinOp.and IntKind.u32 ((N : Int) / 4096) 63 = (i1 : Int) := by rw [hi1]; exact six N hn 4096
  have t0 := ht.at i0 l0
  have t1 := ht.at i1 l1
  have HI := Lib.hid (And.intro hi0 hi1)
  clear hi0 hi1
  clear ht
  have HN := Lib.hid hN
  clear hN
  go_enter Tryz.func13, Tryz.ntmps13
  go_wp2
  refine wp_loop_rounds 2 ?_
  rw [rounds_succ]; go_wp2
  rw [rounds_succ]; go_wp2
  refine wp_loop_rounds 3 ?_
  rw [rounds_succ]; go_wp2
  rw [rounds_succ]; go_wp2
  rw [rounds_succ]; go_wp2
  obtain ⟨j0, j1⟩ := HI.out
  have hN := HN.out
  refine bodyPost_ret (v := .agg #[.int .u8 ((letB i0).toNat : Int), .int .u8 ((letB i1).toNat : Int), .int .u8 61, .int .u8 61]) (by simp [results, Tryz.results13, go_sem]) rfl ⟨?_, ?_⟩
  · congr 1
    simp only [encS, List.map_cons, List.map_nil, byteV]
    rw [show a.toNat / 4 = i0 by omega, show a.toNat % 4 * 16 = i1 by omega]
    rfl
  · exact ((Below.refl _ _).alloc (Nat.le_refl _) _).alloc (by simp) _
theorem fourOf_any (v : Value) (l : List UInt8) (w : World) (hv : bytesArg w v l) (h1 : 1 ≤ l.length) (h3 : l.length ≤ 3) (ht : lets w) :
    Calls Tryz.prog 13 #[v] w fun e w' => e = .returned (.agg ((encS l).map byteV).toArray) ∧ Below w.heap.size w w' := by
  obtain ⟨ao, cap, rfl, hc, hm, hs⟩ := hv
  rcases hs with rfl | ⟨b, off, rfl, hlt, hcell⟩
  · simp at h1
  · match l, h1, h3, hcell with
    | [x], _, _, hcell => exact fourOf1 x b off cap w (hcell 0 (by simp)) ht
    | [x, y], _, _, hcell => exact fourOf2 x y b off cap w (hcell 0 (by simp)) (hcell 1 (by simp)) ht
    | [x, y, z], _, _, hcell => exact fourOf3 x y z b off cap w (hcell 0 (by simp)) (hcell 1 (by simp)) (hcell 2 (by simp)) ht
    | _ :: _ :: _ :: _ :: _, _, h3, _ => simp at h3
end Go.Proofs.YteallnjbpikhhaaGreatDoor

/- Contracts of package b64: Bare, lines, Encode. -/
namespace Go.Proofs.YteallnjbpikhhaaGreatDoor
open Go Go.RowKit

theorem bareS_snoc_gap {l : List UInt8} {c : UInt8} (h : isGap c = true) : bareSG (l ++ [c]) = bareSG l := by simp [bareSG, h]
theorem bareS_snoc {l : List UInt8} {c : UInt8} (h : isGap c = false) : bareSG (l ++ [c]) = bareSG l ++ [c] := by simp [bareSG, h]
theorem bareS_len (l : List UInt8) : (bareSG l).length ≤ l.length := List.length_filter_le _ _
theorem gap_of {c : UInt8} {n : Int} (e : ((c.toNat : Int) == n) = true) (h : n = 32 ∨ n = 9 ∨ n = 13 ∨ n = 10) : isGap c = true := by
  have e' : (c.toNat : Int) = n := by simpa using e
  unfold isGap
  have : c = 32 ∨ c = 9 ∨ c = 13 ∨ c = 10 := by
    rcases h with rfl | rfl | rfl | rfl
    · exact .inl (toNat_eq (by show c.toNat = 32; omega))
    · exact .inr (.inl (toNat_eq (by show c.toNat = 9; omega)))
    · exact .inr (.inr (.inl (toNat_eq (by show c.toNat = 13; omega))))
    · exact .inr (.inr (.inr (toNat_eq (by show c.toNat = 10; omega))))
  rcases this with rfl | rfl | rfl | rfl <;> rfl
theorem gap_not {c : UInt8} (h1 : ((c.toNat : Int) == 32) = false) (h2 : ((c.toNat : Int) == 9) = false) (h3 : ((c.toNat : Int) == 13) = false) (h4 : ((c.toNat : Int) == 10) = false) : isGap c = false := by
  simp at h1 h2 h3 h4
  unfold isGap
  have e1 : (c == 32) = false := by rw [beq_eq_false_iff_ne]; rintro rfl; exact h1 rfl
  have e2 : (c == 9) = false := by rw [beq_eq_false_iff_ne]; rintro rfl; exact h2 rfl
  have e3 : (c == 13) = false := by rw [beq_eq_false_iff_ne]; rintro rfl; exact h3 rfl
  have e4 : (c == 10) = false := by rw [beq_eq_false_iff_ne]; rintro rfl; exact h4 rfl
  rw [e1, e2, e3, e4]
  rfl

theorem gap_cases (c : UInt8) :
    (((c.toNat : Int) == 32) = true ∧ Hid (isGap c = true)) ∨
    (((c.toNat : Int) == 32) = false ∧ ((c.toNat : Int) == 9) = true ∧ Hid (isGap c = true)) ∨
    (((c.toNat : Int) == 32) = false ∧ ((c.toNat : Int) == 9) = false ∧ ((c.toNat : Int) == 13) = true ∧ Hid (isGap c = true)) ∨
    (((c.toNat : Int) == 32) = false ∧ ((c.toNat : Int) == 9) = false ∧ ((c.toNat : Int) == 13) = false ∧ ((c.toNat : Int) == 10) = true ∧ Hid (isGap c = true)) ∨
    (((c.toNat : Int) == 32) = false ∧ ((c.toNat : Int) == 9) = false ∧ ((c.toNat : Int) == 13) = false ∧ ((c.toNat : Int) == 10) = false ∧ Hid (isGap c = false)) := by
  rcases Bool.eq_false_or_eq_true ((c.toNat : Int) == 32) with q1 | q1
  · exact .inl ⟨q1, gap_of q1 (by simp)⟩
  rcases Bool.eq_false_or_eq_true ((c.toNat : Int) == 9) with q2 | q2
  · exact .inr (.inl ⟨q1, q2, gap_of q2 (by simp)⟩)
  rcases Bool.eq_false_or_eq_true ((c.toNat : Int) == 13) with q3 | q3
  · exact .inr (.inr (.inl ⟨q1, q2, q3, gap_of q3 (by simp)⟩))
  rcases Bool.eq_false_or_eq_true ((c.toNat : Int) == 10) with q4 | q4
  · exact .inr (.inr (.inr (.inl ⟨q1, q2, q3, q4, gap_of q4 (by simp)⟩)))
  · exact .inr (.inr (.inr (.inr ⟨q1, q2, q3, q4, gap_not q1 q2 q3 q4⟩)))

theorem bare_any (v : Value) (l : List UInt8) (w : World) (hv : bytesArg w v l) (hl : l.length ≤ 1000000) :
    Calls Tryz.prog 76 #[v] w fun e w' => ∃ u, e = .returned u ∧ w'.ownsRow w.heap.size 5 1 u (bareSG l).length ((bareSG l).map byteV) ∧ Below w.heap.size w w' := by
  obtain ⟨i0, hi, hz0, hz1, hz2⟩ := info_parts Tryz.infoB
  obtain ⟨ao, cap, rfl, hc, hm, hs⟩ := hv
  unfold maxLen at hm
  have HS := Lib.hid hs
  clear hs
  go_enter Tryz.func76, Tryz.ntmps76
  go_wp2
  go_loopg [3, 8] l.length (fun g o v wr => ∃ (k : Nat) (r : List UInt8), k ≤ l.length ∧ g = l.length - k ∧ v = .int .i64 k ∧ r.length ≤ k ∧ wr.ownsRow w.heap.size 5 1 o r.length (r.map byteV) ∧ Hid (r = bareSG (l.take k)) ∧ Hid (Below w.heap.size w wr))
  case atStart => exact ⟨0, [], by omega, by omega, rfl, by simp, World.ownsRow_nil _ _ _ _, by unfold Hid; simp [bareSG], Below.refl _ _⟩
  case round =>
    obtain ⟨k, r, hk, rfl, rfl, hr, hown, HR, HB⟩ := hrel
    have HO := Lib.hid hown
    clear hown
    by_cases hlt : k < l.length
    · have HT := Lib.hid (take_snocL l k hlt)
      obtain ⟨c, hcc⟩ : ∃ c, c = l[k] := ⟨_, rfl⟩
      have HC := Lib.hid hcc
      rcases HS.out with h0 | ⟨b, off, rfl, hb, hcell⟩
      · rw [h0] at hlt
        simp at hlt
      have hcell' : wr.cell? ⟨b, off + k, none⟩ = some (.int .u8 (c.toNat : Int)) := by
        rw [hcc]
        exact (HB.out.cell (p := ⟨b, off + k, none⟩) hb).trans (hcell k hlt)
      clear hcell hcc
      rcases gap_cases c with ⟨q1, HG⟩ | ⟨q1, q2, HG⟩ | ⟨q1, q2, q3, HG⟩ | ⟨q1, q2, q3, q4, HG⟩ | ⟨q1, q2, q3, q4, HG⟩
      rotate_left 4
      · go_wp2_with (at_builtin; refine wpList_append_own _ rfl _ _ 22 rfl w.heap.size 5 i0 (.int .u8 0) 1 1 Tryz.underlying22 hi hz0 hz1 hz2 rfl (by decide) _ _ _ rfl (HO.out.alloc _) ⟨wr.heap.size, 0, none⟩ 1 1 [byteV c] rfl rfl ?c1 ?c2 ?c3 ?c4 ?c5 ?_)
        case c1 => exact cell_one_new wr _ _
        case c2 => intro u hu; simp at hu; subst hu; rfl
        case c3 => unfold maxLen; omega
        case c4 => omega
        case c5 => simp; have := HB.out.size; omega
        intro v' w1 hown1 hgrow1 _
        have HO1 := Lib.hid hown1
        have HB1 : Hid (Below w.heap.size w w1) := (HB.out.alloc (by have := HB.out.size; omega) _).grown hgrow1 (by have := HB.out.size; simp; omega) (fun q hq => (HO.out.lt q hq).1)
        clear hown1 hgrow1
        go_wp2
        go_roundg (l.length - (k + 1))
        case measure => omega
        case rel =>
          refine ⟨k + 1, r ++ [c], by omega, rfl, by go_num, by simp; omega, ?_, ?_, HB1⟩
          · have := HO1.out
            simpa using this
          · unfold Hid
            rw [HT.out, ← HC.out, bareS_snoc HG.out, HR.out]
      all_goals
        go_wp2
        go_roundg (l.length - (k + 1))
        case measure => omega
        case rel =>
          refine ⟨k + 1, r, by omega, rfl, by go_num, by omega, HO.out, ?_, HB⟩
          unfold Hid
          rw [HT.out, ← HC.out, bareS_snoc_gap HG.out, HR.out]
    · go_wp2
      go_ret
      refine ⟨_, rfl, ?_, HB.out⟩
      have := HO.out
      rw [HR.out, List.take_of_length_le (by omega)] at this
      exact this
end Go.Proofs.YteallnjbpikhhaaGreatDoor
