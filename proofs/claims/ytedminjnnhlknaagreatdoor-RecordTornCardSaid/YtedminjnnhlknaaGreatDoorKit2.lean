/- More small laws of my own, of no function: slices of bytes, rows that the call owns, bits of 32 and 8. -/
import Derived.Test.YtedminjnnhlknaaGreatDoorRow
import Derived.Laws.BitsAllLaws
import Derived.Laws.BitsLemmas
namespace Go.Proofs.YtedminjnnhlknaaGreatDoor
open Go Go.RowKit
def byteN (n : Nat) : UInt8 := UInt8.ofNat n
theorem byteN_toNat (n : Nat) (h : n < 256) : (byteN n).toNat = n := by unfold byteN; rw [UInt8.toNat_ofNat']; omega
theorem toNat_eq {a b : UInt8} (h : a.toNat = b.toNat) : a = b := UInt8.toNat_inj.1 h
def sliceAt (W : World) (ao : Option Addr) (l : List UInt8) : Prop :=
 l = [] ∨ ∃ b off, ao = some ⟨b, off, none⟩ ∧ b < W.heap.size ∧ ∀ j, (h : j < l.length) → W.cell? ⟨b, off + j, none⟩ = some (byteV l[j])
theorem sliceAt.arg {W : World} {ao : Option Addr} {cap : Nat} {l : List UInt8} (h : sliceAt W ao l) (h1 : l.length ≤ cap) (h2 : cap ≤ maxLen) : bytesArg W (.slice ao l.length cap) l := ⟨ao, cap, rfl, h1, h2, h⟩
theorem sliceAt.below {W W' : World} {ao : Option Addr} {l : List UInt8} (h : sliceAt W ao l) (hb : Below W.heap.size W W') : sliceAt W' ao l := by
 rcases h with h | ⟨b, off, e, hlt, hc⟩
 ·exact .inl h
 ·exact .inr ⟨b, off, e, Nat.lt_of_lt_of_le hlt hb.size, fun j hj => (hb.cell (p := ⟨b, off + j, none⟩) hlt).trans (hc j hj)⟩
theorem bytesArg.below {W W' : World} {v : Value} {l : List UInt8} (h : bytesArg W v l) (hb : Below W.heap.size W W') : bytesArg W' v l := by
 obtain ⟨ao, cap, rfl, h1, h2, h3⟩ := h
 exact ⟨ao, cap, rfl, h1, h2, sliceAt.below h3 hb⟩
theorem bytesArg_owned {w : World} {base n : Nat} {v : Value} {l : List UInt8} {e : TypeId} (h : w.ownsRow base e 1 v n (l.map byteV)) : bytesArg w v l := by
 have h1 := h.1
 have hn : n = l.length := by simpa using h1.symm
 subst hn
 by_cases h0 : l.length = 0
 ·have : l = [] := List.eq_nil_of_length_eq_zero h0
  subst this
  rcases h.2 with ⟨rfl, _⟩ | ⟨g, cap, cur, rfl, _, _, hc, hm, _⟩
  ·exact ⟨none, 0, rfl, Nat.le_refl _, Nat.zero_le _, .inl rfl⟩
  ·exact ⟨_, cap, rfl, hc, hm, .inl rfl⟩
 ·obtain ⟨g, cap, rfl, hc, hm, _, hg⟩ := ownsRow_slice h (by omega)
  refine ⟨_, cap, rfl, hc, hm, .inr ⟨g, 0, rfl, hg, fun j hj => ?_⟩⟩
  have := (rowAt_owned h).cell j (by simpa using hj)
  rw [Nat.zero_add, this]
  simp
theorem sliceAt.take {W : World} {ao : Option Addr} {l : List UInt8} (h : sliceAt W ao l) (k : Nat) : sliceAt W ao (l.take k) := by
 rcases h with rfl | ⟨b, off, e, hlt, hc⟩
 ·exact .inl (by simp)
 ·refine .inr ⟨b, off, e, hlt, fun j hj => ?_⟩
  simp only [List.length_take] at hj
  rw [hc j (by omega)]
  simp
theorem sliceAt.drop {W : World} {b off k : Nat} {l : List UInt8} (h : sliceAt W (some ⟨b, off, none⟩) l) : sliceAt W (some ⟨b, off + k, none⟩) (l.drop k) := by
 rcases h with rfl | ⟨b', off', e, hlt, hc⟩
 ·exact .inl (by simp)
 ·cases e
  refine .inr ⟨b, off + k, rfl, hlt, fun j hj => ?_⟩
  simp only [List.length_drop] at hj
  rw [Nat.add_assoc, hc (k + j) (by omega)]
  simp
theorem or_u32 (x y : Nat) (hx : x < 4294967296) (hy : y < 4294967296) : bits .or .u32 (x : Int) (y : Int) = ((x ||| y : Nat) : Int) := by
 have h := Nat.or_lt_two_pow (n := 32) hx hy
 show IntKind.u32.wrap ((BitVec.ofInt 32 (x : Int) ||| BitVec.ofInt 32 (y : Int)).toNat : Int) = _
 rw [BitVec.toNat_or, BitVec.ofInt_natCast, BitVec.ofInt_natCast, BitVec.toNat_ofNat, BitVec.toNat_ofNat, Nat.mod_eq_of_lt hx, Nat.mod_eq_of_lt hy]
 show ((x ||| y : Nat) : Int) % 4294967296 = _
 omega
theorem and_u32 (x y : Nat) (hx : x < 4294967296) (hy : y < 4294967296) : bits .and .u32 (x : Int) (y : Int) = ((x &&& y : Nat) : Int) := by
 have h : x &&& y < 2 ^ 32 := Nat.and_lt_two_pow _ hy
 show IntKind.u32.wrap ((BitVec.ofInt 32 (x : Int) &&& BitVec.ofInt 32 (y : Int)).toNat : Int) = _
 rw [BitVec.toNat_and, BitVec.ofInt_natCast, BitVec.ofInt_natCast, BitVec.toNat_ofNat, BitVec.toNat_ofNat, Nat.mod_eq_of_lt hx, Nat.mod_eq_of_lt hy]
 show ((x &&& y : Nat) : Int) % 4294967296 = _
 omega
theorem Tryz.infoB : (Tryz.prog.info? 5).map (fun i => (i.zero, i.size, i.bytes)) = some (some (.int .u8 0), 1, 1) := by kernel_rfl
theorem take_snocL (l : List UInt8) (k : Nat) (h : k < l.length) : l.take (k + 1) = l.take k ++ [l[k]] := List.take_succ_eq_append_getElem h
theorem sliceAt.news {W : World} {b off : Nat} {l : List UInt8} (h : sliceAt W (some ⟨b, off, none⟩) l) : ∀ j u, (l.map byteV)[j]? = some u → W.cell? ((⟨b, off, none⟩ : Addr).add j) = some u := by
 intro j u hu
 rcases h with rfl | ⟨b', off', e, hlt, hc⟩
 ·simp at hu
 ·cases e
  rw [List.getElem?_map, Option.map_eq_some_iff] at hu
  obtain ⟨x, hx, rfl⟩ := hu
  obtain ⟨hj, rfl⟩ := List.getElem?_eq_some_iff.1 hx
  rw [Addr.add_lit]
  exact hc j hj
theorem news_one (l : List UInt8) : ∀ u ∈ l.map byteV, u.oneCell' = true := by
 intro u hu
 obtain ⟨x, _, rfl⟩ := List.mem_map.1 hu
 rfl
theorem cells_two_new (w : World) (t : TypeId) (x y : Value) : ∀ j u, [x, y][j]? = some u → (w.alloc (.cells #[x, y] t)).cell? ((⟨w.heap.size, 0, none⟩ : Addr).add j) = some u := by
 intro j u hu
 rw [Addr.add_lit]
 match j, hu with
 | 0, hu => simp only [World.cell?, heap_alloc_new]; simpa using hu
 | 1, hu => simp only [World.cell?, heap_alloc_new]; simpa using hu
 | j + 2, hu => simp at hu
theorem own_cast {w : World} {base n n' : Nat} {e : TypeId} {v : Value} {xs ys : List Value} (h : w.ownsRow base e 1 v n xs) (h1 : n = n') (h2 : xs = ys) : w.ownsRow base e 1 v n' ys := by subst h1 h2; exact h
theorem cells_four_new (w : World) (t : TypeId) (x y z u : Value) : ∀ j q, [x, y, z, u][j]? = some q → (w.alloc (.cells #[x, y, z, u] t)).cell? ((⟨w.heap.size, 0, none⟩ : Addr).add j) = some q := by
 intro j q hu
 rw [Addr.add_lit]
 match j, hu with
 | 0, hu => simp only [World.cell?, heap_alloc_new]; simpa using hu
 | 1, hu => simp only [World.cell?, heap_alloc_new]; simpa using hu
 | 2, hu => simp only [World.cell?, heap_alloc_new]; simpa using hu
 | 3, hu => simp only [World.cell?, heap_alloc_new]; simpa using hu
 | j + 4, hu => simp at hu
theorem cat_toList (a b : ByteArray) : (a ++ b).data.toList = a.data.toList ++ b.data.toList := by
 rw [ByteArray.data_append, Array.toList_append]
theorem sliceAt_new (w : World) (t : TypeId) (fr : Nat × Nat) (cs : Array Value) (l : List UInt8) (h : cs.toList = l.map byteV) : sliceAt (w.alloc (.cells cs t fr)) (some ⟨w.heap.size, 0, none⟩) l := by
 refine .inr ⟨w.heap.size, 0, rfl, by simp, fun j hj => ?_⟩
 simp only [World.cell?, heap_alloc_new]
 have : cs.toList[0 + j]? = some (byteV l[j]) := by rw [h, Nat.zero_add]; simp [hj]
 simpa using this
theorem bytesArg_string {W : World} {v : Value} {l : List UInt8} (h : bytesArg W v l) : (convert 22 9 v).run Tryz.prog W = .ok (.string ⟨l.toArray⟩) W := by
 obtain ⟨ao, cap, rfl, hc, hm, hs⟩ := h
 rcases hs with rfl | ⟨b, off, rfl, hlt, hcell⟩
 ·rcases ao with _ | ad
  ·exact run_convert_bytes_nil W 22 5 Tryz.underlying22 Tryz.underlying5 0 cap 9 Tryz.underlying9
  ·refine run_convert_bytes_back W _ _ 5 ad cap [] Tryz.underlying22 Tryz.underlying5 Tryz.underlying9 fun j hj => ?_
   simp at hj
 ·refine run_convert_bytes_back W _ _ 5 ⟨b, off, none⟩ cap l Tryz.underlying22 Tryz.underlying5 Tryz.underlying9 fun j hj => ?_
  rw [Addr.add_lit]
  exact hcell j hj
theorem sliceAt.cell {W : World} {ao : Option Addr} {l : List UInt8} (h : sliceAt W ao l) (k : Nat) (hk : k < l.length) : ∃ b off, ao = some ⟨b, off, none⟩ ∧ b < W.heap.size ∧ W.cell? ⟨b, off + k, none⟩ = some (.int .u8 (l[k].toNat : Int)) := by
 rcases h with rfl | ⟨b, off, e, hlt, hc⟩
 ·simp at hk
 ·exact ⟨b, off, e, hlt, hc k hk⟩
theorem below_drewN' {w : World} (n : Nat) : Below w.heap.size w (w.drewN n) := ⟨rfl, rfl, rfl, Nat.le_refl _, fun _ _ => rfl⟩
end Go.Proofs.YtedminjnnhlknaaGreatDoor
