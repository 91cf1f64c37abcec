/- More small laws of my own, of no function: slices of bytes, rows that the call owns, bits of 32 and 8. -/
import Derived.Test.YtkkdplccneeaiaaGreatDoorRow
import Derived.Laws.BitsAllLaws
import Derived.Laws.BitsLemmas
namespace Go.Proofs.YtkkdplccneeaiaaGreatDoor
open Go Go.RowKit

def byteN (n : Nat) : UInt8 := UInt8.ofNat n
theorem byteN_toNat (n : Nat) (h : n < 256) : (byteN n).toNat = n := by unfold byteN; rw [UInt8.toNat_ofNat']; omega
theorem toNat_eq {a b : UInt8} (h : a.toNat = b.toNat) : a = b := UInt8.toNat_inj.1 h
/-- The slice's first cells are these bytes. -/
def sliceAt (W : World) (ao : Option Addr) (l : List UInt8) : Prop :=
  l = [] ∨ ∃ b off, ao = some ⟨b, off, none⟩ ∧ b < W.heap.size ∧ ∀ j, (h : j < l.length) → W.cell? ⟨b, off + j, none⟩ = some (byteV l[j])
theorem bytesArg.at {W : World} {v : Value} {l : List UInt8} (h : bytesArg W v l) : ∃ ao cap, v = .slice ao l.length cap ∧ l.length ≤ cap ∧ cap ≤ maxLen ∧ sliceAt W ao l := h
theorem sliceAt.arg {W : World} {ao : Option Addr} {cap : Nat} {l : List UInt8} (h : sliceAt W ao l) (h1 : l.length ≤ cap) (h2 : cap ≤ maxLen) : bytesArg W (.slice ao l.length cap) l := ⟨ao, cap, rfl, h1, h2, h⟩
theorem sliceAt.below {W W' : World} {ao : Option Addr} {l : List UInt8} (h : sliceAt W ao l) (hb : Below W.heap.size W W') : sliceAt W' ao l := by
  rcases h with h | ⟨b, off, e, hlt, hc⟩
  · exact .inl h
  · exact .inr ⟨b, off, e, Nat.lt_of_lt_of_le hlt hb.size, fun j hj => (hb.cell (p := ⟨b, off + j, none⟩) hlt).trans (hc j hj)⟩
theorem bytesArg.below {W W' : World} {v : Value} {l : List UInt8} (h : bytesArg W v l) (hb : Below W.heap.size W W') : bytesArg W' v l := by
  obtain ⟨ao, cap, rfl, h1, h2, h3⟩ := h
  exact ⟨ao, cap, rfl, h1, h2, sliceAt.below h3 hb⟩
theorem bytesArg_owned {w : World} {base n : Nat} {v : Value} {l : List UInt8} {e : TypeId} (h : w.ownsRow base e 1 v n (l.map byteV)) : bytesArg w v l := by
  have h1 := h.1
  have hn : n = l.length := by simpa using h1.symm
  subst hn
  by_cases h0 : l.length = 0
  · have : l = [] := List.eq_nil_of_length_eq_zero h0
    subst this
    rcases h.2 with ⟨rfl, _⟩ | ⟨g, cap, cur, rfl, _, _, hc, hm, _⟩
    · exact ⟨none, 0, rfl, Nat.le_refl _, Nat.zero_le _, .inl rfl⟩
    · exact ⟨_, cap, rfl, hc, hm, .inl rfl⟩
  · obtain ⟨g, cap, rfl, hc, hm, _, hg⟩ := ownsRow_slice h (by omega)
    refine ⟨_, cap, rfl, hc, hm, .inr ⟨g, 0, rfl, hg, fun j hj => ?_⟩⟩
    have := (rowAt_owned h).cell j (by simpa using hj)
    rw [Nat.zero_add, this]
    simp
theorem sliceAt.take {W : World} {ao : Option Addr} {l : List UInt8} (h : sliceAt W ao l) (k : Nat) : sliceAt W ao (l.take k) := by
  rcases h with rfl | ⟨b, off, e, hlt, hc⟩
  · exact .inl (by simp)
  · refine .inr ⟨b, off, e, hlt, fun j hj => ?_⟩
    simp only [List.length_take] at hj
    rw [hc j (by omega)]
    simp
theorem sliceAt.drop {W : World} {b off k : Nat} {l : List UInt8} (h : sliceAt W (some ⟨b, off, none⟩) l) : sliceAt W (some ⟨b, off + k, none⟩) (l.drop k) := by
  rcases h with rfl | ⟨b', off', e, hlt, hc⟩
  · exact .inl (by simp)
  · cases e
    refine .inr ⟨b, off + k, rfl, hlt, fun j hj => ?_⟩
    simp only [List.length_drop] at hj
    rw [Nat.add_assoc, hc (k + j) (by omega)]
    simp
theorem or_u32 (x y : Nat) (hx : x < 4294967296) (hy : y < 4294967296) : bits .or .u32 (x : Int) (y : Int) = ((x ||| y : Nat) : Int) := by
  have h := Nat.or_lt_two_pow (n := 32) hx hy
  show IntKind.u32.wrap ((BitVec.ofInt 32 (x : Int) ||| BitVec.ofInt 32 (y : Int)).toNat : Int) = _
  rw [BitVec.toNat_or, BitVec.ofInt_natCast, BitVec.ofInt_natCast, BitVec.toNat_ofNat, BitVec.toNat_ofNat, Nat.mod_eq_of_lt hx, Nat.mod_eq_of_lt hy]
  show ((x ||| y : Nat) : Int) % 4294967296 = _
  omega
theorem and_u32 (x y : Nat) (hx : x < 4294967296) (hy : y < 4294967296) : bits .and .u32 (x : Int) (y : Int) = ((x &&& y : Nat) : Int) := by
  have h : x &&& y < 2 ^ 32 := Nat.and_lt_two_pow _ hy
  show IntKind.u32.wrap ((BitVec.ofInt 32 (x : Int) &&& BitVec.ofInt 32 (y : Int)).toNat : Int) = _
  rw [BitVec.toNat_and, BitVec.ofInt_natCast, BitVec.ofInt_natCast, BitVec.toNat_ofNat, BitVec.toNat_ofNat, Nat.mod_eq_of_lt hx, Nat.mod_eq_of_lt hy]
  show ((x &&& y : Nat) : Int) % 4294967296 = _
  omega
theorem or_add (k x y : Nat) (h : y < 2 ^ k) : x * 2 ^ k ||| y = x * 2 ^ k + y := by
  rw [← Nat.shiftLeft_eq, Nat.shiftLeft_add_eq_or_of_lt h]
theorem or_i32 {x y : Int} (X Y : Nat) (hx : x = (X : Int)) (hy : y = (Y : Int)) (h1 : X < 4294967296) (h2 : Y < 4294967296) : bits .or .u32 x y = ((X ||| Y : Nat) : Int) := by
  subst hx hy
  exact or_u32 X Y h1 h2
theorem Tryz.infoB : (Tryz.prog.info? 5).map (fun i => (i.zero, i.size, i.bytes)) = some (some (.int .u8 0), 1, 1) := by kernel_rfl
theorem take_snocL (l : List UInt8) (k : Nat) (h : k < l.length) : l.take (k + 1) = l.take k ++ [l[k]] := List.take_succ_eq_append_getElem h
theorem sliceAt.news {W : World} {b off : Nat} {l : List UInt8} (h : sliceAt W (some ⟨b, off, none⟩) l) : ∀ j u, (l.map byteV)[j]? = some u → W.cell? ((⟨b, off, none⟩ : Addr).add j) = some u := by
  intro j u hu
  rcases h with rfl | ⟨b', off', e, hlt, hc⟩
  · simp at hu
  · cases e
    rw [List.getElem?_map, Option.map_eq_some_iff] at hu
    obtain ⟨x, hx, rfl⟩ := hu
    obtain ⟨hj, rfl⟩ := List.getElem?_eq_some_iff.1 hx
    rw [Addr.add_lit]
    exact hc j hj
theorem news_one (l : List UInt8) : ∀ u ∈ l.map byteV, u.oneCell' = true := by
  intro u hu
  obtain ⟨x, _, rfl⟩ := List.mem_map.1 hu
  rfl
theorem cells_two_new (w : World) (t : TypeId) (x y : Value) : ∀ j u, [x, y][j]? = some u → (w.alloc (.cells #[x, y] t)).cell? ((⟨w.heap.size, 0, none⟩ : Addr).add j) = some u := by
  intro j u hu
  rw [Addr.add_lit]
  match j, hu with
  | 0, hu => simp only [World.cell?, heap_alloc_new]; simpa using hu
  | 1, hu => simp only [World.cell?, heap_alloc_new]; simpa using hu
  | j + 2, hu => simp at hu
theorem own_cast {w : World} {base n n' : Nat} {e : TypeId} {v : Value} {xs ys : List Value} (h : w.ownsRow base e 1 v n xs) (h1 : n = n') (h2 : xs = ys) : w.ownsRow base e 1 v n' ys := by subst h1 h2; exact h
theorem ne_nil_of_pos {α : Type} {r : List α} (h : 0 < r.length) : r ≠ [] := List.length_pos_iff.1 h
theorem cells_four_new (w : World) (t : TypeId) (x y z u : Value) : ∀ j q, [x, y, z, u][j]? = some q → (w.alloc (.cells #[x, y, z, u] t)).cell? ((⟨w.heap.size, 0, none⟩ : Addr).add j) = some q := by
  intro j q hu
  rw [Addr.add_lit]
  match j, hu with
  | 0, hu => simp only [World.cell?, heap_alloc_new]; simpa using hu
  | 1, hu => simp only [World.cell?, heap_alloc_new]; simpa using hu
  | 2, hu => simp only [World.cell?, heap_alloc_new]; simpa using hu
  | 3, hu => simp only [World.cell?, heap_alloc_new]; simpa using hu
  | j + 4, hu => simp at hu
theorem own_base {w : World} {base base' n : Nat} {e : TypeId} {v : Value} {xs : List Value} (h : w.ownsRow base e 1 v n xs) (hb : base' ≤ base) : w.ownsRow base' e 1 v n xs := by
  refine ⟨h.1, ?_⟩
  rcases h.2 with h2 | ⟨g, cap, cur, hv, hg, r⟩
  · exact .inl h2
  · exact .inr ⟨g, cap, cur, hv, Nat.le_trans hb hg, r⟩
theorem one_row (w : World) (t : TypeId) (c : UInt8) : rowAt (w.alloc (.cells #[.int .u8 (c.toNat : Int)] t)).drew w.heap.size t ([c].map byteV) :=
  ⟨#[.int .u8 (c.toNat : Int)], 0, 0, heap_alloc_new w _, fun j _ h => by omega, rfl⟩
theorem conv_one (w : World) (c : UInt8) : (convert 29 9 (.slice (some ⟨w.heap.size, 0, none⟩) 1 1)).run Tryz.prog (w.alloc (.cells #[.int .u8 (c.toNat : Int)] 5)).drew = .ok (.string ⟨#[c]⟩) (w.alloc (.cells #[.int .u8 (c.toNat : Int)] 5)).drew :=
  run_string_of_row Tryz.underlying29 Tryz.underlying5 Tryz.underlying9 (one_row w _ c) rfl
theorem cat_toList (a b : ByteArray) : (a ++ b).data.toList = a.data.toList ++ b.data.toList := by
  rw [ByteArray.data_append, Array.toList_append]
theorem cell_byte (w : World) (t : TypeId) {n : Nat} {x : Int} (h : x = (n : Int)) (hn : n < 256) : ∀ j u, [byteV (byteN n)][j]? = some u → (w.alloc (.cells #[.int .u8 x] t)).cell? ((⟨w.heap.size, 0, none⟩ : Addr).add j) = some u := by
  subst h
  have e : byteV (byteN n) = .int .u8 (n : Int) := by unfold byteV; rw [byteN_toNat n hn]
  rw [e]
  exact cell_one_new w _ _
theorem sliceAt_new (w : World) (t : TypeId) (fr : Nat × Nat) (cs : Array Value) (l : List UInt8) (h : cs.toList = l.map byteV) : sliceAt (w.alloc (.cells cs t fr)) (some ⟨w.heap.size, 0, none⟩) l := by
  refine .inr ⟨w.heap.size, 0, rfl, by simp, fun j hj => ?_⟩
  simp only [World.cell?, heap_alloc_new]
  have : cs.toList[0 + j]? = some (byteV l[j]) := by rw [h, Nat.zero_add]; simp [hj]
  simpa using this
theorem str_eq {a b : ByteArray} (h : a.data.toList = b.data.toList) : (a.toList == b.toList) = true := by
  rw [ByteArray.toList_eq, ByteArray.toList_eq, h]
  simp
theorem bytesArg_string {W : World} {v : Value} {l : List UInt8} (h : bytesArg W v l) : (convert 29 9 v).run Tryz.prog W = .ok (.string ⟨l.toArray⟩) W := by
  obtain ⟨ao, cap, rfl, hc, hm, hs⟩ := h
  rcases hs with rfl | ⟨b, off, rfl, hlt, hcell⟩
  · rcases ao with _ | ad
    · exact run_convert_bytes_nil W 29 5 Tryz.underlying29 Tryz.underlying5 0 cap 9 Tryz.underlying9
    · refine run_convert_bytes_back W _ _ 5 ad cap [] Tryz.underlying29 Tryz.underlying5 Tryz.underlying9 fun j hj => ?_
      simp at hj
  · refine run_convert_bytes_back W _ _ 5 ⟨b, off, none⟩ cap l Tryz.underlying29 Tryz.underlying5 Tryz.underlying9 fun j hj => ?_
    rw [Addr.add_lit]
    exact hcell j hj
theorem lst_eq {a : List UInt8} {b : ByteArray} (h : b.data.toList = a) : (a == b.toList) = true := by
  rw [ByteArray.toList_eq, h]
  simp
theorem and_u8 (x y : Nat) (hx : x < 256) (hy : y < 256) : bits .and .u8 (x : Int) (y : Int) = ((x &&& y : Nat) : Int) := by
  have h : x &&& y < 2 ^ 8 := Nat.and_lt_two_pow _ hy
  show IntKind.u8.wrap ((BitVec.ofInt 8 (x : Int) &&& BitVec.ofInt 8 (y : Int)).toNat : Int) = _
  rw [BitVec.toNat_and, BitVec.ofInt_natCast, BitVec.ofInt_natCast, BitVec.toNat_ofNat, BitVec.toNat_ofNat, Nat.mod_eq_of_lt hx, Nat.mod_eq_of_lt hy]
  show ((x &&& y : Nat) : Int) % 256 = _
  omega
theorem and7 (b : UInt8) : bits .and .u8 (b.toNat : Int) 7 = ((b.toNat % 8 : Nat) : Int) := by
  have := and_u8 b.toNat 7 b.toNat_lt (by omega)
  rw [show (7 : Nat) = 2 ^ 3 - 1 from rfl, Nat.and_two_pow_sub_one_eq_mod] at this
  exact this
theorem and3 (b : UInt8) : bits .and .u8 (b.toNat : Int) 3 = ((b.toNat % 4 : Nat) : Int) := by
  have := and_u8 b.toNat 3 b.toNat_lt (by omega)
  rw [show (3 : Nat) = 2 ^ 2 - 1 from rfl, Nat.and_two_pow_sub_one_eq_mod] at this
  exact this
theorem sliceAt.cell {W : World} {ao : Option Addr} {l : List UInt8} (h : sliceAt W ao l) (k : Nat) (hk : k < l.length) : ∃ b off, ao = some ⟨b, off, none⟩ ∧ b < W.heap.size ∧ W.cell? ⟨b, off + k, none⟩ = some (.int .u8 (l[k].toNat : Int)) := by
  rcases h with rfl | ⟨b, off, e, hlt, hc⟩
  · simp at hk
  · exact ⟨b, off, e, hlt, hc k hk⟩
theorem below_drewN' {w : World} (n : Nat) : Below w.heap.size w (w.drewN n) := ⟨rfl, rfl, rfl, Nat.le_refl _, fun _ _ => rfl⟩
end Go.Proofs.YtkkdplccneeaiaaGreatDoor
