/- Layer 18: contracts of package wire: the reader; a piece taken off the front. -/
import Derived.Test.YtkkdplccneeaiaaGreatDoorGbWrA
import Derived.Test.YtkkdplccneeaiaaGreatDoorGbGrK
namespace Go.Proofs.YtkkdplccneeaiaaGreatDoor
open Go Go.RowKit

/-- A reader of bytes, at a place in them. -/
structure Rb (W : World) (B b off cap : Nat) (l : List UInt8) (k : Nat) : Prop where
  c0 : W.cell? ⟨B, 0, none⟩ = some (.slice (some ⟨b, off, none⟩) l.length cap)
  c1 : W.cell? ⟨B, 1, none⟩ = some (.int .i64 (k : Int))
  f1 : W.frozen? ⟨B, 1, none⟩ = false
  ne : b ≠ B
  le : l.length ≤ cap
  mx : cap ≤ maxLen
  sm : l.length ≤ 1000000000
  lt : b < W.heap.size
  at_ : ∀ j, (h : j < l.length) → W.cell? ⟨b, off + j, none⟩ = some (byteV l[j])
section
variable {W W' : World} {B b off cap : Nat} {l : List UInt8} {k : Nat}
theorem Rb.ltB (h : Rb W B b off cap l k) : B < W.heap.size := World.block_lt_of_cell? _ _ h.c0
theorem Rb.block (h : Rb W B b off cap l k) (hB : W'.heap[B]? = W.heap[B]?) (hb : W'.heap[b]? = W.heap[b]?) : Rb W' B b off cap l k :=
  ⟨(World.cell?_of_block (a := ⟨B, 0, none⟩) hB).trans h.c0, (World.cell?_of_block (a := ⟨B, 1, none⟩) hB).trans h.c1, (World.frozen?_of_block (a := ⟨B, 1, none⟩) hB).trans h.f1, h.ne, h.le, h.mx, h.sm,
    (Array.getElem?_eq_some_iff.1 (hb.trans (Array.getElem?_eq_getElem h.lt))).1, fun j hj => (World.cell?_of_block (a := ⟨b, off + j, none⟩) hb).trans (h.at_ j hj)⟩
theorem Rb.below (h : Rb W B b off cap l k) (hb : Below W.heap.size W W') : Rb W' B b off cap l k := h.block (hb.block B h.ltB) (hb.block b h.lt)
theorem Rb.set (h : Rb W B b off cap l k) (j : Nat) : Rb (W.setCell ⟨B, 1, none⟩ (.int .i64 (j : Int))) B b off cap l j :=
  ⟨(World.cell?_setCell_other _ ⟨B, 1, none⟩ ⟨B, 0, none⟩ _ (by simp)).trans h.c0, World.cell?_setCell_same _ _ _ h.c1, (World.frozen?_setCell _ _ _ _).trans h.f1, h.ne, h.le, h.mx, h.sm, by simpa using h.lt,
    fun j hj => (World.cell?_of_block (a := ⟨b, off + j, none⟩) (Below.heap_setCell W ⟨B, 1, none⟩ _ b h.ne)).trans (h.at_ j hj)⟩
theorem Rb.src (h : Rb W B b off cap l k) : sliceAt W (some ⟨b, off, none⟩) l := .inr ⟨b, off, rfl, h.lt, h.at_⟩
/-- What a piece that is left of a slice lies at. -/
def fromA (b off cap k : Nat) : Addr := if cap = k then ⟨b, off, none⟩ else ⟨b, off + k, none⟩
theorem Rb.rest (h : Rb W B b off cap l k) (j : Nat) (hj : j ≤ l.length) : sliceAt W (some (fromA b off cap j)) (l.drop j) := by
  unfold fromA
  split
  · next e =>
    left
    exact List.drop_eq_nil_of_le (by have := h.le; omega)
  · exact h.src.drop
end
theorem Gr.slice {B b : Nat} {off : Nat} {a c : World} {l : List UInt8} (h : Gr B a c) (hne : b ≠ B) (hs : sliceAt a (some ⟨b, off, none⟩) l) : sliceAt c (some ⟨b, off, none⟩) l := by
  rcases hs with hs | ⟨b', off', e, hlt, hc⟩
  · exact .inl hs
  · cases e
    have hb := h.block b hlt (fun e => hne (Option.some.inj e))
    exact .inr ⟨b, off, rfl, Nat.lt_of_lt_of_le hlt h.size, fun j hj => (World.cell?_of_block (a := ⟨b, off + j, none⟩) hb).trans (hc j hj)⟩
theorem prefix_any (g : Nat) (ao : Addr) (l p : List UInt8) (n c m d : Nat) (w : World) (hn : l.length = n) (hm : p.length = m) (hc : n ≤ c) (hs : sliceAt w (some ao) l) (hg : sliceAt w (some ⟨g, 0, none⟩) p) :
    Calls Tryz.prog 51 #[.slice (some ao) n c, .slice (some ⟨g, 0, none⟩) m d] w fun e w' => e = .returned (.bool (p.isPrefixOf l)) ∧ w = w' := by
  subst hn hm
  refine (Tryz.bytes_HasPrefix_all (some ao) (some ⟨g, 0, none⟩) l.length c p.length d (intsOf l) (intsOf p) w (intsOf_len l) (intsOf_len p) hc hs.ints hg.ints).mono ?_
  rintro e w' ⟨rfl, rfl⟩
  refine ⟨?_, rfl⟩
  rw [bytesOf_ints, bytesOf_ints]
  rfl
end Go.Proofs.YtkkdplccneeaiaaGreatDoor
