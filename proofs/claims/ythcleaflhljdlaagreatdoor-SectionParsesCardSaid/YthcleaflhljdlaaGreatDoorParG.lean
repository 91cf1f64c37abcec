/- Contracts of package params: the reader's parts. -/
import Derived.Test.YthcleaflhljdlaaGreatDoorParF
import Derived.Test.YthcleaflhljdlaaGreatDoorParC
import Derived.Lib.BufferOwn
namespace Go.Proofs.YthcleaflhljdlaaGreatDoor
open Go Go.RowKit

/-- A reader of a text, at a place in it. -/
structure Rd (W : World) (B : Nat) (s : ByteArray) (k : Nat) : Prop where
  c0 : W.cell? ⟨B, 0, none⟩ = some (.string s)
  c1 : W.cell? ⟨B, 1, none⟩ = some (.int .i64 (k : Int))
  f1 : W.frozen? ⟨B, 1, none⟩ = false
theorem Rd.lt {W : World} {B : Nat} {s : ByteArray} {k : Nat} (h : Rd W B s k) : B < W.heap.size := World.block_lt_of_cell? _ _ h.c0
theorem Rd.block {W W' : World} {B : Nat} {s : ByteArray} {k : Nat} (h : Rd W B s k) (hb : W'.heap[B]? = W.heap[B]?) : Rd W' B s k :=
  ⟨(World.cell?_of_block (a := ⟨B, 0, none⟩) hb).trans h.c0, (World.cell?_of_block (a := ⟨B, 1, none⟩) hb).trans h.c1, (World.frozen?_of_block (a := ⟨B, 1, none⟩) hb).trans h.f1⟩
theorem Rd.below {W W' : World} {B : Nat} {s : ByteArray} {k : Nat} (h : Rd W B s k) (hb : Below W.heap.size W W') : Rd W' B s k := h.block (hb.block B h.lt)
theorem Rd.set {W : World} {B : Nat} {s : ByteArray} {k : Nat} (h : Rd W B s k) (j : Nat) : Rd (W.setCell ⟨B, 1, none⟩ (.int .i64 (j : Int))) B s j :=
  ⟨(World.cell?_setCell_other _ ⟨B, 1, none⟩ ⟨B, 0, none⟩ _ (by simp)).trans h.c0, World.cell?_setCell_same _ _ _ h.c1, (World.frozen?_setCell _ _ _ _).trans h.f1⟩
/-- All that lay lies as it lay, but for one block. -/
def Gr (B : Nat) (W W' : World) : Prop := W.grownBy W' (some B)
theorem Gr.refl (B : Nat) (W : World) : Gr B W W := ⟨rfl, rfl, rfl, Nat.le_refl _, fun _ _ _ => rfl⟩
theorem Gr.trans {B : Nat} {a b c : World} (h : Gr B a b) (k : Gr B b c) : Gr B a c := World.grownBy.trans h k
theorem Gr.below {B : Nat} {a b c : World} (h : Gr B a b) (k : Below b.heap.size b c) : Gr B a c := h.trans ⟨k.os, k.tape, k.output, k.size, fun i hi _ => k.block i hi⟩
theorem Gr.drewN {B : Nat} {a b : World} (h : Gr B a b) (n : Nat) : Gr B a (b.drewN n) := h.below (below_drewN' n)
theorem Gr.set {B : Nat} {a b : World} (h : Gr B a b) (j : Nat) (u : Value) : Gr B a (b.setCell ⟨B, j, none⟩ u) := h.trans (grownBy_setCell b ⟨B, j, none⟩ u)
theorem Gr.size {B : Nat} {a b : World} (h : Gr B a b) : a.heap.size ≤ b.heap.size := World.grownBy.size h

theorem sk_blank {c : UInt8} (l : List UInt8) (h : blk c = true) : sk (c :: l) = sk l := by
  show (if blk c = true then _ else _) = _
  rw [if_pos h]
  rfl
theorem sk_stay {c : UInt8} (l : List UInt8) (h : blk c = false) (h2 : c ≠ 40) : sk (c :: l) = c :: l := by
  show (if blk c = true then _ else if c = 40 then _ else _) = _
  rw [if_neg (by rw [h]; simp), if_neg h2]
end Go.Proofs.YthcleaflhljdlaaGreatDoor
