/- Layer 18: contracts of package wire: the framer: what lies where; the text of a line. -/
import Derived.Test.YtkkdplccneeaiaaGreatDoorGbWfA
import Derived.Test.YtkkdplccneeaiaaGreatDoorGbWfM
namespace Go.Proofs.YtkkdplccneeaiaaGreatDoor
open Go Go.RowKit

/-- Bytes that wait: nil, or a part of a row of the call's own. -/
def Wt (W : World) (base : Nat) (v : Value) (l : List UInt8) : Prop :=
  (v = .slice none 0 0 ∧ l = []) ∨ ∃ g off cap cur, v = .slice (some ⟨g, off, none⟩) l.length cap ∧ base ≤ g ∧ W.heap[g]? = some (.cells cur 5 (0, 0)) ∧ l.length ≤ cap ∧ cap ≤ maxLen ∧ off + cap ≤ cur.size ∧ (cur.toList.drop off).take l.length = l.map byteV
theorem Wt.block {W W' : World} {base : Nat} {v : Value} {l : List UInt8} (h : Wt W base v l) (hb : ∀ q, v.ownBlock = some q → W'.heap[q]? = W.heap[q]?) : Wt W' base v l := by
  rcases h with h | ⟨g, off, cap, cur, rfl, h1, h2, h3⟩
  · exact .inl h
  · exact .inr ⟨g, off, cap, cur, rfl, h1, (hb g rfl).trans h2, h3⟩
theorem Wt.lt {W : World} {base : Nat} {v : Value} {l : List UInt8} (h : Wt W base v l) : ∀ q, v.ownBlock = some q → base ≤ q ∧ q < W.heap.size := by
  intro q hq
  rcases h with ⟨rfl, _⟩ | ⟨g, off, cap, cur, rfl, h1, h2, h3⟩
  · cases hq
  · cases hq
    exact ⟨h1, (Array.getElem?_eq_some_iff.1 h2).1⟩
theorem Wt.at_ {W : World} {base : Nat} {v : Value} {l : List UInt8} (h : Wt W base v l) (h0 : l ≠ []) : ∃ g off cap, v = .slice (some ⟨g, off, none⟩) l.length cap ∧ base ≤ g ∧ g < W.heap.size ∧ l.length ≤ cap ∧ cap ≤ maxLen ∧ sliceAt W (some ⟨g, off, none⟩) l := by
  rcases h with ⟨_, h⟩ | ⟨g, off, cap, cur, rfl, h1, h2, h3, h4, h5, h6⟩
  · exact absurd h h0
  · have hg := (Array.getElem?_eq_some_iff.1 h2).1
    refine ⟨g, off, cap, rfl, h1, hg, h3, h4, .inr ⟨g, off, rfl, hg, fun j hj => ?_⟩⟩
    have e := congrArg (fun m => m[j]?) h6
    simp only [List.getElem?_take, hj, if_true, List.getElem?_drop, List.getElem?_map] at e
    rw [List.getElem?_eq_getElem hj] at e
    simp only [Option.map_some] at e
    simp only [World.cell?, h2]
    simpa using e
theorem Wt.nilOr {W : World} {base : Nat} {v : Value} {l : List UInt8} (h : Wt W base v l) : ∃ ao cap, v = .slice ao l.length cap := by
  rcases h with ⟨rfl, rfl⟩ | ⟨g, off, cap, cur, rfl, _⟩
  · exact ⟨_, _, rfl⟩
  · exact ⟨_, _, rfl⟩
/-- A box of four cells. -/
def B4 (W : World) (R : Nat) (t : TypeId) (x y z u : Value) : Prop := W.heap[R]? = some (.cells #[x, y, z, u] t (0, 0))
section
variable {W W' : World} {R : Nat} {t : TypeId} {x y z u : Value}
theorem B4.lt (h : B4 W R t x y z u) : R < W.heap.size := (Array.getElem?_eq_some_iff.1 h).1
theorem B4.c (h : B4 W R t x y z u) : W.cell? ⟨R, 0, none⟩ = some x ∧ W.cell? ⟨R, 1, none⟩ = some y ∧ W.cell? ⟨R, 2, none⟩ = some z ∧ W.cell? ⟨R, 3, none⟩ = some u := by unfold B4 at h; simp [World.cell?, h]
theorem B4.f (h : B4 W R t x y z u) (j : Nat) : W.frozen? ⟨R, j, none⟩ = false := by unfold B4 at h; simp [World.frozen?, h]
theorem B4.block (h : B4 W R t x y z u) (hb : W'.heap[R]? = W.heap[R]?) : B4 W' R t x y z u := hb.trans h
theorem B4.below (h : B4 W R t x y z u) (hb : Below W.heap.size W W') : B4 W' R t x y z u := h.block (hb.block R h.lt)
theorem B4.gr {B : Nat} (h : B4 W R t x y z u) (hg : Gr B W W') (hne : R ≠ B) : B4 W' R t x y z u := h.block (hg.block R h.lt (fun e => hne (Option.some.inj e)))
theorem B4.set0 (h : B4 W R t x y z u) (q : Value) : B4 (W.setCell ⟨R, 0, none⟩ q) R t q y z u := by
  unfold B4 at h ⊢; simp [World.setCell, Array.getElem?_modify, h]
theorem B4.set1 (h : B4 W R t x y z u) (q : Value) : B4 (W.setCell ⟨R, 1, none⟩ q) R t x q z u := by
  unfold B4 at h ⊢; simp [World.setCell, Array.getElem?_modify, h]
theorem B4.set2 (h : B4 W R t x y z u) (q : Value) : B4 (W.setCell ⟨R, 2, none⟩ q) R t x y q u := by
  unfold B4 at h ⊢; simp [World.setCell, Array.getElem?_modify, h]
theorem B4.set3 (h : B4 W R t x y z u) (q : Value) : B4 (W.setCell ⟨R, 3, none⟩ q) R t x y z q := by
  unfold B4 at h ⊢; simp [World.setCell, Array.getElem?_modify, h]
theorem B4.new (w : World) (t : TypeId) (x y z u : Value) : B4 (w.alloc (.cells #[x, y, z, u] t)) w.heap.size t x y z u := heap_alloc_new w _
end
/-- A framer in memory. -/
structure FrAt (W : World) (base B : Nat) (v : Value) (s : Fr) : Prop where
  box : B4 W B 34 v (.int .i64 (s.line : Int)) (.int .i64 (s.pos : Int)) (.int .i64 (s.size : Int))
  wt : Wt W base v s.l
  ne : v.ownBlock ≠ some B
  le : s.line ≤ s.pos
  hi : s.pos ≤ s.l.length + 67108864
  lin : s.l.length < s.pos → s.line = s.pos
  sz : s.size ≤ 65536
  big : s.l.length ≤ 1000000000
theorem FrAt.gr {W W' : World} {base B C : Nat} {v : Value} {s : Fr} (h : FrAt W base B v s) (hg : Gr C W W') (h1 : B ≠ C) (h2 : v.ownBlock ≠ some C) : FrAt W' base B v s :=
  ⟨h.box.gr hg h1, h.wt.block (fun q hq => hg.block q (h.wt.lt q hq).2 (fun e => h2 (hq.trans e))), h.ne, h.le, h.hi, h.lin, h.sz, h.big⟩
theorem FrAt.below {W W' : World} {base B : Nat} {v : Value} {s : Fr} (h : FrAt W base B v s) (hb : Below W.heap.size W W') : FrAt W' base B v s :=
  ⟨h.box.below hb, h.wt.block (fun q hq => hb.block q (h.wt.lt q hq).2), h.ne, h.le, h.hi, h.lin, h.sz, h.big⟩
theorem bareE_suffix (p : List UInt8) : (bareE p).length = (if 0 < p.length ∧ p.getD (p.length - 1) 0 = 13 then p.length - 1 else p.length) ∧ bareE p = p.take (bareE p).length := by
  unfold bareE
  have e : p.getLast? = some 13 ↔ 0 < p.length ∧ p.getD (p.length - 1) 0 = 13 := by
    rw [List.getLast?_eq_getElem?, List.getD_eq_getElem?_getD]
    by_cases h0 : 0 < p.length
    · rw [List.getElem?_eq_getElem (by omega)]
      simp [h0]
    · have : p = [] := List.eq_nil_of_length_eq_zero (by omega)
      subst this
      simp
  by_cases h : p.getLast? = some 13
  · rw [if_pos h, if_pos (e.1 h)]
    refine ⟨List.length_dropLast, ?_⟩
    rw [List.length_dropLast, List.dropLast_eq_take]
  · rw [if_neg h, if_neg (fun h2 => h (e.2 h2))]
    exact ⟨rfl, (List.take_length).symm⟩
end Go.Proofs.YtkkdplccneeaiaaGreatDoor
