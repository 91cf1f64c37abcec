/- Contracts of package lines: each, Count, Of. -/
import Derived.Test.YtkmgflnmffdhjaaGreatDoorGbAppIn
import Derived.Maps.AppendAt
namespace Go.Proofs.YtkmgflnmffdhjaaGreatDoor
open Go Go.RowKit Go.Shelf
attribute [local go_sem] Oper.semAt_some

theorem each_any (v : Value) (f t : Int) (w : World) (ao : Option Addr) (n c : Nat) (hv : v = .slice ao n c) :
    Calls Tryz.prog 95 #[v, .agg #[.int .i64 f, .int .i64 t]] w fun e w' =>
      e = .returned (.func (.func 126) #[] #[.pointer (some ⟨w.heap.size + 1, 0, none⟩), .pointer (some ⟨w.heap.size, 0, none⟩)]) ∧
      w' = (w.alloc (.cells #[v] 22)).alloc (.cells #[.int .i64 f, .int .i64 t] 25) := by
  subst hv
  go_enter Tryz.func95, Tryz.ntmps95
  go_wp2
  go_ret
  exact ⟨rfl, rfl⟩

theorem each_stops (n : Nat) (hn : 1 ≤ n) (A Bs Bb : Nat) (wb w0 : World) (v : Value) (l : List UInt8) (f t : Int) (hv : bytesArg wb v l) (hbig : l.length ≤ 1048576) (hS : Seat wb A Bs Bb v f t w0) :
    SeqStopsK Fence.wide n Tryz.prog 126 #[.pointer (some ⟨Bs, 0, none⟩), .pointer (some ⟨Bb, 0, none⟩)] (fun x : Ln => #[lnV x]) (KeepK wb.heap.size A) (fun ys => ys = linesZ l f t) (fun _ => True) l.length w0 :=
  fun Lp J Jx W hW hJ _ hY h0 => (each1_in n hn Lp A Bs Bb wb v l f t hv hbig J Jx W hJ hY (hS.grow hW) h0).mono fun _ _ ⟨h1, h2⟩ => ⟨h1, h2.imp id fun ⟨pre, h⟩ => ⟨pre, trivial, h⟩⟩

theorem boxed_owns {W : World} {A : Nat} {t : TypeId} {v : Value} (h : Boxed W A t v) (k : Nat) : ownsB A W k ↔ k = A ∨ v.ownBlock = some k := by
  unfold ownsB
  rw [h.cell]
  constructor
  · rintro (h | ⟨u, hu, h⟩)
    · exact .inl h
    · cases hu
      exact .inr h
  · rintro (h | h)
    · exact .inl h
    · exact .inr ⟨v, rfl, h⟩
/-- A store into the body's own variable. -/
theorem keep_set {n0 A : Nat} {W : World} {t : TypeId} {v v' : Value} (hv : Boxed W A t v) (hn : n0 ≤ A) (h0 : v'.ownBlock = none) : KeepK n0 A W (W.setCell ⟨A, 0, none⟩ v') := by
  have hv' := hv.set v'
  refine ⟨(Below.refl n0 W).setCell (p := ⟨A, 0, none⟩) hn _, fun k o hk hc hno => ?_, fun hl k hk => ?_⟩
  · have hkA : k ≠ A := fun e => hno (.inl e)
    refine ⟨(Below.heap_setCell _ _ _ k hkA).trans hk, fun hh => ?_⟩
    rcases (boxed_owns hv' k).1 hh with h | h
    · exact hkA h
    · rw [h0] at h; cases h
  · rcases (boxed_owns hv' k).1 hk with h | h
    · subst h; exact hv'.lt
    · rw [h0] at h; cases h
theorem keep_append {W w1 : World} {n0 A : Nat} {t e : TypeId} {size : Nat} {v v' : Value} {k m : Nat} {xs ys : List Value} {tmp : Obj}
    (hv : Boxed W A t v) (hte : t ≠ e) (hrow : W.ownsRow n0 e size v k xs) (hn₀ : n0 ≤ W.heap.size) (hB : n0 ≤ A)
    (hown' : w1.ownsRow n0 e size v' m ys) (hgrow : (W.alloc tmp).grownBy w1 v.ownBlock) (hat : v'.ownBlock = v.ownBlock ∨ v'.ownBlock = some (W.alloc tmp).heap.size) :
    KeepK n0 A W (w1.setCell ⟨A, 0, none⟩ v') := by
  obtain ⟨h1, h2, h3, h4, h5⟩ := hv.appended hte hrow hn₀ hB hown' hgrow
  refine ⟨h5, fun j o hj hc hno => ?_, fun hl j hj => ?_⟩
  · have hlt := (Array.getElem?_eq_some_iff.1 hj).1
    have hjA : j ≠ A := fun e => hno ((boxed_owns hv j).2 (.inl e))
    have hjv : some j ≠ v.ownBlock := fun e => hno ((boxed_owns hv j).2 (.inr e.symm))
    refine ⟨?_, fun hh => ?_⟩
    · rw [Below.heap_setCell _ _ _ j hjA, hgrow.block j (by simp; omega) hjv, Below.heap_alloc _ _ _ hlt, hj]
    · rcases (boxed_owns h2 j).1 hh with h | h
      · exact hjA h
      · rcases hat with ha | ha
        · exact hjv (h.symm.trans ha)
        · rw [h] at ha
          simp at ha
          omega
  · rcases (boxed_owns h2 j).1 hj with h | h
    · subst h; exact h2.lt
    · rcases h3.2 with ⟨rfl, _⟩ | ⟨g, cap, cur, rfl, _, hg, _⟩
      · cases h
      · cases h
        exact (Array.getElem?_eq_some_iff.1 hg).1

def lnCells (ls : List Ln) : List Value := ls.flatMap lnC
theorem lnCells_snoc (ls : List Ln) (x : Ln) : lnCells (ls ++ [x]) = lnCells ls ++ lnC x := by simp [lnCells]
theorem Tryz.infoL : (Tryz.prog.info? 104).map (fun i => (i.zero, i.size, i.bytes)) = some (some (.agg #[.int .i64 0, .int .i64 0, .int .i64 0]), 3, 24) := by kernel_rfl

theorem seat_new (w : World) (u : Obj) (v : Value) (t : TypeId) (x : Value) (f g : Int) (hx : x.ownBlock = none) (hu : u = .cells #[x] t) :
    Seat w (w.heap.size + 1) (w.heap.size + 3) (w.heap.size + 2) v f g ((((w.alloc (.cells #[.int .i64 f, .int .i64 g] 25)).alloc u).alloc (.cells #[v] 22)).alloc (.cells #[.int .i64 f, .int .i64 g] 25)) := by
  subst hu
  obtain ⟨W1, h1⟩ : ∃ W1, w.alloc (.cells #[.int .i64 f, .int .i64 g] 25) = W1 := ⟨_, rfl⟩
  have s1 : W1.heap.size = w.heap.size + 1 := by rw [← h1]; simp
  have hB : Below w.heap.size w W1 := by rw [← h1]; exact (Below.refl _ _).alloc (Nat.le_refl _) _
  rw [h1]
  clear h1
  have b1 := ((Boxed.new W1 t x).alloc (.cells #[v] 22)).alloc (.cells #[.int .i64 f, .int .i64 g] 25)
  rw [s1] at b1
  have own := boxed_owns b1
  refine ⟨((hB.alloc (by omega) _).alloc (by simp; omega) _).alloc (by simp; omega) _, by simp; omega, ?_, ?_, ?_, ?_, ?_⟩
  · have := heap_alloc_new ((W1.alloc (.cells #[x] t)).alloc (.cells #[v] 22)) (.cells #[.int .i64 f, .int .i64 g] 25)
    simp only [World.size_alloc, s1] at this
    exact this
  · have := Boxed.new (W1.alloc (.cells #[x] t)) 22 v
    simp only [World.size_alloc, s1] at this
    exact this.alloc _
  · rw [own, hx]
    rintro (h | h)
    · omega
    · cases h
  · rw [own, hx]
    rintro (h | h)
    · omega
    · cases h
  · intro k hk
    rw [own, hx] at hk
    rcases hk with h | h
    · subst h; exact b1.lt
    · cases h

end Go.Proofs.YtkmgflnmffdhjaaGreatDoor
