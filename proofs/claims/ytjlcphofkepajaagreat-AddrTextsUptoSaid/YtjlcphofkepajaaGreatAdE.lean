/- Contracts of package addr: the reader's next piece. -/
import Derived.Test.YtjlcphofkepajaaGreatAdD
import Derived.Deep.RegionHeld
namespace Go.Proofs.YtjlcphofkepajaaGreat
open Go Go.RowKit

/-- All that lay lies as it lay, but for one block. -/
def GrB (B : Nat) (W W' : World) : Prop := W.grownBy W' (some B)
theorem GrB.refl (B : Nat) (W : World) : GrB B W W := ⟨rfl, rfl, rfl, Nat.le_refl _, fun _ _ _ => rfl⟩
theorem GrB.trans {B : Nat} {a b c : World} (h : GrB B a b) (k : GrB B b c) : GrB B a c := World.grownBy.trans h k
theorem GrB.below {B : Nat} {a b c : World} (h : GrB B a b) (k : Below b.heap.size b c) : GrB B a c := h.trans ⟨k.os, k.tape, k.output, k.size, fun i hi _ => k.block i hi⟩
theorem GrB.set {B : Nat} {a b : World} (h : GrB B a b) (j : Nat) (u : Value) : GrB B a (b.setCell ⟨B, j, none⟩ u) :=
  h.trans ⟨rfl, rfl, rfl, by simp, fun k _ hk => Below.heap_setCell b ⟨B, j, none⟩ u k (fun e => hk (by rw [e]))⟩
theorem GrB.size {B : Nat} {a b : World} (h : GrB B a b) : a.heap.size ≤ b.heap.size := World.grownBy.size h
theorem GrB.row {B : Nat} {w w' : World} (hb : GrB B w w') {base : Nat} {e : TypeId} {size : Nat} {v : Value} {n : Nat} {xs : List Value} (h : w.ownsRow base e size v n xs) (hB : v.ownBlock ≠ some B) : w'.ownsRow base e size v n xs :=
  h.kept hb (.inr hB)

/-- A reader: its text, its place, the piece ahead, what it told. -/
structure Raw (W : World) (B : Nat) (s : ByteArray) (k : Nat) (u tv : Value) : Prop where
  c0 : W.cell? ⟨B, 0, none⟩ = some (.string s)
  c1 : W.cell? ⟨B, 1, none⟩ = some (.int .i64 (k : Int))
  c2 : W.cell? ⟨B, 2, none⟩ = some u
  c3 : W.cell? ⟨B, 3, none⟩ = some tv
  f1 : W.frozen? ⟨B, 1, none⟩ = false
  f2 : W.frozen? ⟨B, 2, none⟩ = false
  f3 : W.frozen? ⟨B, 3, none⟩ = false
theorem Raw.lt {W : World} {B : Nat} {s : ByteArray} {k : Nat} {u tv : Value} (h : Raw W B s k u tv) : B < W.heap.size := World.block_lt_of_cell? _ _ h.c0
theorem Raw.block {W W' : World} {B : Nat} {s : ByteArray} {k : Nat} {u tv : Value} (h : Raw W B s k u tv) (hb : W'.heap[B]? = W.heap[B]?) : Raw W' B s k u tv :=
  ⟨(World.cell?_of_block (a := ⟨B, 0, none⟩) hb).trans h.c0, (World.cell?_of_block (a := ⟨B, 1, none⟩) hb).trans h.c1, (World.cell?_of_block (a := ⟨B, 2, none⟩) hb).trans h.c2, (World.cell?_of_block (a := ⟨B, 3, none⟩) hb).trans h.c3,
   (World.frozen?_of_block (a := ⟨B, 1, none⟩) hb).trans h.f1, (World.frozen?_of_block (a := ⟨B, 2, none⟩) hb).trans h.f2, (World.frozen?_of_block (a := ⟨B, 3, none⟩) hb).trans h.f3⟩
theorem Raw.below {W W' : World} {B : Nat} {s : ByteArray} {k : Nat} {u tv : Value} (h : Raw W B s k u tv) (hb : Below W.heap.size W W') : Raw W' B s k u tv := h.block (hb.block B h.lt)
theorem Raw.set1 {W : World} {B : Nat} {s : ByteArray} {k : Nat} {u tv : Value} (h : Raw W B s k u tv) (j : Nat) : Raw (W.setCell ⟨B, 1, none⟩ (.int .i64 (j : Int))) B s j u tv :=
  ⟨(World.cell?_setCell_other _ ⟨B, 1, none⟩ ⟨B, 0, none⟩ _ (by simp)).trans h.c0, World.cell?_setCell_same _ _ _ h.c1, (World.cell?_setCell_other _ ⟨B, 1, none⟩ ⟨B, 2, none⟩ _ (by simp)).trans h.c2, (World.cell?_setCell_other _ ⟨B, 1, none⟩ ⟨B, 3, none⟩ _ (by simp)).trans h.c3,
   (World.frozen?_setCell _ _ _ _).trans h.f1, (World.frozen?_setCell _ _ _ _).trans h.f2, (World.frozen?_setCell _ _ _ _).trans h.f3⟩
theorem Raw.set2 {W : World} {B : Nat} {s : ByteArray} {k : Nat} {u tv : Value} (h : Raw W B s k u tv) (u' : Value) : Raw (W.setCell ⟨B, 2, none⟩ u') B s k u' tv :=
  ⟨(World.cell?_setCell_other _ ⟨B, 2, none⟩ ⟨B, 0, none⟩ _ (by simp)).trans h.c0, (World.cell?_setCell_other _ ⟨B, 2, none⟩ ⟨B, 1, none⟩ _ (by simp)).trans h.c1, World.cell?_setCell_same _ _ _ h.c2, (World.cell?_setCell_other _ ⟨B, 2, none⟩ ⟨B, 3, none⟩ _ (by simp)).trans h.c3,
   (World.frozen?_setCell _ _ _ _).trans h.f1, (World.frozen?_setCell _ _ _ _).trans h.f2, (World.frozen?_setCell _ _ _ _).trans h.f3⟩
theorem Raw.set3 {W : World} {B : Nat} {s : ByteArray} {k : Nat} {u tv : Value} (h : Raw W B s k u tv) (tv' : Value) : Raw (W.setCell ⟨B, 3, none⟩ tv') B s k u tv' :=
  ⟨(World.cell?_setCell_other _ ⟨B, 3, none⟩ ⟨B, 0, none⟩ _ (by simp)).trans h.c0, (World.cell?_setCell_other _ ⟨B, 3, none⟩ ⟨B, 1, none⟩ _ (by simp)).trans h.c1, (World.cell?_setCell_other _ ⟨B, 3, none⟩ ⟨B, 2, none⟩ _ (by simp)).trans h.c2, World.cell?_setCell_same _ _ _ h.c3,
   (World.frozen?_setCell _ _ _ _).trans h.f1, (World.frozen?_setCell _ _ _ _).trans h.f2, (World.frozen?_setCell _ _ _ _).trans h.f3⟩

/-- A reader ahead of pieces; whether there is nothing left behind them. -/
def Rdr (W : World) (B : Nat) (s : ByteArray) (ts : List Tok) (b : Bool) (tv : Value) : Prop :=
  ∃ k u, Raw W B s k u tv ∧ k ≤ s.size ∧ wt ts ≤ 2 * s.size ∧
    (match ts with
     | [] => u = pcV (.fin b)
     | t :: r => u = pcV (.tok t []) ∧ toksA (s.data.toList.drop k) = (r, b))
theorem Rdr.below {W W' : World} {B : Nat} {s : ByteArray} {ts : List Tok} {b : Bool} {tv : Value} (h : Rdr W B s ts b tv) (hb : Below W.heap.size W W') : Rdr W' B s ts b tv := by
  obtain ⟨k, u, h1, h2⟩ := h
  exact ⟨k, u, h1.below hb, h2⟩
theorem Rdr.lt {W : World} {B : Nat} {s : ByteArray} {ts : List Tok} {b : Bool} {tv : Value} (h : Rdr W B s ts b tv) : B < W.heap.size := by
  obtain ⟨k, u, h1, h2⟩ := h
  exact h1.lt
theorem Rdr.wt {W : World} {B : Nat} {s : ByteArray} {ts : List Tok} {b : Bool} {tv : Value} (h : Rdr W B s ts b tv) : wt ts ≤ 2 * s.size := by
  obtain ⟨k, u, h1, h2, h3, h4⟩ := h
  exact h3
theorem Raw.rdr {W : World} {B : Nat} {s : ByteArray} {k k' : Nat} {tv : Value} {pc : Pc} (h : Raw W B s k' (pcV pc) tv) (hpc : pcL (sk (s.data.toList.drop k)) = pc) (hk : k' ≤ s.size)
    (ht : ∀ t r, pc = .tok t r → s.data.toList.drop k' = r) : Rdr W B s (toksA (s.data.toList.drop k)).1 (toksA (s.data.toList.drop k)).2 tv := by
  have hw := toksA_wt _ (s.data.toList.drop k) (Nat.le_refl _)
  have hw2 : wt (toksA (s.data.toList.drop k)).1 ≤ 2 * s.size := by
    rw [List.length_drop, len_toList] at hw
    omega
  refine ⟨k', pcV pc, h, hk, hw2, ?_⟩
  cases pc with
  | tok t r =>
    rw [toksA_tok hpc]
    refine ⟨by cases t <;> rfl, ?_⟩
    rw [ht t r rfl]
  | fin b => rw [toksA_fin hpc]

theorem pcV_face (p : Pc) : ∃ T V, pcV p = .iface T V := by
  match p with
  | .tok (.sgn c) _ => exact ⟨_, _, rfl⟩
  | .tok (.wrd w) _ => exact ⟨_, _, rfl⟩
  | .fin b => exact ⟨_, _, rfl⟩
theorem pieceAt_v (s : ByteArray) (k : Nat) (w : World) (hl : s.size ≤ 1000000000) (hk : k ≤ s.size) :
    Calls Tryz.prog 20 #[.string s, .int .i64 (k : Int)] w fun e w' => ∃ (j : Nat) (T : TypeId) (V : Value), e = .returned (.tuple #[.iface T V, .int .i64 (j : Int)]) ∧ pcV (pcL (s.data.toList.drop k)) = .iface T V ∧ j ≤ s.size ∧
      (∀ t r, pcL (s.data.toList.drop k) = .tok t r → s.data.toList.drop j = r) ∧ Below w.heap.size w w' :=
  (pieceAt_any s k w hl hk).mono fun e w' ⟨j, he, h⟩ => by
    obtain ⟨T, V, hTV⟩ := pcV_face (pcL (s.data.toList.drop k))
    rw [hTV] at he
    exact ⟨j, T, V, he, hTV, h⟩
set_option maxRecDepth 100000 in
set_option maxHeartbeats 4000000 in
theorem next_any (B : Nat) (s : ByteArray) (k : Nat) (u tv : Value) (w : World) (hr : Raw w B s k u tv) (hl : s.size ≤ 1000000000) (hk : k ≤ s.size) :
    Calls Tryz.prog 13 #[.pointer (some ⟨B, 0, none⟩)] w fun e w' => e = .returned (.tuple #[]) ∧
      Rdr w' B s (toksA (s.data.toList.drop k)).1 (toksA (s.data.toList.drop k)).2 tv ∧ GrB B w w' := by
  have HB := Lib.hid (fun W => behindBlanks_any s k W hl hk)
  have HP := Lib.hid (fun j W h => pieceAt_v s j W hl h)
  have HR := Lib.hid hr
  have c0 := hr.c0
  have c1 := hr.c1
  have c2 := hr.c2
  have f1 := hr.f1
  have f2 := hr.f2
  clear hr
  go_enter Tryz.func13, Tryz.ntmps13
  go_wp2_with fail
  go_region_with (first | (go_at_call 21; refine (HB.out _).mono ?_; rintro e w1 ⟨r, rfl, hr1, hr2, rfl⟩) | (go_at_call 20; refine (HP.out _ _ hr1).mono ?_; rintro e w2 ⟨j, T, V, rfl, hTV, hj, ht, hb⟩; have HR2 := Lib.hid ((HR.out.below (Below.refl _ _).drew).below hb); have HG2 := Lib.hid ((GrB.refl B w).below ((Below.refl _ _).drew.trans hb)); have c1' := HR2.out.c1; have c2' := HR2.out.c2; have f1' := HR2.out.f1; have f2' := HR2.out.f2; have HT := Lib.hid ht; have HTV := Lib.hid hTV; clear ht hb hTV))
  all_goals
    go_wp2_with fail
    go_end0
    first
      | exact ⟨rfl, Raw.rdr (pc := pcL (s.data.toList.drop r)) (by rw [HTV.out]; exact (HR2.out.set2 _).set1 j) (by rw [hr2]) hj HT.out, (HG2.out.set 2 _).set 1 _⟩
      | exact ⟨rfl, Raw.rdr (pc := pcL (s.data.toList.drop r)) (by rw [HTV.out]; exact (HR2.out.set1 j).set2 _) (by rw [hr2]) hj HT.out, (HG2.out.set 1 _).set 2 _⟩
end Go.Proofs.YtjlcphofkepajaaGreat
