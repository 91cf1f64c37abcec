/- Contracts of package addr: the piece at a place. -/
import Derived.Test.YtkmgflnmffdhjaaGreatDoorGbAdC
import Derived.Deep.RegionHeld
import Derived.Test.YtkmgflnmffdhjaaGreatDoorGbParC
import Derived.Deep.Strs
import Derived.Deep.AppendLies
import Derived.Deep.RegionLaw
namespace Go.Proofs.YtkmgflnmffdhjaaGreatDoor
open Go Go.RowKit

/-- The word at the beginning of a text. -/
def wordL : List UInt8 → Option (List UInt8 × List UInt8)
  | [] => none
  | c :: r => if c = 34 then unqL false [] r else match bareA false (c :: r) with
    | some (w, q) => if w = [] then none else some (w, q)
    | none => none
theorem wordL_cons (c : UInt8) (r : List UInt8) : wordL (c :: r) = if c = 34 then unqL false [] r else match bareA false (c :: r) with
    | some (w, q) => if w = [] then none else some (w, q)
    | none => none := rfl
theorem pcL_word (c : UInt8) (r : List UInt8) (h : signB c = false) : pcL (c :: r) = match wordL (c :: r) with
    | some (w, q) => .tok (.wrd w) q
    | none => .fin false := by
  rw [pcL_cons, wordL_cons, if_neg (by rw [h]; simp)]
  by_cases hc : c = 34
  · rw [if_pos hc, if_pos hc]
    cases unqL false [] r <;> rfl
  · rw [if_neg hc, if_neg hc]
    cases hb : bareA false (c :: r) with
    | none => rfl
    | some p =>
      obtain ⟨w, q⟩ := p
      by_cases hw : w = []
      · simp [hw]
      · simp [hw]
def wordIs (D : List UInt8) (s : ByteArray) (v : List UInt8) (j : Nat) (b : Bool) : Prop :=
  match wordL D with
  | some (v', r) => b = true ∧ v = v' ∧ s.data.toList.drop j = r
  | none => b = false
theorem wordIs_unq {c : UInt8} {r : List UInt8} {s : ByteArray} {v : List UInt8} {j : Nat} {b : Bool} (h : unqIsA r s v j b) (hc : c = 34) : wordIs (c :: r) s v j b := by
  unfold wordIs unqIsA at *
  rw [wordL_cons, if_pos hc]
  split at h
  · next v' r' e => rw [e]; exact h
  · next e => rw [e]; exact h.1
theorem wordIs_bare {c : UInt8} {r : List UInt8} {s : ByteArray} {v : List UInt8} {j : Nat} {b : Bool} (h : bareIs (c :: r) s v j b) (hc : c ≠ 34) : wordIs (c :: r) s v j b := by
  unfold wordIs bareIs at *
  rw [wordL_cons, if_neg hc]
  split at h
  · next v' r' e =>
    rw [e]
    obtain ⟨h1, h2, h3⟩ := h
    by_cases hv : v' = []
    · subst hv
      simpa using h1
    · simp only [if_neg hv]
      refine ⟨?_, h2, h3⟩
      rw [h1]
      cases v' with
      | nil => exact absurd rfl hv
      | cons _ _ => rfl
  · next e => rw [e]; exact h

set_option maxRecDepth 100000 in
set_option maxHeartbeats 1000000 in
theorem wordAt_any (s : ByteArray) (k : Nat) (w : World) (hl : s.size ≤ 1000000000) (hk : k < s.size) :
    Calls Tryz.prog 197 #[.string s, .int .i64 (k : Int)] w fun e w' => ∃ (v : List UInt8) (j : Nat) (b : Bool), e = .returned (.tuple #[.string ⟨v.toArray⟩, .int .i64 (j : Int), .bool b]) ∧ j ≤ s.size ∧
      wordIs (s.data.toList.drop k) s v j b ∧ Below w.heap.size w w' := by
  have HD := Lib.hid (drop_cons s k hk)
  have HU := Lib.hid (aUnquoted_any s k w hl hk)
  have HB := Lib.hid (bare_any s k w hl (by omega))
  by_cases h34 : s[k].toNat = 34
  · have b1 : (((s[k].toNat : Nat) : Int) == 34) = true := beq_yes (by omega)
    have HC : Hid (s[k] = 34) := toNat_eq h34
    clear h34
    go_enter Tryz.func197, Tryz.ntmps197
    go_wp2_with fail
    with_reducible refine HU.out.mono ?_
    rintro e w1 ⟨v, j, b, rfl, hj, hu, hb1⟩
    have HU1 := Lib.hid hu
    have HB1 := Lib.hid hb1
    clear hu hb1
    go_wp2_with fail
    refine bodyPost_ret (v := .tuple #[.string ⟨v.toArray⟩, .int .i64 (j : Int), .bool b]) (by simp [results, Tryz.results197, go_sem]) rfl ?_
    exact ⟨v, j, b, rfl, hj, by rw [HD.out]; exact wordIs_unq HU1.out HC.out, HB1.out⟩
  · have b1 : (((s[k].toNat : Nat) : Int) == 34) = false := beq_no (by omega)
    have HN : Hid (s[k] ≠ 34) := fun e => h34 (by rw [e]; rfl)
    clear h34
    go_enter Tryz.func197, Tryz.ntmps197
    go_wp2_with fail
    with_reducible refine HB.out.mono ?_
    rintro e w1 ⟨v, j, b, rfl, hj, hu, rfl⟩
    have HU1 := Lib.hid hu
    clear hu
    go_wp2_with fail
    refine bodyPost_ret (v := .tuple #[.string ⟨v.toArray⟩, .int .i64 (j : Int), .bool b]) (by simp [results, Tryz.results197, go_sem]) rfl ?_
    exact ⟨v, j, b, rfl, hj, by rw [HD.out] at HU1 ⊢; exact wordIs_bare HU1.out HN.out, Below.refl _ _⟩

/-- What a piece is to the reader. -/
def pcV : Pc → Value
  | .tok (.sgn c) _ => .iface 248 (.int .u8 (c.toNat : Int))
  | .tok (.wrd w) _ => .iface 279 (.string ⟨w.toArray⟩)
  | .fin b => .iface 252 (.agg #[.bool b])
set_option maxRecDepth 100000 in
set_option maxHeartbeats 1000000 in
theorem pieceAt_any (s : ByteArray) (k : Nat) (w : World) (hl : s.size ≤ 1000000000) (hk : k ≤ s.size) :
    Calls Tryz.prog 170 #[.string s, .int .i64 (k : Int)] w fun e w' => ∃ j : Nat, e = .returned (.tuple #[pcV (pcL (s.data.toList.drop k)), .int .i64 (j : Int)]) ∧ j ≤ s.size ∧
      (∀ t r, pcL (s.data.toList.drop k) = .tok t r → s.data.toList.drop j = r) ∧ Below w.heap.size w w' := by
  by_cases hlt : k < s.size
  · have b1 : ((k : Int) == (s.size : Int)) = false := beq_no (by omega)
    have HD := Lib.hid (drop_cons s k hlt)
    rw [HD.out]
    rcases Bool.eq_false_or_eq_true (signB s[k]) with hs | hs
    · have HS := Lib.hid (fun w => sign_yes hs w)
      have HP : Hid (pcL (s[k] :: s.data.toList.drop (k + 1)) = .tok (.sgn s[k]) (s.data.toList.drop (k + 1))) := by unfold Hid; rw [pcL_cons, if_pos hs]
      clear hs
      go_enter Tryz.func170, Tryz.ntmps170
      go_wp2_with (go_at_call 112; refine (HS.out _).mono ?_; rintro e w1 ⟨n, rfl, rfl⟩; have hnn : (0 : Int) ≤ (n : Int) := by omega)
      go_ret2
      refine ⟨k + 1, ?_, by omega, ?_, Below.refl _ _⟩
      · rw [HP.out]
        rfl
      · intro t r h
        rw [HP.out] at h
        cases h
        rfl
    · have HS := Lib.hid (fun w => sign_no hs w)
      have HW := Lib.hid (wordAt_any s k w hl hlt)
      have HP := Lib.hid (pcL_word s[k] (s.data.toList.drop (k + 1)) hs)
      clear hs
      go_enter Tryz.func170, Tryz.ntmps170
      go_wp2_with (go_at_call 112; refine (HS.out _).mono ?_; rintro e w1 ⟨rfl, rfl⟩)
      with_reducible refine HW.out.mono ?_
      rintro e w1 ⟨v, j, b, rfl, hj, hw, hb1⟩
      rw [HD.out] at hw
      unfold wordIs at hw
      cases hx : wordL (s[k] :: s.data.toList.drop (k + 1)) with
      | none =>
        rw [hx] at hw
        obtain rfl : b = false := hw
        have HP2 : Hid (pcL (s[k] :: s.data.toList.drop (k + 1)) = .fin false) := by unfold Hid; rw [HP.out, hx]
        have HB1 := Lib.hid hb1
        clear hx hb1 HP
        go_wp2_with fail
        go_ret2
        refine ⟨k, ?_, hk, ?_, HB1.out⟩
        · rw [HP2.out]
          rfl
        · intro t r h
          rw [HP2.out] at h
          cases h
      | some p =>
        obtain ⟨v', r'⟩ := p
        rw [hx] at hw
        obtain ⟨rfl, rfl, hr⟩ := hw
        have HP2 : Hid (pcL (s[k] :: s.data.toList.drop (k + 1)) = .tok (.wrd v) r') := by unfold Hid; rw [HP.out, hx]
        have HB1 := Lib.hid hb1
        have HR := Lib.hid hr
        clear hx hb1 HP hr
        go_wp2_with fail
        go_ret2
        refine ⟨j, ?_, hj, ?_, HB1.out⟩
        · rw [HP2.out]
          rfl
        · intro t r h
          rw [HP2.out] at h
          cases h
          exact HR.out
  · have b1 : ((k : Int) == (s.size : Int)) = true := beq_yes (by omega)
    have HE : Hid (s.data.toList.drop k = []) := List.drop_eq_nil_of_le (by simp; omega)
    go_enter Tryz.func170, Tryz.ntmps170
    go_wp2_with fail
    go_ret2
    refine ⟨k, ?_, hk, ?_, Below.refl _ _⟩
    · rw [HE.out]
      rfl
    · intro t r h
      rw [HE.out] at h
      cases h
end Go.Proofs.YtkmgflnmffdhjaaGreatDoor

/- Contracts of package addr: the reader's next piece. -/
namespace Go.Proofs.YtkmgflnmffdhjaaGreatDoor
open Go Go.RowKit

/-- All that lay lies as it lay, but for one block. -/
def GrB (B : Nat) (W W' : World) : Prop := W.grownBy W' (some B)
theorem GrB.refl (B : Nat) (W : World) : GrB B W W := ⟨rfl, rfl, rfl, Nat.le_refl _, fun _ _ _ => rfl⟩
theorem GrB.trans {B : Nat} {a b c : World} (h : GrB B a b) (k : GrB B b c) : GrB B a c := World.grownBy.trans h k
theorem GrB.below {B : Nat} {a b c : World} (h : GrB B a b) (k : Below b.heap.size b c) : GrB B a c := h.trans ⟨k.os, k.tape, k.output, k.size, fun i hi _ => k.block i hi⟩
theorem GrB.set {B : Nat} {a b : World} (h : GrB B a b) (j : Nat) (u : Value) : GrB B a (b.setCell ⟨B, j, none⟩ u) :=
  h.trans ⟨rfl, rfl, rfl, by simp, fun k _ hk => Below.heap_setCell b ⟨B, j, none⟩ u k (fun e => hk (by rw [e]))⟩
theorem GrB.size {B : Nat} {a b : World} (h : GrB B a b) : a.heap.size ≤ b.heap.size := World.grownBy.size h
theorem GrB.row {B : Nat} {w w' : World} (hb : GrB B w w') {base : Nat} {e : TypeId} {size : Nat} {v : Value} {n : Nat} {xs : List Value} (h : w.ownsRow base e size v n xs) (hB : v.ownBlock ≠ some B) : w'.ownsRow base e size v n xs :=
  h.kept hb (.inr hB)

/-- A reader: its text, its place, the piece ahead, what it told. -/
structure Raw (W : World) (B : Nat) (s : ByteArray) (k : Nat) (u tv : Value) : Prop where
  c0 : W.cell? ⟨B, 0, none⟩ = some (.string s)
  c1 : W.cell? ⟨B, 1, none⟩ = some (.int .i64 (k : Int))
  c2 : W.cell? ⟨B, 2, none⟩ = some u
  c3 : W.cell? ⟨B, 3, none⟩ = some tv
  f1 : W.frozen? ⟨B, 1, none⟩ = false
  f2 : W.frozen? ⟨B, 2, none⟩ = false
  f3 : W.frozen? ⟨B, 3, none⟩ = false
theorem Raw.lt {W : World} {B : Nat} {s : ByteArray} {k : Nat} {u tv : Value} (h : Raw W B s k u tv) : B < W.heap.size := World.block_lt_of_cell? _ _ h.c0
theorem Raw.block {W W' : World} {B : Nat} {s : ByteArray} {k : Nat} {u tv : Value} (h : Raw W B s k u tv) (hb : W'.heap[B]? = W.heap[B]?) : Raw W' B s k u tv :=
  ⟨(World.cell?_of_block (a := ⟨B, 0, none⟩) hb).trans h.c0, (World.cell?_of_block (a := ⟨B, 1, none⟩) hb).trans h.c1, (World.cell?_of_block (a := ⟨B, 2, none⟩) hb).trans h.c2, (World.cell?_of_block (a := ⟨B, 3, none⟩) hb).trans h.c3,
   (World.frozen?_of_block (a := ⟨B, 1, none⟩) hb).trans h.f1, (World.frozen?_of_block (a := ⟨B, 2, none⟩) hb).trans h.f2, (World.frozen?_of_block (a := ⟨B, 3, none⟩) hb).trans h.f3⟩
theorem Raw.below {W W' : World} {B : Nat} {s : ByteArray} {k : Nat} {u tv : Value} (h : Raw W B s k u tv) (hb : Below W.heap.size W W') : Raw W' B s k u tv := h.block (hb.block B h.lt)
theorem Raw.set1 {W : World} {B : Nat} {s : ByteArray} {k : Nat} {u tv : Value} (h : Raw W B s k u tv) (j : Nat) : Raw (W.setCell ⟨B, 1, none⟩ (.int .i64 (j : Int))) B s j u tv :=
  ⟨(World.cell?_setCell_other _ ⟨B, 1, none⟩ ⟨B, 0, none⟩ _ (by simp)).trans h.c0, World.cell?_setCell_same _ _ _ h.c1, (World.cell?_setCell_other _ ⟨B, 1, none⟩ ⟨B, 2, none⟩ _ (by simp)).trans h.c2, (World.cell?_setCell_other _ ⟨B, 1, none⟩ ⟨B, 3, none⟩ _ (by simp)).trans h.c3,
   (World.frozen?_setCell _ _ _ _).trans h.f1, (World.frozen?_setCell _ _ _ _).trans h.f2, (World.frozen?_setCell _ _ _ _).trans h.f3⟩
theorem Raw.set2 {W : World} {B : Nat} {s : ByteArray} {k : Nat} {u tv : Value} (h : Raw W B s k u tv) (u' : Value) : Raw (W.setCell ⟨B, 2, none⟩ u') B s k u' tv :=
  ⟨(World.cell?_setCell_other _ ⟨B, 2, none⟩ ⟨B, 0, none⟩ _ (by simp)).trans h.c0, (World.cell?_setCell_other _ ⟨B, 2, none⟩ ⟨B, 1, none⟩ _ (by simp)).trans h.c1, World.cell?_setCell_same _ _ _ h.c2, (World.cell?_setCell_other _ ⟨B, 2, none⟩ ⟨B, 3, none⟩ _ (by simp)).trans h.c3,
   (World.frozen?_setCell _ _ _ _).trans h.f1, (World.frozen?_setCell _ _ _ _).trans h.f2, (World.frozen?_setCell _ _ _ _).trans h.f3⟩
theorem Raw.set3 {W : World} {B : Nat} {s : ByteArray} {k : Nat} {u tv : Value} (h : Raw W B s k u tv) (tv' : Value) : Raw (W.setCell ⟨B, 3, none⟩ tv') B s k u tv' :=
  ⟨(World.cell?_setCell_other _ ⟨B, 3, none⟩ ⟨B, 0, none⟩ _ (by simp)).trans h.c0, (World.cell?_setCell_other _ ⟨B, 3, none⟩ ⟨B, 1, none⟩ _ (by simp)).trans h.c1, (World.cell?_setCell_other _ ⟨B, 3, none⟩ ⟨B, 2, none⟩ _ (by simp)).trans h.c2, World.cell?_setCell_same _ _ _ h.c3,
   (World.frozen?_setCell _ _ _ _).trans h.f1, (World.frozen?_setCell _ _ _ _).trans h.f2, (World.frozen?_setCell _ _ _ _).trans h.f3⟩

/-- A reader ahead of pieces; whether there is nothing left behind them. -/
def Rdr (W : World) (B : Nat) (s : ByteArray) (ts : List Tok) (b : Bool) (tv : Value) : Prop :=
  ∃ k u, Raw W B s k u tv ∧ k ≤ s.size ∧ wt ts ≤ 2 * s.size ∧
    (match ts with
     | [] => u = pcV (.fin b)
     | t :: r => u = pcV (.tok t []) ∧ toksA (s.data.toList.drop k) = (r, b))
theorem Rdr.below {W W' : World} {B : Nat} {s : ByteArray} {ts : List Tok} {b : Bool} {tv : Value} (h : Rdr W B s ts b tv) (hb : Below W.heap.size W W') : Rdr W' B s ts b tv := by
  obtain ⟨k, u, h1, h2⟩ := h
  exact ⟨k, u, h1.below hb, h2⟩
theorem Rdr.lt {W : World} {B : Nat} {s : ByteArray} {ts : List Tok} {b : Bool} {tv : Value} (h : Rdr W B s ts b tv) : B < W.heap.size := by
  obtain ⟨k, u, h1, h2⟩ := h
  exact h1.lt
theorem Rdr.wt {W : World} {B : Nat} {s : ByteArray} {ts : List Tok} {b : Bool} {tv : Value} (h : Rdr W B s ts b tv) : wt ts ≤ 2 * s.size := by
  obtain ⟨k, u, h1, h2, h3, h4⟩ := h
  exact h3
theorem Raw.rdr {W : World} {B : Nat} {s : ByteArray} {k k' : Nat} {tv : Value} {pc : Pc} (h : Raw W B s k' (pcV pc) tv) (hpc : pcL (sk (s.data.toList.drop k)) = pc) (hk : k' ≤ s.size)
    (ht : ∀ t r, pc = .tok t r → s.data.toList.drop k' = r) : Rdr W B s (toksA (s.data.toList.drop k)).1 (toksA (s.data.toList.drop k)).2 tv := by
  have hw := toksA_wt _ (s.data.toList.drop k) (Nat.le_refl _)
  have hw2 : wt (toksA (s.data.toList.drop k)).1 ≤ 2 * s.size := by
    rw [List.length_drop, len_toList] at hw
    omega
  refine ⟨k', pcV pc, h, hk, hw2, ?_⟩
  cases pc with
  | tok t r =>
    rw [toksA_tok hpc]
    refine ⟨by cases t <;> rfl, ?_⟩
    rw [ht t r rfl]
  | fin b => rw [toksA_fin hpc]

theorem pcV_face (p : Pc) : ∃ T V, pcV p = .iface T V := by
  match p with
  | .tok (.sgn c) _ => exact ⟨_, _, rfl⟩
  | .tok (.wrd w) _ => exact ⟨_, _, rfl⟩
  | .fin b => exact ⟨_, _, rfl⟩
theorem pieceAt_v (s : ByteArray) (k : Nat) (w : World) (hl : s.size ≤ 1000000000) (hk : k ≤ s.size) :
    Calls Tryz.prog 170 #[.string s, .int .i64 (k : Int)] w fun e w' => ∃ (j : Nat) (T : TypeId) (V : Value), e = .returned (.tuple #[.iface T V, .int .i64 (j : Int)]) ∧ pcV (pcL (s.data.toList.drop k)) = .iface T V ∧ j ≤ s.size ∧
      (∀ t r, pcL (s.data.toList.drop k) = .tok t r → s.data.toList.drop j = r) ∧ Below w.heap.size w w' :=
  (pieceAt_any s k w hl hk).mono fun e w' ⟨j, he, h⟩ => by
    obtain ⟨T, V, hTV⟩ := pcV_face (pcL (s.data.toList.drop k))
    rw [hTV] at he
    exact ⟨j, T, V, he, hTV, h⟩
set_option maxRecDepth 100000 in
set_option maxHeartbeats 4000000 in
theorem next_any (B : Nat) (s : ByteArray) (k : Nat) (u tv : Value) (w : World) (hr : Raw w B s k u tv) (hl : s.size ≤ 1000000000) (hk : k ≤ s.size) :
    Calls Tryz.prog 145 #[.pointer (some ⟨B, 0, none⟩)] w fun e w' => e = .returned (.tuple #[]) ∧
      Rdr w' B s (toksA (s.data.toList.drop k)).1 (toksA (s.data.toList.drop k)).2 tv ∧ GrB B w w' := by
  have HB := Lib.hid (fun W => behindBlanks_any s k W hl hk)
  have HP := Lib.hid (fun j W h => pieceAt_v s j W hl h)
  have HR := Lib.hid hr
  have c0 := hr.c0
  have c1 := hr.c1
  have c2 := hr.c2
  have f1 := hr.f1
  have f2 := hr.f2
  clear hr
  go_enter Tryz.func145, Tryz.ntmps145
  go_wp2_with fail
  go_region_with (first | (go_at_call 171; refine (HB.out _).mono ?_; rintro e w1 ⟨r, rfl, hr1, hr2, rfl⟩) | (go_at_call 170; refine (HP.out _ _ hr1).mono ?_; rintro e w2 ⟨j, T, V, rfl, hTV, hj, ht, hb⟩; have HR2 := Lib.hid ((HR.out.below (Below.refl _ _).drew).below hb); have HG2 := Lib.hid ((GrB.refl B w).below ((Below.refl _ _).drew.trans hb)); have c1' := HR2.out.c1; have c2' := HR2.out.c2; have f1' := HR2.out.f1; have f2' := HR2.out.f2; have HT := Lib.hid ht; have HTV := Lib.hid hTV; clear ht hb hTV))
  all_goals
    go_wp2_with fail
    go_end0
    first
      | exact ⟨rfl, Raw.rdr (pc := pcL (s.data.toList.drop r)) (by rw [HTV.out]; exact (HR2.out.set2 _).set1 j) (by rw [hr2]) hj HT.out, (HG2.out.set 2 _).set 1 _⟩
      | exact ⟨rfl, Raw.rdr (pc := pcL (s.data.toList.drop r)) (by rw [HTV.out]; exact (HR2.out.set1 j).set2 _) (by rw [hr2]) hj HT.out, (HG2.out.set 1 _).set 2 _⟩
end Go.Proofs.YtkmgflnmffdhjaaGreatDoor

/- Small laws of my own, of no function: a []string that came in. -/
namespace Go.Proofs.YtkmgflnmffdhjaaGreatDoor
open Go Go.RowKit Go.ChangeShapes Go.WideShapes Go.ChangeAt Go.Deep

/-- '[]byte(s)': what it lays, as bytes that came in. -/
theorem bytesRow_arg (W : World) (s : ByteArray) (e : TypeId) (fr : Nat × Nat) (hs : s.size ≤ maxLen) :
    bytesArg (W.drew.alloc (.cells (bytesRow s (grownCap W s.size 0 e)) e fr)) (.slice (some ⟨W.heap.size, 0, none⟩) s.size (grownCap W s.size 0 e)) s.data.toList := by
  refine ⟨_, grownCap W s.size 0 e, by rw [len_toList], by rw [len_toList]; exact grownCap_ge _ _ _ _, grownCap_le_maxLen _ _ _ _ hs, .inr ⟨W.heap.size, 0, rfl, by simp, fun j hj => ?_⟩⟩
  have hnew : (W.drew.alloc (.cells (bytesRow s (grownCap W s.size 0 e)) e fr)).heap[W.heap.size]? = some (.cells (bytesRow s (grownCap W s.size 0 e)) e fr) := heap_alloc_new W.drew _
  simp only [World.cell?, hnew, Nat.zero_add]
  have hj' : j < s.size := by simpa using hj
  simp [bytesRow, byteV, Array.getElem?_append, hj']
theorem conv_bytesArg {P : Program} (w : World) (src dst e : TypeId) (s : ByteArray) (hsz : s.size ≤ maxLen) (hs : P.underlying src = some .string) (hd : P.underlying dst = some (.slice e)) (he : P.underlying e = some (.int .u8)) :
    ∃ W1 cap, (convert src dst (.string s)).run P w = .ok (.slice (some ⟨w.heap.size, 0, none⟩) s.size cap) W1 ∧ bytesArg W1 (.slice (some ⟨w.heap.size, 0, none⟩) s.size cap) s.data.toList ∧ Below w.heap.size w W1 :=
  ⟨_, _, run_bytes_of_string (P := P) w src dst e s hs hd he, bytesRow_arg w s e _ hsz, (Below.refl _ _).drew.alloc (Nat.le_refl _) _⟩
end Go.Proofs.YtkmgflnmffdhjaaGreatDoor

/- Contracts of package addr: the reader's signs and words. -/
namespace Go.Proofs.YtkmgflnmffdhjaaGreatDoor
open Go Go.RowKit

theorem sign_sign (c : Int) (W : World) : (Instr.typeAssert (.iface 248 (.int .u8 c)) 222 248 true).run Tryz.prog W = .ok (.tuple #[.int .u8 c, .bool true]) W := by kernel_rfl
theorem word_sign (s : ByteArray) (W : World) : (Instr.typeAssert (.iface 279 (.string s)) 222 248 true).run Tryz.prog W = .ok (.tuple #[.int .u8 0, .bool false]) W := by kernel_rfl
theorem end_sign (b : Bool) (W : World) : (Instr.typeAssert (.iface 252 (.agg #[.bool b])) 222 248 true).run Tryz.prog W = .ok (.tuple #[.int .u8 0, .bool false]) W := by kernel_rfl
theorem sign_word (c : Int) (W : World) : (Instr.typeAssert (.iface 248 (.int .u8 c)) 222 279 true).run Tryz.prog W = .ok (.tuple #[.string ⟨#[]⟩, .bool false]) W := by kernel_rfl
theorem word_word (s : ByteArray) (W : World) : (Instr.typeAssert (.iface 279 (.string s)) 222 279 true).run Tryz.prog W = .ok (.tuple #[.string s, .bool true]) W := by kernel_rfl
theorem end_word (b : Bool) (W : World) : (Instr.typeAssert (.iface 252 (.agg #[.bool b])) 222 279 true).run Tryz.prog W = .ok (.tuple #[.string ⟨#[]⟩, .bool false]) W := by kernel_rfl
theorem sign_end (c : Int) (W : World) : (Instr.typeAssert (.iface 248 (.int .u8 c)) 222 252 true).run Tryz.prog W = .ok (.tuple #[.agg #[.bool false], .bool false]) W := by kernel_rfl
theorem word_end (s : ByteArray) (W : World) : (Instr.typeAssert (.iface 279 (.string s)) 222 252 true).run Tryz.prog W = .ok (.tuple #[.agg #[.bool false], .bool false]) W := by kernel_rfl
theorem end_end (b : Bool) (W : World) : (Instr.typeAssert (.iface 252 (.agg #[.bool b])) 222 252 true).run Tryz.prog W = .ok (.tuple #[.agg #[.bool b], .bool true]) W := by kernel_rfl

theorem Rdr.step {W : World} {B : Nat} {s : ByteArray} {t : Tok} {ts : List Tok} {b : Bool} {tv : Value} (h : Rdr W B s (t :: ts) b tv) (hl : s.size ≤ 1000000000) :
    ∃ k u, Raw W B s k u tv ∧ u = pcV (.tok t []) ∧
    Calls Tryz.prog 145 #[.pointer (some ⟨B, 0, none⟩)] W fun e w' => e = .returned (.tuple #[]) ∧ Rdr w' B s ts b tv ∧ GrB B W w' := by
  obtain ⟨k, u, h1, h2, h3, h4, h5⟩ := h
  refine ⟨k, u, h1, h4, (next_any B s k u tv W h1 hl h2).mono fun e w' ⟨he, hr, hg⟩ => ⟨he, ?_, hg⟩⟩
  rw [h5] at hr
  exact hr

set_option maxRecDepth 100000 in
set_option maxHeartbeats 1000000 in
theorem takesA_any (B : Nat) (s : ByteArray) (ts : List Tok) (b : Bool) (tv : Value) (c : UInt8) (w : World) (hr : Rdr w B s ts b tv) (hl : s.size ≤ 1000000000) :
    Calls Tryz.prog 172 #[.pointer (some ⟨B, 0, none⟩), .int .u8 (c.toNat : Int)] w fun e w' => e = .returned (.bool (takesT c ts).1) ∧
      Rdr w' B s (takesT c ts).2 b tv ∧ GrB B w w' := by
  have HR := Lib.hid hr
  cases ts with
  | nil =>
    obtain ⟨k, u, h1, h2, h3, rfl⟩ := hr
    have c2 := h1.c2
    unfold pcV at c2
    clear h1
    have ta1 := sign_sign
    have ta2 := word_sign
    have ta3 := end_sign
    go_enter Tryz.func172, Tryz.ntmps172
    go_wp2_with fail
    go_ret
    exact ⟨rfl, HR.out, GrB.refl _ _⟩
  | cons t ts =>
    obtain ⟨k, u, h1, rfl, HN⟩ := hr.step hl
    have HN := Lib.hid HN
    have c2 := h1.c2
    clear h1 hr
    cases t with
    | wrd v =>
      unfold pcV at c2
      have ta1 := sign_sign
      have ta2 := word_sign
      have ta3 := end_sign
      go_enter Tryz.func172, Tryz.ntmps172
      go_wp2_with fail
      go_ret
      exact ⟨rfl, HR.out, GrB.refl _ _⟩
    | sgn d =>
      unfold pcV at c2
      by_cases hd : d = c
      · subst hd
        have b1 : (((d.toNat : Nat) : Int) == ((d.toNat : Nat) : Int)) = true := beq_yes rfl
        have e1 : takesT d (.sgn d :: ts) = (true, ts) := by simp [takesT]
        rw [e1]
        clear e1
        have ta1 := sign_sign
        have ta2 := word_sign
        have ta3 := end_sign
        go_enter Tryz.func172, Tryz.ntmps172
        go_wp2_with fail
        with_reducible refine HN.out.mono ?_
        rintro e w1 ⟨rfl, hr1, hg1⟩
        have HR1 := Lib.hid hr1
        have HG1 := Lib.hid hg1
        clear hr1 hg1
        go_wp2_with fail
        go_ret
        exact ⟨rfl, HR1.out, HG1.out⟩
      · have b1 : (((d.toNat : Nat) : Int) == ((c.toNat : Nat) : Int)) = false := beq_no (fun h => hd (toNat_eq (by omega)))
        have e1 : takesT c (.sgn d :: ts) = (false, .sgn d :: ts) := by simp [takesT, hd]
        rw [e1]
        clear e1
        have ta1 := sign_sign
        have ta2 := word_sign
        have ta3 := end_sign
        go_enter Tryz.func172, Tryz.ntmps172
        go_wp2_with fail
        go_ret
        exact ⟨rfl, HR.out, GrB.refl _ _⟩
theorem takesA_int (B : Nat) (s : ByteArray) (ts : List Tok) (b : Bool) (tv : Value) (c : UInt8) (n : Int) (hn : (c.toNat : Int) = n) (w : World) (hr : Rdr w B s ts b tv) (hl : s.size ≤ 1000000000) :
    Calls Tryz.prog 172 #[.pointer (some ⟨B, 0, none⟩), .int .u8 n] w fun e w' => e = .returned (.bool (takesT c ts).1) ∧
      Rdr w' B s (takesT c ts).2 b tv ∧ GrB B w w' := by
  subst hn
  exact takesA_any B s ts b tv c w hr hl

def wordV : Option (List UInt8) → Value
  | some w => .tuple #[.string ⟨w.toArray⟩, .bool true]
  | none => .tuple #[.string ⟨#[]⟩, .bool false]
set_option maxRecDepth 100000 in
set_option maxHeartbeats 1000000 in
theorem wordA_any (B : Nat) (s : ByteArray) (ts : List Tok) (b : Bool) (tv : Value) (w : World) (hr : Rdr w B s ts b tv) (hl : s.size ≤ 1000000000) :
    Calls Tryz.prog 199 #[.pointer (some ⟨B, 0, none⟩)] w fun e w' => e = .returned (wordV (wordT ts).1) ∧
      Rdr w' B s (wordT ts).2 b tv ∧ GrB B w w' := by
  have HR := Lib.hid hr
  cases ts with
  | nil =>
    obtain ⟨k, u, h1, h2, h3, rfl⟩ := hr
    have c2 := h1.c2
    unfold pcV at c2
    clear h1
    have ta1 := sign_word
    have ta2 := word_word
    have ta3 := end_word
    go_enter Tryz.func199, Tryz.ntmps199
    go_wp2_with fail
    go_ret2
    exact ⟨rfl, HR.out, GrB.refl _ _⟩
  | cons t ts =>
    obtain ⟨k, u, h1, rfl, HN⟩ := hr.step hl
    have HN := Lib.hid HN
    have c2 := h1.c2
    clear h1 hr
    cases t with
    | sgn d =>
      unfold pcV at c2
      have ta1 := sign_word
      have ta2 := word_word
      have ta3 := end_word
      go_enter Tryz.func199, Tryz.ntmps199
      go_wp2_with fail
      go_ret2
      exact ⟨rfl, HR.out, GrB.refl _ _⟩
    | wrd v =>
      unfold pcV at c2
      have ta1 := sign_word
      have ta2 := word_word
      have ta3 := end_word
      go_enter Tryz.func199, Tryz.ntmps199
      go_wp2_with fail
      with_reducible refine HN.out.mono ?_
      rintro e w1 ⟨rfl, hr1, hg1⟩
      have HR1 := Lib.hid hr1
      have HG1 := Lib.hid hg1
      clear hr1 hg1
      go_wp2_with fail
      go_ret2
      exact ⟨rfl, HR1.out, HG1.out⟩
set_option maxRecDepth 100000 in
set_option maxHeartbeats 1000000 in
theorem ended_any (B : Nat) (s : ByteArray) (ts : List Tok) (b : Bool) (tv : Value) (w : World) (hr : Rdr w B s ts b tv) :
    Calls Tryz.prog 148 #[.pointer (some ⟨B, 0, none⟩)] w fun e w' => e = .returned (.bool (ts.isEmpty && b)) ∧ Below w.heap.size w w' := by
  cases ts with
  | nil =>
    obtain ⟨k, u, h1, h2, h3, rfl⟩ := hr
    have c2 := h1.c2
    unfold pcV at c2
    clear h1
    have ta1 := sign_end
    have ta2 := word_end
    have ta3 := end_end
    go_enter Tryz.func148, Tryz.ntmps148
    go_wp2_with fail
    go_ret
    exact ⟨rfl, (Below.refl _ _).alloc (Nat.le_refl _) _⟩
  | cons t ts =>
    obtain ⟨k, u, h1, h2, h3, rfl, h5⟩ := hr
    have c2 := h1.c2
    clear h1 h5
    cases t with
    | sgn d =>
      unfold pcV at c2
      have ta1 := sign_end
      have ta2 := word_end
      have ta3 := end_end
      go_enter Tryz.func148, Tryz.ntmps148
      go_wp2_with fail
      go_ret
      exact ⟨rfl, Below.refl _ _⟩
    | wrd v =>
      unfold pcV at c2
      have ta1 := sign_end
      have ta2 := word_end
      have ta3 := end_end
      go_enter Tryz.func148, Tryz.ntmps148
      go_wp2_with fail
      go_ret
      exact ⟨rfl, Below.refl _ _⟩
end Go.Proofs.YtkmgflnmffdhjaaGreatDoor

/- Contracts of package addr: the reader's words; what it tells. -/
namespace Go.Proofs.YtkmgflnmffdhjaaGreatDoor
open Go Go.RowKit

def wsV (l : List UInt8) : Value := .string ⟨l.toArray⟩
theorem Tryz.infoWs : (Tryz.prog.info? 9).map (fun i => (i.zero, i.size, i.bytes)) = some (some (.string ⟨#[]⟩), 1, 16) := by kernel_rfl
theorem wsCast {w : World} {base n n' size : Nat} {e : TypeId} {v : Value} {xs ys : List Value} (h : w.ownsRow base e size v n xs) (h1 : n = n') (h2 : xs = ys) : w.ownsRow base e size v n' ys := by subst h1 h2; exact h
theorem GrB.own {B : Nat} {w W W' : World} {row : Option Nat} (h : GrB B w W) (hg : W.grownBy W' row) (hr : ∀ q, row = some q → w.heap.size ≤ q) : GrB B w W' :=
  ⟨hg.os.trans h.os, hg.tape.trans h.tape, hg.output.trans h.output, Nat.le_trans h.size hg.size, fun k hk hB => (hg.block k (Nat.lt_of_lt_of_le hk h.size) (fun e => by have := hr k e.symm; omega)).trans (h.block k hk hB)⟩
theorem Rdr.block {W W' : World} {B : Nat} {s : ByteArray} {ts : List Tok} {b : Bool} {tv : Value} (h : Rdr W B s ts b tv) (hb : W'.heap[B]? = W.heap[B]?) : Rdr W' B s ts b tv := by
  obtain ⟨k, u, h1, h2⟩ := h
  exact ⟨k, u, h1.block hb, h2⟩
theorem Rdr.own {W W' : World} {B : Nat} {s : ByteArray} {ts : List Tok} {b : Bool} {tv : Value} {row : Option Nat} (h : Rdr W B s ts b tv) (hg : W.grownBy W' row) (hr : ∀ q, row = some q → q ≠ B) : Rdr W' B s ts b tv :=
  h.block (hg.block B h.lt (fun e => hr B e.symm rfl))

set_option maxRecDepth 100000 in
set_option maxHeartbeats 4000000 in
theorem wordsA_any (B : Nat) (s : ByteArray) (ts : List Tok) (b : Bool) (tv : Value) (w : World) (hr : Rdr w B s ts b tv) (hl : s.size ≤ 1000000000) :
    Calls Tryz.prog 173 #[.pointer (some ⟨B, 0, none⟩)] w fun e w' => ∃ v, e = .returned v ∧ w'.ownsRow w.heap.size 9 1 v (wordsT ts).1.length ((wordsT ts).1.map wsV) ∧
      Rdr w' B s (wordsT ts).2 b tv ∧ GrB B w w' := by
  have HWd := Lib.hid (fun ts W h => wordA_any B s ts b tv W h hl)
  obtain ⟨i0, hi, hz⟩ := Option.map_eq_some_iff.1 Tryz.infoWs
  simp only [Prod.mk.injEq] at hz
  obtain ⟨hz0, hz1, hz2⟩ := hz
  have hBlt := hr.lt
  have hlen : ts.length ≤ 2000000000 := by have := wt_len ts; have := hr.wt; omega
  have HR := Lib.hid hr
  clear hr
  go_enter Tryz.func173, Tryz.ntmps173
  go_wp2_with fail
  go_loopg [3] ts.length (fun g v3 wr => ∃ (v : Value) (acc : List (List UInt8)) (t1 : List Tok), v = v3 ∧ g = t1.length ∧ acc.length + t1.length ≤ ts.length ∧ Hid (wr.ownsRow w.heap.size 9 1 v3 acc.length (acc.map wsV)) ∧ Hid (Rdr wr B s t1 b tv) ∧ Hid (GrB B w wr) ∧
    Hid (wordsT ts = (acc ++ (wordsT t1).1, (wordsT t1).2)))
  case atStart => exact ⟨_, [], ts, rfl, rfl, by simp, World.ownsRow_nil _ _ _ _, HR.out, GrB.refl _ _, rfl⟩
  case round =>
    obtain ⟨v3, acc, t1, rfl, rfl, hal, HO, HRr, HG, HS⟩ := hrel
    have HW1 := Lib.hid (HWd.out t1 wr HRr.out)
    have hne : v3.ownBlock ≠ some B := fun e => by have := (HO.out.lt B e).1; omega
    cases t1 with
    | nil =>
      go_wp2_with fail
      with_reducible refine HW1.out.mono ?_
      rintro e w1 ⟨rfl, hr1, hg1⟩
      have HR1 := Lib.hid hr1
      have HG1 := Lib.hid (HG.out.trans hg1)
      have HO1 := Lib.hid (GrB.row hg1 HO.out hne)
      clear hr1 hg1 HW1
      unfold wordT wordV
      go_wp2_with fail
      go_ret
      refine ⟨v3, rfl, ?_, ?_, HG1.out⟩
      · rw [HS.out]
        exact wsCast HO1.out (by simp [wordsT]) (by simp [wordsT])
      · rw [HS.out]
        exact HR1.out
    | cons t t2 =>
      cases t with
      | sgn d =>
        go_wp2_with fail
        with_reducible refine HW1.out.mono ?_
        rintro e w1 ⟨rfl, hr1, hg1⟩
        have HR1 := Lib.hid hr1
        have HG1 := Lib.hid (HG.out.trans hg1)
        have HO1 := Lib.hid (GrB.row hg1 HO.out hne)
        clear hr1 hg1 HW1
        unfold wordT wordV
        go_wp2_with fail
        go_ret
        refine ⟨v3, rfl, ?_, ?_, HG1.out⟩
        · rw [HS.out]
          exact wsCast HO1.out (by simp [wordsT]) (by simp [wordsT])
        · rw [HS.out]
          exact HR1.out
      | wrd x =>
        rw [List.length_cons] at hal
        go_wp2_with fail
        with_reducible refine HW1.out.mono ?_
        rintro e w1 ⟨rfl, hr1, hg1⟩
        have HR1 : Hid (Rdr w1 B s t2 b tv) := hr1
        have HG1 := Lib.hid (HG.out.trans hg1)
        have HO1 := Lib.hid (GrB.row hg1 HO.out hne)
        have hsz := HG1.out.size
        clear hr1 hg1 HW1
        unfold wordT wordV
        go_wp2_with (at_builtin; refine wpList_append_own _ rfl _ _ 94 rfl w.heap.size 9 i0 (.string ⟨#[]⟩) 1 16 Tryz.underlying94 hi hz0 hz1 hz2 rfl (by decide) _ acc.length (acc.map wsV) rfl (HO1.out.alloc _) ⟨w1.heap.size, 0, none⟩ 1 1 [.string ⟨x.toArray⟩] rfl rfl (cell_one_new w1 _ _) (by simp [Value.oneCell']) (by unfold maxLen; omega) (by omega) (by simp; omega) ?_; intro v4 w4 hown4 hgrow4 _)
        have HA : Below w1.heap.size w1 (w1.alloc (.cells #[.string ⟨x.toArray⟩] 9)) := (Below.refl _ _).alloc (Nat.le_refl _) _
        have HG4 := Lib.hid (GrB.own (HG1.out.below HA) hgrow4 (fun q hq => (HO1.out.lt q hq).1))
        have HR4 := Lib.hid (Rdr.own (HR1.out.below HA) hgrow4 (fun q hq => by have := (HO1.out.lt q hq).1; omega))
        have HO4 := Lib.hid hown4
        clear hgrow4 hown4 HA
        go_roundg t2.length
        case measure => simp
        case rel =>
          refine ⟨_, acc ++ [x], t2, rfl, rfl, by simp; omega, wsCast HO4.out (by simp) (by simp [wsV]), HR4.out, HG4.out, ?_⟩
          unfold Hid
          rw [HS.out]
          simp [wordsT]

/-- strings.Join of words. -/
theorem joinA_any (v : Value) (ws : List (List UInt8)) (sep : ByteArray) (base : Nat) (w : World) (h : w.ownsRow base 9 1 v ws.length (ws.map wsV)) (hw : wsW ws ≤ 4000000000) (hs : sep.data.toList.length ≤ 1) :
    Calls Tryz.prog 88 #[v, .string sep] w fun e w' => e = .returned (.string ⟨(Lib.join ws sep.data.toList).toArray⟩) ∧ Below w.heap.size w w' := by
  have hj := join_len ws sep.data.toList hs
  have hwl : ws.length ≤ wsW ws := by
    clear h hw hj
    induction ws with
    | nil => exact Nat.le_refl _
    | cons x ws ih => rw [wsW_cons, List.length_cons]; omega
  rcases h.2 with ⟨rfl, h0⟩ | ⟨g, cap, cur, rfl, _, hh, hc, hm, hsz, ht⟩
  · obtain rfl : ws = [] := List.eq_nil_of_length_eq_zero h0
    exact (Tryz.strings_Join_none none 0 sep w).mono fun e w' ⟨he, hw'⟩ => ⟨he, by rw [hw']; exact Below.refl _ _⟩
  · have hx : (ws.map (fun l => (⟨l.toArray⟩ : ByteArray))).map (·.data.toList) = ws := by
      rw [List.map_map]
      exact List.map_id'' (fun l => rfl) ws
    have := Tryz.strings_Join g 0 cap (ws.map (fun l => (⟨l.toArray⟩ : ByteArray))) sep w ?_ (Array.getElem?_eq_some_iff.1 hh).1 (by rw [List.length_map]; omega) (by rw [List.length_map]; exact hc) (by rw [hx]; omega)
    · rw [hx, List.length_map] at this
      exact this
    · intro j x hx2
      rw [List.getElem?_map] at hx2
      cases hj2 : ws[j]? with
      | none => rw [hj2] at hx2; cases hx2
      | some l =>
        rw [hj2] at hx2
        cases hx2
        have hjl : j < ws.length := (List.getElem?_eq_some_iff.1 hj2).1
        have e1 : (ws.map wsV)[j]? = some (wsV l) := by rw [List.getElem?_map, hj2]; rfl
        rw [← ht, List.getElem?_take, if_pos (by omega)] at e1
        simp only [World.cell?, hh]
        simpa [wsV] using e1
set_option maxRecDepth 100000 in
theorem named_anyA (v : Value) (ws : List (List UInt8)) (base : Nat) (w : World) (h : w.ownsRow base 9 1 v ws.length (ws.map wsV)) (hw : wsW ws ≤ 4000000000) :
    Calls Tryz.prog 201 #[v] w fun e w' => e = .returned (.string ⟨(Lib.join ws [32]).toArray⟩) ∧ Below w.heap.size w w' := by
  have HJ := Lib.hid (joinA_any v ws ⟨#[32]⟩ base w h hw (by decide))
  clear h
  go_enter Tryz.func201, Tryz.ntmps201
  go_wp2_with fail
  with_reducible refine HJ.out.mono ?_
  rintro e w1 ⟨rfl, hb1⟩
  go_wp2_with fail
  go_ret
  exact ⟨rfl, hb1⟩
end Go.Proofs.YtkmgflnmffdhjaaGreatDoor
