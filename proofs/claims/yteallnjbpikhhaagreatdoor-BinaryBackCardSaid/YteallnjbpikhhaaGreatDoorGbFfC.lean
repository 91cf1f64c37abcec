/- Contracts of package fetch: slices.Clone of cuts and of kids. -/
import Derived.Test.YteallnjbpikhhaaGreatDoorGbFeH
import Derived.Test.YteallnjbpikhhaaGreatDoorGbLst
namespace Go.Proofs.YteallnjbpikhhaaGreatDoor
open Go Go.RowKit

theorem own_cell {W : World} {b n m cap size g : Nat} {ty : TypeId} {xs : List Value} (h : W.ownsRow b ty size (.slice (some ⟨g, 0, none⟩) m cap) n xs) (j : Nat) (u : Value) (hj : xs[j]? = some u) : W.cell? ⟨g, j, none⟩ = some u := by
  rcases h.2 with ⟨e, _⟩ | ⟨g', cap', cur, e, _, hh, _, _, _, ht⟩
  · cases e
  · obtain ⟨e1, _, _⟩ := Value.slice.inj e
    obtain rfl : g = g' := by injection e1 with e2; injection e2
    rw [← ht, List.getElem?_take] at hj
    split at hj
    · simp only [World.cell?, hh]
      simpa using hj
    · cases hj
theorem spCells_one (cs : List Sp) : ∀ u ∈ spCells cs, u.oneCell' = true := by
  intro u hu
  unfold spCells at hu
  obtain ⟨p, _, hp⟩ := List.mem_flatMap.1 hu
  unfold spC at hp
  simp only [List.mem_cons, List.not_mem_nil, or_false] at hp
  rcases hp with rfl | rfl <;> rfl
theorem kidCells_one {S : Nat → Prop} {W : World} : ∀ {ts : List Tr} {us : List Value} (_ : kidsAt S W ts us), ∀ u ∈ us.flatMap partCells, u.oneCell' = true
  | [], us, hk => by
    unfold kidsAt at hk
    subst hk
    intro u hu
    simp at hu
  | t :: r, us, hk => by
    unfold kidsAt at hk
    obtain ⟨u, us', rfl, h2, h3⟩ := hk
    intro x hx
    rw [List.flatMap_cons] at hx
    rcases List.mem_append.1 hx with hx | hx
    · obtain ⟨_, _, _, _, _, _, rfl⟩ := treeAt_agg h2
      unfold partCells at hx
      simp only [List.mem_cons, List.not_mem_nil, or_false] at hx
      rcases hx with rfl | rfl | rfl | rfl | rfl | rfl | rfl | rfl | rfl <;> rfl
    · exact kidCells_one h3 x hx
theorem kidCells_len {S : Nat → Prop} {W : World} : ∀ {ts : List Tr} {us : List Value} (_ : kidsAt S W ts us), (us.flatMap partCells).length = ts.length * 9
  | [], us, hk => by
    unfold kidsAt at hk
    subst hk
    rfl
  | t :: r, us, hk => by
    unfold kidsAt at hk
    obtain ⟨u, us', rfl, h2, h3⟩ := hk
    rw [List.flatMap_cons, List.length_append, kidCells_len h3, List.length_cons]
    obtain ⟨_, _, _, _, _, _, rfl⟩ := treeAt_agg h2
    show 9 + _ = _
    omega
/-- A row of cells that is made anew. -/
def rowNew (ty : TypeId) (size n : Nat) (xs : List Value) (w : World) (e : Ending) (w' : World) : Prop :=
  ∃ a c, e = .returned (.slice a n c) ∧ w'.ownsRow w.heap.size ty size (.slice a n c) n xs ∧ Below w.heap.size w w'
set_option maxRecDepth 100000 in
set_option maxHeartbeats 1000000 in
theorem cloneC_any (a : Option Addr) (n c : Nat) (cs : List Sp) (w : World) (ho : w.ownsRow 0 28 2 (.slice a n c) cs.length (spCells cs)) (hl : cs.length ≤ 1000000) :
    Calls Tryz.prog 48 #[.slice a n c] w (rowNew 28 2 cs.length (spCells cs) w) := by
  unfold rowNew
  obtain ⟨i0, hi0, hz0, hz1, hz2⟩ := info_parts Tryz.infoSp
  have knil : ∀ (W : World) (a : Option Addr) (n c n' c' : Nat), (binOp .eql 30 (.slice a n c) (.slice none n' c')).run Tryz.prog W = .ok (.bool a.isNone) W := fun W a n c n' c' => Lib.run_eql_slice_nil W _ _ a n c n' c' Tryz.underlying30
  have HOw := Lib.hid ho
  rcases ho.2 with ⟨e, h0⟩ | ⟨g, cap, cur, e, _, hh, hc, hm, hs, ht⟩
  · obtain ⟨rfl, rfl, rfl⟩ := Value.slice.inj e
    obtain rfl : cs = [] := List.eq_nil_of_length_eq_zero h0
    clear ho
    go_enter Tryz.func48, Tryz.ntmps48
    go_wp2
    go_ret
    exact ⟨none, 0, rfl, World.ownsRow_nil _ _ _ _, Below.refl _ _⟩
  · obtain ⟨rfl, rfl, rfl⟩ := Value.slice.inj e
    have hlen : (spCells cs).length = cs.length * 2 := ho.1
    have HO := Lib.hid (World.ownsRow_made (base := w.heap.size) (e := 28) (size := 2) w #[] 0 (Nat.le_refl _) (Nat.zero_le _) rfl)
    have HN : Hid (∀ j u, (spCells cs)[j]? = some u → (w.alloc (.cells #[] 28)).cell? ((⟨g, 0, none⟩ : Addr).add j) = some u) := fun j u hj => by
      rw [Addr.add_lit, Nat.zero_add]
      have h1 := own_cell HOw.out j u hj
      exact (World.cell?_of_block (a := ⟨g, j, none⟩) (Below.heap_alloc _ _ _ (Array.getElem?_eq_some_iff.1 hh).1)).trans h1
    have HI0 := Lib.hid hi0
    have HZ0 := Lib.hid hz0
    have HZ1 := Lib.hid hz1
    have HZ2 := Lib.hid hz2
    clear hi0 hz0 hz1 hz2 ho hh ht e
    go_enter Tryz.func48, Tryz.ntmps48
    go_wp2_with (at_builtin; refine wpList_append_own _ rfl _ _ 30 rfl w.heap.size 28 i0 (.agg #[.int .i64 0, .int .i64 0]) 2 16 Tryz.underlying30 HI0.out HZ0.out HZ1.out HZ2.out rfl (by decide) _ _ _ rfl HO.out ⟨g, 0, none⟩ cs.length c (spCells cs) rfl ?c0 ?c1 ?c2 ?c3 ?c4 ?c5 ?_)
    case c0 => exact hlen
    case c1 => exact HN.out
    case c2 => exact spCells_one cs
    case c3 => unfold maxLen; omega
    case c4 => omega
    case c5 => simp
    intro v4 w4 hown4 hgrow4 _
    have HB4 : Hid (Below w.heap.size w w4) := ((Below.refl _ _).alloc (Nat.le_refl _) _).grown hgrow4 (by simp) (fun q hq => (HO.out.lt q hq).1)
    replace hown4 : w4.ownsRow w.heap.size 28 2 v4 cs.length (spCells cs) := by simpa using hown4
    obtain ⟨a4, c4, rfl⟩ : ∃ a4 c4, v4 = .slice a4 cs.length c4 := by
      rcases hown4.2 with ⟨e, h0⟩ | ⟨g4, cap4, cur4, e, _⟩
      · exact ⟨none, 0, by rw [e, h0]⟩
      · exact ⟨_, cap4, e⟩
    have HO4 := Lib.hid hown4
    clear hown4 hgrow4
    go_wp2_with fail
    go_ret
    exact ⟨a4, c4, rfl, HO4.out, HB4.out⟩
set_option maxRecDepth 100000 in
set_option maxHeartbeats 1000000 in
theorem cloneK_any (a : Option Addr) (n c k : Nat) (xs : List Value) (w : World) (ho : w.ownsRow 0 32 9 (.slice a n c) k xs) (hx : ∀ u ∈ xs, u.oneCell' = true) (hl : k ≤ 1000000) :
    Calls Tryz.prog 49 #[.slice a n c] w (rowNew 32 9 k xs w) := by
  unfold rowNew
  obtain ⟨i0, hi0, hz0, hz1, hz2⟩ := info_parts Tryz.infoPt
  have knil : ∀ (W : World) (a : Option Addr) (n c n' c' : Nat), (binOp .eql 29 (.slice a n c) (.slice none n' c')).run Tryz.prog W = .ok (.bool a.isNone) W := fun W a n c n' c' => Lib.run_eql_slice_nil W _ _ a n c n' c' Tryz.underlying29
  have HOw := Lib.hid ho
  rcases ho.2 with ⟨e, h0⟩ | ⟨g, cap, cur, e, _, hh, hc, hm, hs, ht⟩
  · obtain ⟨rfl, rfl, rfl⟩ := Value.slice.inj e
    subst h0
    obtain rfl : xs = [] := List.eq_nil_of_length_eq_zero (by have := ho.1; omega)
    clear ho
    go_enter Tryz.func49, Tryz.ntmps49
    go_wp2
    go_ret
    exact ⟨none, 0, rfl, World.ownsRow_nil _ _ _ _, Below.refl _ _⟩
  · obtain ⟨rfl, rfl, rfl⟩ := Value.slice.inj e
    have hlen : xs.length = n * 9 := ho.1
    have HO := Lib.hid (World.ownsRow_made (base := w.heap.size) (e := 32) (size := 9) w #[] 0 (Nat.le_refl _) (Nat.zero_le _) rfl)
    have HN : Hid (∀ j u, xs[j]? = some u → (w.alloc (.cells #[] 32)).cell? ((⟨g, 0, none⟩ : Addr).add j) = some u) := fun j u hj => by
      rw [Addr.add_lit, Nat.zero_add]
      have h1 := own_cell HOw.out j u hj
      exact (World.cell?_of_block (a := ⟨g, j, none⟩) (Below.heap_alloc _ _ _ (Array.getElem?_eq_some_iff.1 hh).1)).trans h1
    have HX := Lib.hid hx
    have HI0 := Lib.hid hi0
    have HZ0 := Lib.hid hz0
    have HZ1 := Lib.hid hz1
    have HZ2 := Lib.hid hz2
    clear hi0 hz0 hz1 hz2 ho hh ht e hx
    go_enter Tryz.func49, Tryz.ntmps49
    go_wp2_with (at_builtin; refine wpList_append_own _ rfl _ _ 29 rfl w.heap.size 32 i0 (.agg #[.int .i64 0, .int .i64 0, .int .i64 0, .int .i64 0, .int .i64 0, .slice none 0 0, .slice none 0 0, .int .i64 0, .int .i64 0]) 9 104 Tryz.underlying29 HI0.out HZ0.out HZ1.out HZ2.out rfl (by decide) _ _ _ rfl HO.out ⟨g, 0, none⟩ n c xs rfl ?c0 ?c1 ?c2 ?c3 ?c4 ?c5 ?_)
    case c0 => exact hlen
    case c1 => exact HN.out
    case c2 => exact HX.out
    case c3 => unfold maxLen; omega
    case c4 => omega
    case c5 => simp
    intro v4 w4 hown4 hgrow4 _
    have HB4 : Hid (Below w.heap.size w w4) := ((Below.refl _ _).alloc (Nat.le_refl _) _).grown hgrow4 (by simp) (fun q hq => (HO.out.lt q hq).1)
    replace hown4 : w4.ownsRow w.heap.size 32 9 v4 n xs := by simpa using hown4
    obtain ⟨a4, c4, rfl⟩ : ∃ a4 c4, v4 = .slice a4 n c4 := by
      rcases hown4.2 with ⟨e, h0⟩ | ⟨g4, cap4, cur4, e, _⟩
      · exact ⟨none, 0, by rw [e, h0]⟩
      · exact ⟨_, cap4, e⟩
    have HO4 := Lib.hid hown4
    clear hown4 hgrow4
    go_wp2_with fail
    go_ret
    exact ⟨a4, c4, rfl, HO4.out, HB4.out⟩
end Go.Proofs.YteallnjbpikhhaaGreatDoor

/- Contracts of package fetch: copied. -/
namespace Go.Proofs.YteallnjbpikhhaaGreatDoor
open Go Go.RowKit

theorem own_nine {W : World} {b n m cap g i : Nat} {ty : TypeId} {A D : List Value} {x0 x1 x2 x3 x4 x5 x6 x7 x8 : Value} (h : W.ownsRow b ty 9 (.slice (some ⟨g, 0, none⟩) m cap) n (A ++ x0 :: x1 :: x2 :: x3 :: x4 :: x5 :: x6 :: x7 :: x8 :: D)) (hA : A.length = i * 9) :
    W.cell? ⟨g, i * 9, none⟩ = some x0 ∧ W.cell? ⟨g, i * 9 + 1, none⟩ = some x1 ∧ W.cell? ⟨g, i * 9 + 2, none⟩ = some x2 ∧ W.cell? ⟨g, i * 9 + 3, none⟩ = some x3 ∧ W.cell? ⟨g, i * 9 + 4, none⟩ = some x4 ∧
    W.cell? ⟨g, i * 9 + 5, none⟩ = some x5 ∧ W.cell? ⟨g, i * 9 + 6, none⟩ = some x6 ∧ W.cell? ⟨g, i * 9 + 7, none⟩ = some x7 ∧ W.cell? ⟨g, i * 9 + 8, none⟩ = some x8 := by
  have hj : ∀ j u, (x0 :: x1 :: x2 :: x3 :: x4 :: x5 :: x6 :: x7 :: x8 :: D)[j]? = some u → W.cell? ⟨g, i * 9 + j, none⟩ = some u := fun j u hu => by
    refine own_cell h (i * 9 + j) u ?_
    rw [List.getElem?_append_right (by omega), show i * 9 + j - A.length = j by omega]
    exact hu
  exact ⟨hj 0 _ rfl, hj 1 _ rfl, hj 2 _ rfl, hj 3 _ rfl, hj 4 _ rfl, hj 5 _ rfl, hj 6 _ rfl, hj 7 _ rfl, hj 8 _ rfl⟩
theorem set9_list {A D : List Value} {x0 x1 x2 x3 x4 x5 x6 x7 x8 : Value} (a0 a1 a2 a3 a4 a5 a6 a7 a8 : Value) {n : Nat} (hn : A.length = n) :
    (((((((((A ++ x0 :: x1 :: x2 :: x3 :: x4 :: x5 :: x6 :: x7 :: x8 :: D).set n a0).set (n + 1) a1).set (n + 2) a2).set (n + 3) a3).set (n + 4) a4).set (n + 5) a5).set (n + 6) a6).set (n + 7) a7).set (n + 8) a8 = A ++ a0 :: a1 :: a2 :: a3 :: a4 :: a5 :: a6 :: a7 :: a8 :: D := by
  subst hn
  have h : ∀ (k : Nat) (l : List Value) (u : Value), (A ++ l).set (A.length + k) u = A ++ l.set k u := fun k l u => by
    rw [List.set_append_right _ _ (by omega), Nat.add_sub_cancel_left]
  have h0 := h 0
  rw [Nat.add_zero] at h0
  rw [h0, h, h, h, h, h, h, h, h]
  rfl
theorem put9_own {W : World} {base g n cap i : Nat} {ty : TypeId} {A D : List Value} {x0 x1 x2 x3 x4 x5 x6 x7 x8 : Value} (a0 a1 a2 a3 a4 a5 a6 a7 a8 : Value) (h : W.ownsRow base ty 9 (.slice (some ⟨g, 0, none⟩) n cap) n (A ++ x0 :: x1 :: x2 :: x3 :: x4 :: x5 :: x6 :: x7 :: x8 :: D)) (hA : A.length = i * 9) :
    (((((((((W.setCell ⟨g, i * 9, none⟩ a0).setCell ⟨g, i * 9 + 1, none⟩ a1).setCell ⟨g, i * 9 + 2, none⟩ a2).setCell ⟨g, i * 9 + 3, none⟩ a3).setCell ⟨g, i * 9 + 4, none⟩ a4).setCell ⟨g, i * 9 + 5, none⟩ a5).setCell ⟨g, i * 9 + 6, none⟩ a6).setCell ⟨g, i * 9 + 7, none⟩ a7).setCell ⟨g, i * 9 + 8, none⟩ a8).ownsRow base ty 9 (.slice (some ⟨g, 0, none⟩) n cap) n (A ++ a0 :: a1 :: a2 :: a3 :: a4 :: a5 :: a6 :: a7 :: a8 :: D) := by
  have h9 := (((((((((h.stored (i * 9) a0).1.stored (i * 9 + 1) a1).1.stored (i * 9 + 2) a2).1.stored (i * 9 + 3) a3).1.stored (i * 9 + 4) a4).1.stored (i * 9 + 5) a5).1.stored (i * 9 + 6) a6).1.stored (i * 9 + 7) a7).1.stored (i * 9 + 8) a8).1
  rw [set9_list a0 a1 a2 a3 a4 a5 a6 a7 a8 hA] at h9
  exact h9
theorem put9_heap (W : World) (g i q : Nat) (a0 a1 a2 a3 a4 a5 a6 a7 a8 : Value) (h : q ≠ g) : (((((((((W.setCell ⟨g, i * 9, none⟩ a0).setCell ⟨g, i * 9 + 1, none⟩ a1).setCell ⟨g, i * 9 + 2, none⟩ a2).setCell ⟨g, i * 9 + 3, none⟩ a3).setCell ⟨g, i * 9 + 4, none⟩ a4).setCell ⟨g, i * 9 + 5, none⟩ a5).setCell ⟨g, i * 9 + 6, none⟩ a6).setCell ⟨g, i * 9 + 7, none⟩ a7).setCell ⟨g, i * 9 + 8, none⟩ a8).heap[q]? = W.heap[q]? := by
  rw [Below.heap_setCell _ _ _ _ h, Below.heap_setCell _ _ _ _ h, Below.heap_setCell _ _ _ _ h, Below.heap_setCell _ _ _ _ h, Below.heap_setCell _ _ _ _ h, Below.heap_setCell _ _ _ _ h, Below.heap_setCell _ _ _ _ h, Below.heap_setCell _ _ _ _ h, Below.heap_setCell _ _ _ _ h]
theorem put9_size (W : World) (g i : Nat) (a0 a1 a2 a3 a4 a5 a6 a7 a8 : Value) : (((((((((W.setCell ⟨g, i * 9, none⟩ a0).setCell ⟨g, i * 9 + 1, none⟩ a1).setCell ⟨g, i * 9 + 2, none⟩ a2).setCell ⟨g, i * 9 + 3, none⟩ a3).setCell ⟨g, i * 9 + 4, none⟩ a4).setCell ⟨g, i * 9 + 5, none⟩ a5).setCell ⟨g, i * 9 + 6, none⟩ a6).setCell ⟨g, i * 9 + 7, none⟩ a7).setCell ⟨g, i * 9 + 8, none⟩ a8).heap.size = W.heap.size := by
  rw [size_set, size_set, size_set, size_set, size_set, size_set, size_set, size_set, size_set]
theorem put9_below {base : Nat} {w W : World} {g : Nat} (i : Nat) (a0 a1 a2 a3 a4 a5 a6 a7 a8 : Value) (h : Below base w W) (hg : base ≤ g) : Below base w (((((((((W.setCell ⟨g, i * 9, none⟩ a0).setCell ⟨g, i * 9 + 1, none⟩ a1).setCell ⟨g, i * 9 + 2, none⟩ a2).setCell ⟨g, i * 9 + 3, none⟩ a3).setCell ⟨g, i * 9 + 4, none⟩ a4).setCell ⟨g, i * 9 + 5, none⟩ a5).setCell ⟨g, i * 9 + 6, none⟩ a6).setCell ⟨g, i * 9 + 7, none⟩ a7).setCell ⟨g, i * 9 + 8, none⟩ a8) :=
  ((((((((h.setCell (p := ⟨g, i * 9, none⟩) hg _).setCell (p := ⟨g, i * 9 + 1, none⟩) hg _).setCell (p := ⟨g, i * 9 + 2, none⟩) hg _).setCell (p := ⟨g, i * 9 + 3, none⟩) hg _).setCell (p := ⟨g, i * 9 + 4, none⟩) hg _).setCell (p := ⟨g, i * 9 + 5, none⟩) hg _).setCell (p := ⟨g, i * 9 + 6, none⟩) hg _).setCell (p := ⟨g, i * 9 + 7, none⟩) hg _).setCell (p := ⟨g, i * 9 + 8, none⟩) hg _
theorem own_same {W W' : World} {base size n : Nat} {ty : TypeId} {v : Value} {xs : List Value} (h : W.ownsRow base ty size v n xs) (hk : ∀ q, v.ownBlock = some q → W'.heap[q]? = W.heap[q]?) : W'.ownsRow base ty size v n xs := by
  refine ⟨h.1, ?_⟩
  rcases h.2 with h2 | ⟨g, cap, cur, rfl, hg, hh, r⟩
  · exact .inl h2
  · exact .inr ⟨g, cap, cur, rfl, hg, (hk g rfl).trans hh, r⟩
theorem ownsRow_zero {W : World} {base size n : Nat} {ty : TypeId} {v : Value} {xs : List Value} (h : W.ownsRow base ty size v n xs) : W.ownsRow 0 ty size v n xs := by
  refine ⟨h.1, ?_⟩
  rcases h.2 with h2 | ⟨g, cap, cur, rfl, hg, r⟩
  · exact .inl h2
  · exact .inr ⟨g, cap, cur, rfl, Nat.zero_le _, r⟩
theorem treeAt_mk {S : Nat → Prop} {W : World} {t : Tr} {ka ca : Option Addr} {kc cn cc : Nat} {us : List Value} (h1 : ownS S W 28 2 (.slice ca cn cc) t.cuts.length (spCells t.cuts)) (h2 : ownS S W 32 9 (.slice ka t.kids.length kc) us.length (us.flatMap partCells)) (h3 : kidsAt S W t.kids us) : treeAt S W t (ptV t (.slice ka t.kids.length kc) (.slice ca cn cc)) := by
  cases t
  unfold treeAt
  exact ⟨ka, _, kc, ca, cn, cc, us, rfl, h1, h2, h3⟩
def copPost (t : Tr) (w : World) (e : Ending) (w' : World) : Prop :=
  ∃ ka kc ca cc, e = .returned (ptV t (.slice ka t.kids.length kc) (.slice ca t.cuts.length cc)) ∧ treeAt (fun k => w.heap.size ≤ k) w' t (ptV t (.slice ka t.kids.length kc) (.slice ca t.cuts.length cc)) ∧ Below w.heap.size w w'
set_option maxRecDepth 100000 in
set_option maxHeartbeats 4000000 in
theorem copied_step (t : Tr) (ks cs : Value) (w : World) (hta : tAt w t (ptV t ks cs)) (hc1 : t.cuts.length ≤ 1000000) (hk1 : t.kids.length ≤ 1000000)
    (ih : ∀ i, (h : i < t.kids.length) → ∀ W ks' cs', tAt W t.kids[i] (ptV t.kids[i] ks' cs') → Calls Tryz.prog 32 #[ptV t.kids[i] ks' cs'] W (copPost t.kids[i] W)) :
    Calls Tryz.prog 32 #[ptV t ks cs] w (copPost t w) := by
  obtain ⟨ka, kn, kc, ca, cn, cc, us, he, hoc, hok, hks⟩ := treeAt_open hta
  unfold ptV at he
  simp only [Value.agg.injEq, Array.mk.injEq, List.cons.injEq] at he
  obtain ⟨_, _, _, _, _, rfl, rfl, _⟩ := he
  have HIh := Lib.hid ih
  have HKs := Lib.hid hks
  have HOk := Lib.hid hok
  have hul : us.length = t.kids.length := kidsAt_len hks
  have HCc := Lib.hid (fun W (hb : Below w.heap.size w W) => cloneC_any ca cn cc t.cuts W (ownsRow_below hoc.1 hb) hc1)
  have HCk := Lib.hid (fun W (hb : Below w.heap.size w W) => cloneK_any ka kn kc t.kids.length (us.flatMap partCells) W (by rw [← hul]; exact ownsRow_below hok.1 hb) (kidCells_one hks) hk1)
  have HUl := Lib.hid hul
  unfold rowNew at HCc HCk
  obtain ⟨X, hX⟩ : ∃ X, X = (w.alloc (ptO t (.slice ka kn kc) (.slice ca cn cc))).alloc (partO 0 0 0 0 0 (.slice none 0 0) (.slice none 0 0) 0 0) := ⟨_, rfl⟩
  obtain ⟨hz, hbX, p0, p1⟩ := alloc2 hX
  have HBX := Lib.hid hbX
  have HP0 := Lib.hid p0
  have HP1 := Lib.hid p1
  have HZ := Lib.hid hz
  unfold ptO partO at hX
  unfold ptV
  have HXe := Lib.hid hX.symm
  obtain ⟨q0, q1, q2, q3, q4, q5, q6, q7, q8⟩ := part_cells p0
  clear hta ih hoc hok hks hX hbX p0 p1 hz hul
  go_enter Tryz.func32, Tryz.ntmps32
  go_upto_region 1 with fail
  rw [HXe.out]
  go_wp2_with fail
  with_reducible refine (HCc.out X HBX.out).mono ?_
  rintro e w2 ⟨a2, c2, rfl, ho2, hb2⟩
  have hx2 : X.heap.size = w.heap.size + 2 := HZ.out
  have HP2 := Lib.hid ((hb2.block w.heap.size (by omega)).trans HP0.out)
  have HP2b := Lib.hid ((hb2.block (w.heap.size + 1) (by omega)).trans HP1.out)
  have HO2 := Lib.hid ho2
  have HB2 := Lib.hid hb2
  clear q0 q1 q2 q3 q4 q5 q6 q7 q8 HP0 HP1 ho2 hb2
  obtain ⟨q0, q1, q2, q3, q4, q5, q6, q7, q8⟩ := part_cells HP2.out
  obtain ⟨y0, y1, y2, y3, y4, y5, y6, y7, y8⟩ := part_frozen HP2.out
  go_wp2_with fail
  obtain ⟨W3, hW3⟩ : ∃ W3, W3 = w2.setCell ⟨w.heap.size, 6, none⟩ (.slice a2 t.cuts.length c2) := ⟨_, rfl⟩
  have hz2 : w.heap.size + 2 ≤ w2.heap.size := by rw [← hx2]; exact HB2.out.size
  have hz3 : W3.heap.size = w2.heap.size := by rw [hW3, size_set]
  have HB3 : Hid (Below w.heap.size w W3) := by rw [hW3]; exact (HBX.out.trans (HB2.out.mono HBX.out.size)).setCell (p := ⟨w.heap.size, 6, none⟩) (Nat.le_refl _) _
  have HP3 : Hid (W3.heap[w.heap.size]? = some (ptO t (.slice ka kn kc) (.slice a2 t.cuts.length c2))) := by
    rw [hW3]
    have h1 := HP2.out
    unfold ptO partO at h1
    exact row_set h1
  have HP3b : Hid (W3.heap[w.heap.size + 1]? = some (partO 0 0 0 0 0 (.slice none 0 0) (.slice none 0 0) 0 0)) := by
    rw [hW3]
    exact (Below.heap_setCell _ _ _ _ (show w.heap.size + 1 ≠ w.heap.size by omega)).trans HP2b.out
  have HO3 : Hid (W3.ownsRow X.heap.size 28 2 (.slice a2 t.cuts.length c2) t.cuts.length (spCells t.cuts)) := by
    rw [hW3]
    exact ownsRow_setCell_below (a := ⟨w.heap.size, 6, none⟩) HO2.out (show w.heap.size < X.heap.size by omega) _
  rw [← hW3]
  clear q0 q1 q2 q3 q4 q5 q6 q7 q8 y0 y1 y2 y3 y4 y5 y6 y7 y8 HP2 HP2b HO2 hW3
  with_reducible refine (HCk.out W3 HB3.out).mono ?_
  rintro e w4 ⟨a4, c4, rfl, ho4, hb4⟩
  have HP4 := Lib.hid ((hb4.block w.heap.size (by omega)).trans HP3.out)
  have HP4b := Lib.hid ((hb4.block (w.heap.size + 1) (by omega)).trans HP3b.out)
  have HOc := Lib.hid (ownsRow_below HO3.out hb4)
  have HCb : Hid (∀ q, (Value.slice a2 t.cuts.length c2).ownBlock = some q → X.heap.size ≤ q ∧ q < W3.heap.size) := HO3.out.lt
  have HB4 := Lib.hid (HB3.out.trans (hb4.mono HB3.out.size))
  have HO4 := Lib.hid ho4
  have hz4 : W3.heap.size ≤ w4.heap.size := hb4.size
  clear ho4 hb4 HP3 HP3b HO3 HB3 HB2 HCc HCk HXe
  obtain ⟨q0, q1, q2, q3, q4, q5, q6, q7, q8⟩ := part_cells HP4.out
  obtain ⟨y0, y1, y2, y3, y4, y5, y6, y7, y8⟩ := part_frozen HP4.out
  go_upto_region 3 with fail
  obtain ⟨W5, hW5⟩ : ∃ W5, W5 = w4.setCell ⟨w.heap.size, 5, none⟩ (.slice a4 t.kids.length c4) := ⟨_, rfl⟩
  have hz5 : W5.heap.size = w4.heap.size := by rw [hW5, size_set]
  have HB5 : Hid (Below w.heap.size w W5) := by rw [hW5]; exact HB4.out.setCell (p := ⟨w.heap.size, 5, none⟩) (Nat.le_refl _) _
  have HP5 : Hid (W5.heap[w.heap.size]? = some (ptO t (.slice a4 t.kids.length c4) (.slice a2 t.cuts.length c2))) := by
    rw [hW5]
    have h1 := HP4.out
    unfold ptO partO at h1
    exact row_set h1
  have HP5b : Hid (W5.heap[w.heap.size + 1]? = some (partO 0 0 0 0 0 (.slice none 0 0) (.slice none 0 0) 0 0)) := by
    rw [hW5]
    exact (Below.heap_setCell _ _ _ _ (show w.heap.size + 1 ≠ w.heap.size by omega)).trans HP4b.out
  have HC5 : Hid (W5.ownsRow X.heap.size 28 2 (.slice a2 t.cuts.length c2) t.cuts.length (spCells t.cuts)) := by
    rw [hW5]
    exact ownsRow_setCell_below (a := ⟨w.heap.size, 5, none⟩) HOc.out (show w.heap.size < X.heap.size by omega) _
  have HK5 : Hid (W5.ownsRow W3.heap.size 32 9 (.slice a4 t.kids.length c4) t.kids.length (us.flatMap partCells)) := by
    rw [hW5]
    exact ownsRow_setCell_below (a := ⟨w.heap.size, 5, none⟩) HO4.out (show w.heap.size < W3.heap.size by omega) _
  rw [← hW5]
  clear q0 q1 q2 q3 q4 q5 q6 q7 q8 y0 y1 y2 y3 y4 y5 y6 y7 y8 HP4 HP4b HOc HO4 HB4 hW5
  obtain ⟨q0, q1, q2, q3, q4, q5, q6, q7, q8⟩ := part_cells HP5.out
  go_wp2_with fail
  clear q0 q1 q2 q3 q4 q5 q6 q7 q8
  go_loopg [16] t.kids.length (fun g iv wr => ∃ (i : Nat) (vs : List Value), i ≤ t.kids.length ∧ g = t.kids.length - i ∧ iv = .int .i64 (i : Int) ∧ Hid (wr.heap[w.heap.size]? = some (ptO t (.slice a4 t.kids.length c4) (.slice a2 t.cuts.length c2))) ∧
    Hid (wr.heap[w.heap.size + 1]? = some (partO 0 0 0 0 0 (.slice none 0 0) (.slice none 0 0) 0 0)) ∧ Hid (Below w.heap.size w wr) ∧ W5.heap.size ≤ wr.heap.size ∧
    Hid (wr.ownsRow X.heap.size 28 2 (.slice a2 t.cuts.length c2) t.cuts.length (spCells t.cuts)) ∧
    Hid (wr.ownsRow W3.heap.size 32 9 (.slice a4 t.kids.length c4) t.kids.length (vs.flatMap partCells ++ (us.drop i).flatMap partCells)) ∧
    Hid (kidsAt (fun k => X.heap.size ≤ k ∧ (Value.slice a4 t.kids.length c4).ownBlock ≠ some k) wr (t.kids.take i) vs))
  case atStart => exact ⟨0, [], Nat.zero_le _, rfl, rfl, HP5.out, HP5b.out, HB5.out, Nat.le_refl _, HC5.out, HK5.out, kidsAt_nil _ _⟩
  case round =>
    clear HP5 HP5b HB5 HC5 HK5
    obtain ⟨i, vs, hi, rfl, rfl, HP, HPb, HB, hzr, HC, HK, HV⟩ := hrel
    obtain ⟨q0, q1, q2, q3, q4, q5, q6, q7, q8⟩ := part_cells HP.out
    by_cases hlt : i < t.kids.length
    · have hik : i < t.kids.length := hlt
      have hiu : i < us.length := by rw [HUl.out]; exact hlt
      have hvl : (vs.flatMap partCells).length = i * 9 := by rw [kidCells_len HV.out, List.length_take]; congr 1; omega
      obtain ⟨u, hu, htr⟩ := kidsAt_get HKs.out i hik
      obtain ⟨ga, gn, gc, ga2, gn2, gc2, rfl⟩ := treeAt_agg htr
      have hdr : us.drop i = (.agg #[.int .i64 (t.kids[i].kind : Int), .int .i64 (t.kids[i].hd.1 : Int), .int .i64 (t.kids[i].hd.2 : Int), .int .i64 (t.kids[i].bd.1 : Int), .int .i64 (t.kids[i].bd.2 : Int), .slice ga gn gc, .slice ga2 gn2 gc2, .int .i64 (t.kids[i].e.1 : Int), .int .i64 (t.kids[i].e.2 : Int)]) :: us.drop (i + 1) := by
        rw [List.drop_eq_getElem_cons hiu]
        congr 1
        rw [List.getElem?_eq_getElem hiu] at hu
        exact Option.some.inj hu
      rw [hdr, List.flatMap_cons] at HK
      obtain ⟨g, cap, hrow, hcap1, hcap2, hg1, hg2⟩ := ownsRow_slice HK.out (by omega)
      obtain ⟨rfl, _, rfl⟩ := Value.slice.inj hrow
      have HTk : Hid (tAt w t.kids[i] (ptV t.kids[i] (.slice ga gn gc) (.slice ga2 gn2 gc2))) := htr
      have HCl := Lib.hid (fun W h => HIh.out i hik W (.slice ga gn gc) (.slice ga2 gn2 gc2) h)
      have HTs := Lib.hid (List.take_succ_eq_append_getElem hik)
      obtain ⟨tk, htk⟩ : ∃ tk, tk = t.kids[i] := ⟨_, rfl⟩
      rw [← htk] at HK HTk HCl HTs
      obtain ⟨D, hD⟩ : ∃ D, D = (us.drop (i + 1)).flatMap partCells := ⟨_, rfl⟩
      rw [← hD] at HK
      have HDe := Lib.hid hD
      obtain ⟨A, hA⟩ : ∃ A, A = vs.flatMap partCells := ⟨_, rfl⟩
      rw [← hA] at HK hvl
      have HAe := Lib.hid hA
      clear htr hdr hu htk hrow hD hA
      have HK2 : Hid (wr.ownsRow W3.heap.size 32 9 (.slice (some ⟨g, 0, none⟩) t.kids.length c4) t.kids.length (A ++ .int .i64 (tk.kind : Int) :: .int .i64 (tk.hd.1 : Int) :: .int .i64 (tk.hd.2 : Int) :: .int .i64 (tk.bd.1 : Int) :: .int .i64 (tk.bd.2 : Int) :: .slice ga gn gc :: .slice ga2 gn2 gc2 :: .int .i64 (tk.e.1 : Int) :: .int .i64 (tk.e.2 : Int) :: D)) := HK.out
      clear HK
      obtain ⟨m0, m1, m2, m3, m4, m5, m6, m7, m8⟩ := own_nine HK2.out hvl
      have hib : (i : Int) < 9223372036854775807 := by omega
      clear hiu
      have hil : (i : Int) < (t.kids.length : Int) := by omega
      unfold maxLen at hcap2
      clear hcap1
      go_upto_region 6 with fail
      obtain ⟨X5, hX5⟩ : ∃ X5, X5 = wr.alloc (ptO tk (.slice ga gn gc) (.slice ga2 gn2 gc2)) := ⟨_, rfl⟩
      have hb5 : Below wr.heap.size wr X5 := by rw [hX5]; exact (Below.refl _ _).alloc (Nat.le_refl _) _
      have p5 : X5.heap[wr.heap.size]? = some (ptO tk (.slice ga gn gc) (.slice ga2 gn2 gc2)) := by rw [hX5]; exact heap_alloc_new _ _
      have hz55 : X5.heap.size = wr.heap.size + 1 := by rw [hX5]; simp
      unfold ptO partO at hX5
      rw [← hX5]
      clear hX5
      have hbw : w.heap.size < wr.heap.size := by omega
      unfold ptV at HCl
      have HSp : Hid (∀ W', Below X5.heap.size X5 W' → (W'.cell? ⟨w.heap.size, 5, none⟩ = some (.slice (some ⟨g, 0, none⟩) t.kids.length c4) ∧ W'.cell? ⟨wr.heap.size, 0, none⟩ = some (.int .i64 (tk.kind : Int)) ∧ W'.cell? ⟨wr.heap.size, 1, none⟩ = some (.int .i64 (tk.hd.1 : Int)) ∧ W'.cell? ⟨wr.heap.size, 2, none⟩ = some (.int .i64 (tk.hd.2 : Int)) ∧ W'.cell? ⟨wr.heap.size, 3, none⟩ = some (.int .i64 (tk.bd.1 : Int)) ∧ W'.cell? ⟨wr.heap.size, 4, none⟩ = some (.int .i64 (tk.bd.2 : Int)) ∧ W'.cell? ⟨wr.heap.size, 5, none⟩ = some (.slice ga gn gc) ∧ W'.cell? ⟨wr.heap.size, 6, none⟩ = some (.slice ga2 gn2 gc2) ∧ W'.cell? ⟨wr.heap.size, 7, none⟩ = some (.int .i64 (tk.e.1 : Int)) ∧ W'.cell? ⟨wr.heap.size, 8, none⟩ = some (.int .i64 (tk.e.2 : Int)))) := fun W' hb => by
        have o1 := (hb.block w.heap.size (by omega)).trans ((hb5.block w.heap.size hbw).trans HP.out)
        have o2 := (hb.block wr.heap.size (by omega)).trans p5
        obtain ⟨r0, r1, r2, r3, r4, r5, r6, r7, r8⟩ := part_cells o1
        obtain ⟨s0, s1, s2, s3, s4, s5, s6, s7, s8⟩ := part_cells o2
        exact ⟨r5, s0, s1, s2, s3, s4, s5, s6, s7, s8⟩
      have hd0 : Below X5.heap.size X5 X5.drew := (Below.refl _ _).drew
      have hzd : X5.drew.heap.size = X5.heap.size := rfl
      have HTd : Hid (tAt X5.drew tk (ptV tk (.slice ga gn gc) (.slice ga2 gn2 gc2))) := HTk.out.below (HB.out.trans ((hb5.trans (hd0.mono hb5.size)).mono HB.out.size))
      have HBd : Hid (Below wr.heap.size wr X5.drew) := hb5.trans (hd0.mono hb5.size)
      refine wp_region_last (fun W' => W'.cell? ⟨w.heap.size, 5, none⟩ = some (.slice (some ⟨g, 0, none⟩) t.kids.length c4) ∧ W'.cell? ⟨wr.heap.size, 0, none⟩ = some (.int .i64 (tk.kind : Int)) ∧ W'.cell? ⟨wr.heap.size, 1, none⟩ = some (.int .i64 (tk.hd.1 : Int)) ∧ W'.cell? ⟨wr.heap.size, 2, none⟩ = some (.int .i64 (tk.hd.2 : Int)) ∧ W'.cell? ⟨wr.heap.size, 3, none⟩ = some (.int .i64 (tk.bd.1 : Int)) ∧ W'.cell? ⟨wr.heap.size, 4, none⟩ = some (.int .i64 (tk.bd.2 : Int)) ∧ W'.cell? ⟨wr.heap.size, 5, none⟩ = some (.slice ga gn gc) ∧ W'.cell? ⟨wr.heap.size, 6, none⟩ = some (.slice ga2 gn2 gc2) ∧ W'.cell? ⟨wr.heap.size, 7, none⟩ = some (.int .i64 (tk.e.1 : Int)) ∧ W'.cell? ⟨wr.heap.size, 8, none⟩ = some (.int .i64 (tk.e.2 : Int))) 6 (by kernel_rfl) ?_
      have hS0 := HSp.out X5.drew hd0
      refine wpAnyN_takeE (i := 0) rfl (by kernel_rfl) (by kernel_rfl) (by kernel_rfl) (by kernel_rfl) (fun _ _ _ _ h => h) rfl hS0 ?_
      apply Exists.intro
      refine ⟨fun w hSw => ?_, ?_⟩
      · obtain ⟨_, _, _, _, _, _, _, _, _, _⟩ := hSw
        go_simp
        try rfl
      try simp only [Act.put]
      try simp only [List.setIfInBounds_toArray]
      try simp only [List.set_cons_succ]
      try simp only [List.set_cons_zero]
      refine wpAnyN_takeE (i := 1) rfl (by kernel_rfl) (by kernel_rfl) (by kernel_rfl) (by kernel_rfl) (fun _ _ _ _ h => h) rfl hS0 ?_
      apply Exists.intro
      refine ⟨fun w hSw => ?_, ?_⟩
      · obtain ⟨_, _, _, _, _, _, _, _, _, _⟩ := hSw
        go_simp
        try rfl
      try simp only [Act.put]
      try simp only [List.setIfInBounds_toArray]
      try simp only [List.set_cons_succ]
      try simp only [List.set_cons_zero]
      refine wpAnyN_takeE (i := 2) rfl (by kernel_rfl) (by kernel_rfl) (by kernel_rfl) (by kernel_rfl) (fun _ _ _ _ h => h) rfl hS0 ?_
      apply Exists.intro
      refine ⟨fun w hSw => ?_, ?_⟩
      · obtain ⟨_, _, _, _, _, _, _, _, _, _⟩ := hSw
        go_simp
        try rfl
      try simp only [Act.put]
      try simp only [List.setIfInBounds_toArray]
      try simp only [List.set_cons_succ]
      try simp only [List.set_cons_zero]
      refine wpAnyN_takeE (i := 3) rfl (by kernel_rfl) (by kernel_rfl) (by kernel_rfl) (by kernel_rfl) (fun _ _ _ _ h => h) rfl hS0 ?_
      apply Exists.intro
      refine ⟨fun w hSw => ?_, ?_⟩
      · obtain ⟨_, _, _, _, _, _, _, _, _, _⟩ := hSw
        go_simp
        try rfl
      try simp only [Act.put]
      try simp only [List.setIfInBounds_toArray]
      try simp only [List.set_cons_succ]
      try simp only [List.set_cons_zero]
      refine wpAnyN_one (i := 4) (by kernel_rfl) rfl (fun K hK => ?_)
      go_simp
      go_at_call 32
      with_reducible refine (HCl.out _ HTd.out).mono ?_
      rintro e w7 ⟨ka7, kc7, ca7, cc7, rfl, ht7, hb7⟩
      have hs7 := HSp.out w7 (hd0.trans (hb7.mono (Nat.le_of_eq hzd.symm)))
      dsimp only
      refine hK.out _ _ (fun _ => hs7) ?_
      clear hK K
      have HB7 : Hid (Below wr.heap.size wr w7) := HBd.out.trans (hb7.mono (by rw [hzd]; omega))
      have HT7 := Lib.hid ht7
      have HK7 := Lib.hid (ownsRow_below HK2.out HB7.out)
      clear ht7 hb7 hS0 hd0 HSp HTd HBd p5 hb5 m0 m1 m2 m3 m4 m5 m6 m7 m8 q0 q1 q2 q3 q4 q5 q6 q7 q8
      refine wpAnyN_one (i := 5) (by kernel_rfl) rfl (fun K hK => ?_)
      go_simp
      refine hK.out _ _ (fun _ => hs7) ?_
      clear hK K hs7
      have v0 := HK7.out.frozenAt (i * 9)
      have v1 := HK7.out.frozenAt (i * 9 + 1)
      have v2 := HK7.out.frozenAt (i * 9 + 2)
      have v3 := HK7.out.frozenAt (i * 9 + 3)
      have v4 := HK7.out.frozenAt (i * 9 + 4)
      have v5 := HK7.out.frozenAt (i * 9 + 5)
      have v6 := HK7.out.frozenAt (i * 9 + 6)
      have v7 := HK7.out.frozenAt (i * 9 + 7)
      have v8 := HK7.out.frozenAt (i * 9 + 8)
      obtain ⟨m0, m1, m2, m3, m4, m5, m6, m7, m8⟩ := own_nine HK7.out hvl
      refine wpAnyN_one (i := 6) (by kernel_rfl) rfl (fun K hK => ?_)
      unfold ptV
      go_simp
      refine hK.out _ _ (fun hh => absurd rfl hh) ?_
      clear hK K v0 v1 v2 v3 v4 v5 v6 v7 v8 m0 m1 m2 m3 m4 m5 m6 m7 m8
      have hgB : w.heap.size ≠ g := by omega
      have hgB1 : w.heap.size + 1 ≠ g := by omega
      have HP8 : Hid ((((((((((w7.setCell ⟨g, i * 9, none⟩ (.int .i64 (tk.kind : Int))).setCell ⟨g, i * 9 + 1, none⟩ (.int .i64 (tk.hd.1 : Int))).setCell ⟨g, i * 9 + 2, none⟩ (.int .i64 (tk.hd.2 : Int))).setCell ⟨g, i * 9 + 3, none⟩ (.int .i64 (tk.bd.1 : Int))).setCell ⟨g, i * 9 + 4, none⟩ (.int .i64 (tk.bd.2 : Int))).setCell ⟨g, i * 9 + 5, none⟩ (.slice ka7 tk.kids.length kc7)).setCell ⟨g, i * 9 + 6, none⟩ (.slice ca7 tk.cuts.length cc7)).setCell ⟨g, i * 9 + 7, none⟩ (.int .i64 (tk.e.1 : Int))).setCell ⟨g, i * 9 + 8, none⟩ (.int .i64 (tk.e.2 : Int))).heap[w.heap.size]? = some (ptO t (.slice (some ⟨g, 0, none⟩) t.kids.length c4) (.slice a2 t.cuts.length c2))) := (put9_heap w7 g i w.heap.size (.int .i64 (tk.kind : Int)) (.int .i64 (tk.hd.1 : Int)) (.int .i64 (tk.hd.2 : Int)) (.int .i64 (tk.bd.1 : Int)) (.int .i64 (tk.bd.2 : Int)) (.slice ka7 tk.kids.length kc7) (.slice ca7 tk.cuts.length cc7) (.int .i64 (tk.e.1 : Int)) (.int .i64 (tk.e.2 : Int)) hgB).trans ((HB7.out.block w.heap.size hbw).trans HP.out)
      have HP8b : Hid ((((((((((w7.setCell ⟨g, i * 9, none⟩ (.int .i64 (tk.kind : Int))).setCell ⟨g, i * 9 + 1, none⟩ (.int .i64 (tk.hd.1 : Int))).setCell ⟨g, i * 9 + 2, none⟩ (.int .i64 (tk.hd.2 : Int))).setCell ⟨g, i * 9 + 3, none⟩ (.int .i64 (tk.bd.1 : Int))).setCell ⟨g, i * 9 + 4, none⟩ (.int .i64 (tk.bd.2 : Int))).setCell ⟨g, i * 9 + 5, none⟩ (.slice ka7 tk.kids.length kc7)).setCell ⟨g, i * 9 + 6, none⟩ (.slice ca7 tk.cuts.length cc7)).setCell ⟨g, i * 9 + 7, none⟩ (.int .i64 (tk.e.1 : Int))).setCell ⟨g, i * 9 + 8, none⟩ (.int .i64 (tk.e.2 : Int))).heap[w.heap.size + 1]? = some (partO 0 0 0 0 0 (.slice none 0 0) (.slice none 0 0) 0 0)) := (put9_heap w7 g i (w.heap.size + 1) (.int .i64 (tk.kind : Int)) (.int .i64 (tk.hd.1 : Int)) (.int .i64 (tk.hd.2 : Int)) (.int .i64 (tk.bd.1 : Int)) (.int .i64 (tk.bd.2 : Int)) (.slice ka7 tk.kids.length kc7) (.slice ca7 tk.cuts.length cc7) (.int .i64 (tk.e.1 : Int)) (.int .i64 (tk.e.2 : Int)) hgB1).trans ((HB7.out.block (w.heap.size + 1) (by omega)).trans HPb.out)
      have HB8 : Hid (Below w.heap.size w (((((((((w7.setCell ⟨g, i * 9, none⟩ (.int .i64 (tk.kind : Int))).setCell ⟨g, i * 9 + 1, none⟩ (.int .i64 (tk.hd.1 : Int))).setCell ⟨g, i * 9 + 2, none⟩ (.int .i64 (tk.hd.2 : Int))).setCell ⟨g, i * 9 + 3, none⟩ (.int .i64 (tk.bd.1 : Int))).setCell ⟨g, i * 9 + 4, none⟩ (.int .i64 (tk.bd.2 : Int))).setCell ⟨g, i * 9 + 5, none⟩ (.slice ka7 tk.kids.length kc7)).setCell ⟨g, i * 9 + 6, none⟩ (.slice ca7 tk.cuts.length cc7)).setCell ⟨g, i * 9 + 7, none⟩ (.int .i64 (tk.e.1 : Int))).setCell ⟨g, i * 9 + 8, none⟩ (.int .i64 (tk.e.2 : Int)))) := put9_below i (.int .i64 (tk.kind : Int)) (.int .i64 (tk.hd.1 : Int)) (.int .i64 (tk.hd.2 : Int)) (.int .i64 (tk.bd.1 : Int)) (.int .i64 (tk.bd.2 : Int)) (.slice ka7 tk.kids.length kc7) (.slice ca7 tk.cuts.length cc7) (.int .i64 (tk.e.1 : Int)) (.int .i64 (tk.e.2 : Int)) (HB.out.trans (HB7.out.mono HB.out.size)) (by omega)
      have hz8 : W5.heap.size ≤ (((((((((w7.setCell ⟨g, i * 9, none⟩ (.int .i64 (tk.kind : Int))).setCell ⟨g, i * 9 + 1, none⟩ (.int .i64 (tk.hd.1 : Int))).setCell ⟨g, i * 9 + 2, none⟩ (.int .i64 (tk.hd.2 : Int))).setCell ⟨g, i * 9 + 3, none⟩ (.int .i64 (tk.bd.1 : Int))).setCell ⟨g, i * 9 + 4, none⟩ (.int .i64 (tk.bd.2 : Int))).setCell ⟨g, i * 9 + 5, none⟩ (.slice ka7 tk.kids.length kc7)).setCell ⟨g, i * 9 + 6, none⟩ (.slice ca7 tk.cuts.length cc7)).setCell ⟨g, i * 9 + 7, none⟩ (.int .i64 (tk.e.1 : Int))).setCell ⟨g, i * 9 + 8, none⟩ (.int .i64 (tk.e.2 : Int))).heap.size := by rw [put9_size]; exact Nat.le_trans hzr HB7.out.size
      have HC8 : Hid ((((((((((w7.setCell ⟨g, i * 9, none⟩ (.int .i64 (tk.kind : Int))).setCell ⟨g, i * 9 + 1, none⟩ (.int .i64 (tk.hd.1 : Int))).setCell ⟨g, i * 9 + 2, none⟩ (.int .i64 (tk.hd.2 : Int))).setCell ⟨g, i * 9 + 3, none⟩ (.int .i64 (tk.bd.1 : Int))).setCell ⟨g, i * 9 + 4, none⟩ (.int .i64 (tk.bd.2 : Int))).setCell ⟨g, i * 9 + 5, none⟩ (.slice ka7 tk.kids.length kc7)).setCell ⟨g, i * 9 + 6, none⟩ (.slice ca7 tk.cuts.length cc7)).setCell ⟨g, i * 9 + 7, none⟩ (.int .i64 (tk.e.1 : Int))).setCell ⟨g, i * 9 + 8, none⟩ (.int .i64 (tk.e.2 : Int))).ownsRow X.heap.size 28 2 (.slice a2 t.cuts.length c2) t.cuts.length (spCells t.cuts)) :=
        own_same (ownsRow_below HC.out HB7.out) (fun q hq => put9_heap w7 g i q (.int .i64 (tk.kind : Int)) (.int .i64 (tk.hd.1 : Int)) (.int .i64 (tk.hd.2 : Int)) (.int .i64 (tk.bd.1 : Int)) (.int .i64 (tk.bd.2 : Int)) (.slice ka7 tk.kids.length kc7) (.slice ca7 tk.cuts.length cc7) (.int .i64 (tk.e.1 : Int)) (.int .i64 (tk.e.2 : Int)) (by have := (HCb.out q hq).2; omega))
      have HK8 : Hid ((((((((((w7.setCell ⟨g, i * 9, none⟩ (.int .i64 (tk.kind : Int))).setCell ⟨g, i * 9 + 1, none⟩ (.int .i64 (tk.hd.1 : Int))).setCell ⟨g, i * 9 + 2, none⟩ (.int .i64 (tk.hd.2 : Int))).setCell ⟨g, i * 9 + 3, none⟩ (.int .i64 (tk.bd.1 : Int))).setCell ⟨g, i * 9 + 4, none⟩ (.int .i64 (tk.bd.2 : Int))).setCell ⟨g, i * 9 + 5, none⟩ (.slice ka7 tk.kids.length kc7)).setCell ⟨g, i * 9 + 6, none⟩ (.slice ca7 tk.cuts.length cc7)).setCell ⟨g, i * 9 + 7, none⟩ (.int .i64 (tk.e.1 : Int))).setCell ⟨g, i * 9 + 8, none⟩ (.int .i64 (tk.e.2 : Int))).ownsRow W3.heap.size 32 9 (.slice (some ⟨g, 0, none⟩) t.kids.length c4) t.kids.length ((vs ++ [Value.agg #[.int .i64 (tk.kind : Int), .int .i64 (tk.hd.1 : Int), .int .i64 (tk.hd.2 : Int), .int .i64 (tk.bd.1 : Int), .int .i64 (tk.bd.2 : Int), .slice ka7 tk.kids.length kc7, .slice ca7 tk.cuts.length cc7, .int .i64 (tk.e.1 : Int), .int .i64 (tk.e.2 : Int)]]).flatMap partCells ++ (us.drop (i + 1)).flatMap partCells)) := by
        have h1 := put9_own (.int .i64 (tk.kind : Int)) (.int .i64 (tk.hd.1 : Int)) (.int .i64 (tk.hd.2 : Int)) (.int .i64 (tk.bd.1 : Int)) (.int .i64 (tk.bd.2 : Int)) (.slice ka7 tk.kids.length kc7) (.slice ca7 tk.cuts.length cc7) (.int .i64 (tk.e.1 : Int)) (.int .i64 (tk.e.2 : Int)) HK7.out hvl
        rw [HAe.out, HDe.out] at h1
        rw [List.flatMap_append, List.append_assoc]
        exact h1
      have HV8 : Hid (kidsAt (fun k => X.heap.size ≤ k ∧ (Value.slice (some ⟨g, 0, none⟩) t.kids.length c4).ownBlock ≠ some k) (((((((((w7.setCell ⟨g, i * 9, none⟩ (.int .i64 (tk.kind : Int))).setCell ⟨g, i * 9 + 1, none⟩ (.int .i64 (tk.hd.1 : Int))).setCell ⟨g, i * 9 + 2, none⟩ (.int .i64 (tk.hd.2 : Int))).setCell ⟨g, i * 9 + 3, none⟩ (.int .i64 (tk.bd.1 : Int))).setCell ⟨g, i * 9 + 4, none⟩ (.int .i64 (tk.bd.2 : Int))).setCell ⟨g, i * 9 + 5, none⟩ (.slice ka7 tk.kids.length kc7)).setCell ⟨g, i * 9 + 6, none⟩ (.slice ca7 tk.cuts.length cc7)).setCell ⟨g, i * 9 + 7, none⟩ (.int .i64 (tk.e.1 : Int))).setCell ⟨g, i * 9 + 8, none⟩ (.int .i64 (tk.e.2 : Int))) (t.kids.take (i + 1)) (vs ++ [Value.agg #[.int .i64 (tk.kind : Int), .int .i64 (tk.hd.1 : Int), .int .i64 (tk.hd.2 : Int), .int .i64 (tk.bd.1 : Int), .int .i64 (tk.bd.2 : Int), .slice ka7 tk.kids.length kc7, .slice ca7 tk.cuts.length cc7, .int .i64 (tk.e.1 : Int), .int .i64 (tk.e.2 : Int)]])) := by
        have hgo : ∀ q, (Value.slice (some ⟨g, 0, none⟩) t.kids.length c4).ownBlock ≠ some q ↔ q ≠ g := fun q => ⟨fun h e => h (by rw [e]; rfl), fun h e => h (Option.some.inj e).symm⟩
        rw [HTs.out]
        refine kidsAt_snoc (kidsAt.keep ?_ _ _ HV.out) (treeAt.keep ?_ _ _ HT7.out)
        · rintro q ⟨hq1, hq2⟩ hqz
          exact ⟨(put9_heap w7 g i q (.int .i64 (tk.kind : Int)) (.int .i64 (tk.hd.1 : Int)) (.int .i64 (tk.hd.2 : Int)) (.int .i64 (tk.bd.1 : Int)) (.int .i64 (tk.bd.2 : Int)) (.slice ka7 tk.kids.length kc7) (.slice ca7 tk.cuts.length cc7) (.int .i64 (tk.e.1 : Int)) (.int .i64 (tk.e.2 : Int)) ((hgo q).1 hq2)).trans (HB7.out.block q hqz), hq1, hq2⟩
        · intro q hq1 hqz
          have hqg : q ≠ g := by omega
          exact ⟨put9_heap w7 g i q (.int .i64 (tk.kind : Int)) (.int .i64 (tk.hd.1 : Int)) (.int .i64 (tk.hd.2 : Int)) (.int .i64 (tk.bd.1 : Int)) (.int .i64 (tk.bd.2 : Int)) (.slice ka7 tk.kids.length kc7) (.slice ca7 tk.cuts.length cc7) (.int .i64 (tk.e.1 : Int)) (.int .i64 (tk.e.2 : Int)) hqg, by omega, (hgo q).2 hqg⟩
      clear HK7 HT7 HB7 HK2 HV HC HB HP HPb HCl HAe HDe HTk hvl hzr hbw HTs
      refine wpAnyN_done (by kernel_rfl) ?_ _
      go_wp2_with fail
      go_roundg (t.kids.length - (i + 1))
      case measure => omega
      case rel => exact ⟨i + 1, vs ++ [Value.agg #[.int .i64 (tk.kind : Int), .int .i64 (tk.hd.1 : Int), .int .i64 (tk.hd.2 : Int), .int .i64 (tk.bd.1 : Int), .int .i64 (tk.bd.2 : Int), .slice ka7 tk.kids.length kc7, .slice ca7 tk.cuts.length cc7, .int .i64 (tk.e.1 : Int), .int .i64 (tk.e.2 : Int)]], by omega, rfl, by go_num, HP8.out, HP8b.out, HB8.out, hz8, HC8.out, HK8.out, HV8.out⟩
    · obtain rfl : i = t.kids.length := by omega
      rw [List.take_of_length_le (Nat.le_refl _)] at HV
      rw [List.drop_of_length_le (by rw [HUl.out]; exact Nat.le_refl _), List.flatMap_nil, List.append_nil] at HK
      have hvl : vs.length = t.kids.length := kidsAt_len HV.out
      obtain ⟨r0, r1, r2, r3, r4, r5, r6, r7, r8⟩ := part_cells HPb.out
      obtain ⟨x0, x1, x2, x3, x4, x5, x6, x7, x8⟩ := part_frozen HPb.out
      go_wp2_with fail
      show bodyPost _ _ _ Exit.ret _ _
      have h9 := row_set9 (a0 := .int .i64 (t.kind : Int)) (a1 := .int .i64 (t.hd.1 : Int)) (a2 := .int .i64 (t.hd.2 : Int)) (a3 := .int .i64 (t.bd.1 : Int)) (a4 := .int .i64 (t.bd.2 : Int)) (a5 := .slice a4 t.kids.length c4) (a6 := .slice a2 t.cuts.length c2) (a7 := .int .i64 (t.e.1 : Int)) (a8 := .int .i64 (t.e.2 : Int)) HPb.out
      obtain ⟨g0, g1, g2, g3, g4, g5, g6, g7, g8⟩ := part_cells (k := (t.kind : Int)) (a := (t.hd.1 : Int)) (b := (t.hd.2 : Int)) (c := (t.bd.1 : Int)) (d := (t.bd.2 : Int)) (ks := .slice a4 t.kids.length c4) (cs := .slice a2 t.cuts.length c2) (e := (t.e.1 : Int)) (f := (t.e.2 : Int)) h9
      refine bodyPost_ret (v := ptV t (.slice a4 t.kids.length c4) (.slice a2 t.cuts.length c2)) (by simp [results, Tryz.results32, go_sem, ptV, g0, g1, g2, g3, g4, g5, g6, g7, g8]) rfl ?_
      refine ⟨a4, c4, a2, c2, rfl, ?_, below_set9 HB.out (Nat.le_succ _)⟩
      have hS : ∀ q, X.heap.size ≤ q → w.heap.size ≤ q := fun q hq => by omega
      refine treeAt_mk (us := vs) ⟨?_, fun q hq => hS q (HCb.out q hq).1⟩ ⟨?_, fun q hq => ?_⟩ (kidsAt.keep ?_ _ _ HV.out)
      · exact ownsRow_zero (own_same HC.out fun q hq => heap_set9 (by have := (HCb.out q hq).1; omega))
      · rw [hvl]
        exact ownsRow_zero (own_same HK.out fun q hq => heap_set9 (by have := (HK.out.lt q hq).1; omega))
      · have := (HK.out.lt q hq).1
        show w.heap.size ≤ q
        omega
      · rintro q ⟨hq1, _⟩ _
        exact ⟨heap_set9 (by omega), hS q hq1⟩
end Go.Proofs.YteallnjbpikhhaaGreatDoor

/- Contracts of package fetch: copied of a tree, Find of a part that is. -/
namespace Go.Proofs.YteallnjbpikhhaaGreatDoor
open Go Go.RowKit

/-- A tree that may be, and is not too great. -/
def lowT (t : Tr) : Prop := goodT t ∧ countT t ≤ 1000
theorem low_kid {t : Tr} (h : lowT t) (i : Nat) (hi : i < t.kids.length) : lowT t.kids[i] := by
  refine ⟨goodK_get (goodT_open h.1).2 i hi, ?_⟩
  have h1 := countK_drop t.kids i hi
  have h2 := countK_le t.kids i
  have h3 := countT_eq t
  have h4 := h.2
  omega
theorem low_mem {t : Tr} (h : lowT t) : ∀ k ∈ t.kids, lowT k := fun k hk => by
  obtain ⟨i, hi, rfl⟩ := List.mem_iff_getElem.1 hk
  exact low_kid h i hi
theorem low_lens {t : Tr} (h : lowT t) : t.kids.length ≤ 1000 ∧ t.cuts.length ≤ 1000 := by
  have h1 := lenK_le t.kids
  have h2 := countT_eq t
  have h3 := h.2
  have h5 : t.kids.length ≤ 1000 := by omega
  refine ⟨h5, ?_⟩
  rcases (goodT_open h.1).1.2.2 with ⟨_, _, hc, _⟩ | ⟨_, _, hc⟩ | ⟨_, hc, _⟩
  · rw [hc]; exact Nat.zero_le _
  · omega
  · rw [hc]; exact Nat.zero_le _
theorem tree_low (l : List UInt8) : lowT (treeS l) := ⟨(tree_Q l).1, tree_count l⟩
theorem partsM_mem {P : Tr → Prop} {t : Tr} (h : P t) (hk : ∀ k ∈ t.kids, P k) : ∀ k ∈ partsM t, P k := by
  intro k hm
  unfold partsM at hm
  split at hm
  · exact hk k hm
  · obtain rfl : k = t := by simpa using hm
    exact h
theorem partsB_low (m : Bool) {t : Tr} (h : lowT t) : ∀ k ∈ partsB m t, lowT k := by
  intro k hm
  cases m with
  | true => exact partsM_mem h (low_mem h) k hm
  | false =>
    have hm' : k ∈ partsP t := hm
    unfold partsP at hm'
    split at hm'
    · exact low_mem h k hm'
    · split at hm'
      · unfold kidM at hm'
        cases hks : t.kids with
        | nil => rw [hks] at hm'; cases hm'
        | cons q r =>
          rw [hks] at hm'
          have hq : lowT q := low_mem h q (by rw [hks]; exact List.mem_cons_self)
          exact partsM_mem hq (low_mem hq) k hm'
      · cases hm'
theorem nth_mem {ts : List Tr} {n : Int} {q : Tr} (h : nthT ts n = some q) : q ∈ ts := by
  unfold nthT at h
  split at h
  · cases h
  · exact List.mem_of_getElem? h
theorem down_low : ∀ (p : List Int) (m : Bool) (t q : Tr), lowT t → downT m t p = some q → lowT q
  | [], m, t, q, h, hd => by
    unfold downT at hd
    cases hd
    exact h
  | n :: r, m, t, q, h, hd => by
    cases hn : nthT (partsB m t) n with
    | none => rw [down_no hn] at hd; cases hd
    | some k =>
      rw [down_yes hn] at hd
      exact down_low r false k q (partsB_low m h k (nth_mem hn)) hd
theorem copied_any (n : Nat) : ∀ (t : Tr), SizeOf.sizeOf t ≤ n → ∀ (ks cs : Value) (w : World), lowT t → tAt w t (ptV t ks cs) → Calls Tryz.prog 32 #[ptV t ks cs] w (copPost t w) := by
  induction n with
  | zero => intro t ht; cases t; rw [Tr.mk.sizeOf_spec] at ht; omega
  | succ n ih =>
    intro t ht ks cs w hlo hta
    obtain ⟨h1, h2⟩ := low_lens hlo
    refine copied_step t ks cs w hta (by omega) (by omega) fun i h W ks' cs' h' => ?_
    exact ih t.kids[i] (by have := size_kid i h; omega) ks' cs' W (low_kid hlo i h) h'
def findPost (q : Tr) (w : World) (e : Ending) (w' : World) : Prop :=
  ∃ ka kc ca cc, e = .returned (.tuple #[ptV q (.slice ka q.kids.length kc) (.slice ca q.cuts.length cc), .bool true]) ∧ treeAt (fun k => w.heap.size ≤ k) w' q (ptV q (.slice ka q.kids.length kc) (.slice ca q.cuts.length cc)) ∧ Below w.heap.size w w'
set_option maxRecDepth 100000 in
set_option maxHeartbeats 2000000 in
theorem ffind_some (t q : Tr) (ks cs : Value) (p : List Int) (a1 : Option Addr) (c1 : Nat) (w : World) (hlo : lowT t) (hta : tAt w t (ptV t ks cs)) (hp : rowOf w (.slice a1 p.length c1) (p.map intV)) (hne : p ≠ []) (hpl : p.length ≤ 9223372036854775807) (hn : downT true t p = some q) :
    Calls Tryz.prog 19 #[ptV t ks cs, .slice a1 p.length c1] w (findPost q w) := by
  obtain ⟨ka, kc, ca, cn, cc, rfl, rfl, _⟩ := hta.kids
  have hql := down_low p true t q hlo hn
  have HTa := Lib.hid hta
  have HP := Lib.hid hp
  have HDn := Lib.hid (fun W h1 h2 => down_any t (.slice ka t.kids.length kc) (.slice ca cn cc) p a1 c1 W h1 h2 hne hpl)
  rw [hn] at HDn
  unfold downPost at HDn
  simp only at HDn
  have HCo := Lib.hid (fun ks' cs' W h => copied_any (SizeOf.sizeOf q) q (Nat.le_refl _) ks' cs' W hql h)
  unfold copPost at HCo
  unfold findPost
  unfold ptV at HDn HCo ⊢
  obtain ⟨X, hX⟩ : ∃ X, X = (w.alloc (.cells #[.int .i64 (t.kind : Int), .int .i64 (t.hd.1 : Int), .int .i64 (t.hd.2 : Int), .int .i64 (t.bd.1 : Int), .int .i64 (t.bd.2 : Int), .slice ka t.kids.length kc, .slice ca cn cc, .int .i64 (t.e.1 : Int), .int .i64 (t.e.2 : Int)] 32)).alloc (.cells #[.int .i64 0, .int .i64 0, .int .i64 0, .int .i64 0, .int .i64 0, .slice none 0 0, .slice none 0 0, .int .i64 0, .int .i64 0] 32) := ⟨_, rfl⟩
  obtain ⟨hz, hbX, p0, p1⟩ := alloc2 hX
  obtain ⟨t0, t1, t2, t3, t4, t5, t6, t7, t8⟩ := part_cells p0
  have HP1 := Lib.hid p1
  have HZ := Lib.hid hz
  have HBX := Lib.hid hbX
  have HXe := Lib.hid hX.symm
  clear hX hz hbX p0 p1 hta hp hn
  go_enter Tryz.func19, Tryz.ntmps19
  go_upto_region 1 with fail
  rw [HXe.out]
  go_wp2_with fail
  with_reducible refine (HDn.out X ?k1 ?k2).mono ?_
  case k1 => exact HTa.out.below HBX.out
  case k2 => exact HP.out.below HBX.out
  rintro e w2 ⟨b1, b2, b3, b4, b5, b6, rfl, htq, hb⟩
  have hz2 : w.heap.size + 2 ≤ w2.heap.size := by rw [← HZ.out]; exact hb.size
  have HB2 : Hid (Below w.heap.size w w2) := HBX.out.trans (hb.mono HBX.out.size)
  have q1 := (hb.block (w.heap.size + 1) (Array.getElem?_eq_some_iff.1 HP1.out).1).trans HP1.out
  have HQ1 := Lib.hid q1
  have HT2 : Hid (tAt w2 q (ptV q (.slice b1 b2 b3) (.slice b4 b5 b6))) := htq.below hb
  clear hb q1 t0 t1 t2 t3 t4 t5 t6 t7 t8 htq
  go_wp2_with fail
  obtain ⟨Y, hY⟩ : ∃ Y, Y = w2.alloc (ptO q (.slice b1 b2 b3) (.slice b4 b5 b6)) := ⟨_, rfl⟩
  have hal : Below w2.heap.size w2 Y := by rw [hY]; exact (Below.refl _ _).alloc (Nat.le_refl _) _
  have HAl := Lib.hid hal
  have HTy := Lib.hid (HT2.out.below hal)
  have hzy : w2.heap.size ≤ Y.heap.size := hal.size
  unfold ptO partO at hY
  rw [← hY]
  clear hal hY
  with_reducible refine (HCo.out _ _ _ HTy.out).mono ?_
  rintro e w3 ⟨k3, kc3, s3, sc3, rfl, ht3, hb3⟩
  have HQ3 := Lib.hid ((hb3.block (w.heap.size + 1) (by omega)).trans ((HAl.out.block (w.heap.size + 1) (by omega)).trans HQ1.out))
  have HB3 : Hid (Below w.heap.size w w3) := HB2.out.trans ((HAl.out.trans (hb3.mono hzy)).mono HB2.out.size)
  have HT3 := Lib.hid ht3
  have hz3 : w2.heap.size ≤ w3.heap.size := Nat.le_trans hzy hb3.size
  clear ht3 hb3 HQ1 HB2 HT2 HTy HCo HDn
  obtain ⟨r0, r1, r2, r3, r4, r5, r6, r7, r8⟩ := part_cells HQ3.out
  obtain ⟨x0, x1, x2, x3, x4, x5, x6, x7, x8⟩ := part_frozen HQ3.out
  go_wp2_with fail
  have h9 := row_set9 (a0 := .int .i64 (q.kind : Int)) (a1 := .int .i64 (q.hd.1 : Int)) (a2 := .int .i64 (q.hd.2 : Int)) (a3 := .int .i64 (q.bd.1 : Int)) (a4 := .int .i64 (q.bd.2 : Int)) (a5 := .slice k3 q.kids.length kc3) (a6 := .slice s3 q.cuts.length sc3) (a7 := .int .i64 (q.e.1 : Int)) (a8 := .int .i64 (q.e.2 : Int)) HQ3.out
  obtain ⟨g0, g1, g2, g3, g4, g5, g6, g7, g8⟩ := part_cells (k := (q.kind : Int)) (a := (q.hd.1 : Int)) (b := (q.hd.2 : Int)) (c := (q.bd.1 : Int)) (d := (q.bd.2 : Int)) (ks := .slice k3 q.kids.length kc3) (cs := .slice s3 q.cuts.length sc3) (e := (q.e.1 : Int)) (f := (q.e.2 : Int)) h9
  refine bodyPost_ret (v := .tuple #[ptV q (.slice k3 q.kids.length kc3) (.slice s3 q.cuts.length sc3), .bool true]) (by simp [results, Tryz.results19, go_sem, ptV, g0, g1, g2, g3, g4, g5, g6, g7, g8]) rfl ?_
  refine ⟨k3, kc3, s3, sc3, rfl, ?_, below_set9 HB3.out (Nat.le_succ _)⟩
  exact treeAt.keep (fun k hk _ => ⟨heap_set9 (by omega), by omega⟩) _ _ HT3.out
end Go.Proofs.YteallnjbpikhhaaGreatDoor
