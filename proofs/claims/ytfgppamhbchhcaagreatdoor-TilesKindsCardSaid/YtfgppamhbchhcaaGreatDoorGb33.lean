/- What a message is laid of, in plain words. No program. -/
import Derived.Test.YtfgppamhbchhcaaGreatDoorGb30
import Derived.Test.YtfgppamhbchhcaaGreatDoorGb32
namespace Go.Proofs.YtfgppamhbchhcaaGreatDoor
open Go Go.RowKit

abbrev Tl := Nat × Sp
/-- Where what stands ahead of the first delimiter ends. -/
def preE : List Sp → Sp → Nat | [], e => e.1 | c :: _, _ => c.1
mutual
def tilesT : Tr → List Tl
  | .mk k hd bd ks cs e => (0, hd) :: (if k = 1 then (2, (bd.1, preE cs e)) :: (tilesM ks cs ++ [(4, e), (5, (e.2, bd.2))]) else if k = 2 then tilesH ks else [(1, bd)])
def tilesM : List Tr → List Sp → List Tl
  | [], _ => []
  | t :: r, cs => match cs with
    | [] => []
    | c :: cs' => (3, c) :: (tilesT t ++ tilesM r cs')
def tilesH : List Tr → List Tl
  | [] => []
  | t :: _ => tilesT t
end
theorem tilesT_eq (t : Tr) : tilesT t = (0, t.hd) :: (if t.kind = 1 then (2, (t.bd.1, preE t.cuts t.e)) :: (tilesM t.kids t.cuts ++ [(4, t.e), (5, (t.e.2, t.bd.2))]) else if t.kind = 2 then tilesH t.kids else [(1, t.bd)]) := by
  cases t
  simp only [tilesT, Tr.kind, Tr.hd, Tr.bd, Tr.kids, Tr.cuts, Tr.e]
  rfl
theorem tilesM_cons (t : Tr) (r : List Tr) (c : Sp) (cs : List Sp) : tilesM (t :: r) (c :: cs) = (3, c) :: (tilesT t ++ tilesM r cs) := by simp only [tilesM]
theorem tilesM_nil (cs : List Sp) : tilesM [] cs = [] := by simp only [tilesM]
theorem tilesH_one (t : Tr) : tilesH [t] = tilesT t := by simp only [tilesH]
/-- Tiles one behind the other. -/
def chainT : Nat → Nat → List Tl → Prop
  | a, b, [] => a = b
  | a, b, x :: r => x.2.1 = a ∧ a ≤ x.2.2 ∧ chainT x.2.2 b r
theorem chainT_append : ∀ {x y : List Tl} {a b c : Nat}, chainT a b x → chainT b c y → chainT a c (x ++ y)
  | [], _, _, _, _, h, k => by
    have h' : _ = _ := h
    subst h'
    exact k
  | _ :: _, _, _, _, _, h, k => ⟨h.1, h.2.1, chainT_append h.2.2 k⟩
/-- What a part has by its kind. -/
def formed (t : Tr) : Prop := t.hd.2 = t.bd.1 ∧ t.bd.1 ≤ t.bd.2 ∧
  ((t.kind = 0 ∧ t.kids = [] ∧ t.cuts = [] ∧ t.e = (0, 0)) ∨ (t.kind = 1 ∧ t.kids ≠ [] ∧ t.kids.length = t.cuts.length) ∨ (t.kind = 2 ∧ t.cuts = [] ∧ t.e = (0, 0) ∧ ∃ q, t.kids = [q] ∧ q.hd.1 = t.bd.1 ∧ q.bd.2 = t.bd.2))
mutual
def goodT : Tr → Prop
  | .mk k hd bd ks cs e => formed (.mk k hd bd ks cs e) ∧ goodK ks
def goodK : List Tr → Prop
  | [] => True
  | t :: r => goodT t ∧ goodK r
end
theorem goodT_mk {k : Nat} {hd bd : Sp} {ks : List Tr} {cs : List Sp} {e : Sp} (h : formed (.mk k hd bd ks cs e)) (h2 : goodK ks) : goodT (.mk k hd bd ks cs e) := by
  unfold goodT
  exact ⟨h, h2⟩
theorem goodT_open {t : Tr} (h : goodT t) : formed t ∧ goodK t.kids := by
  cases t
  unfold goodT at h
  exact h
theorem goodK_get : ∀ {ts : List Tr}, goodK ts → ∀ i, (h : i < ts.length) → goodT ts[i]
  | [], _, i, h => by simp at h
  | t :: r, hg, i, h => by
    unfold goodK at hg
    cases i with
    | zero => exact hg.1
    | succ i =>
      have := goodK_get hg.2 i (by simpa using h)
      simpa using this
/-- A tree of just these bytes. -/
def tileQ (t : Tr) (s : Sp) : Prop := goodT t ∧ t.hd.1 = s.1 ∧ t.bd.2 = s.2 ∧ chainT s.1 s.2 (tilesT t)
def tileQs : List Tr → List Sp → Prop
  | [], [] => True
  | t :: r, s :: ss => tileQ t s ∧ tileQs r ss
  | [], _ :: _ => False
  | _ :: _, [] => False
theorem kidsRun_Q {F : Sp → Nat → Tr × Nat} : ∀ (ss : List Sp) (c : Nat), (∀ s ∈ ss, ∀ c', tileQ (F s c').1 s) → tileQs (kidsRun F ss c).1 ss
  | [], _, _ => trivial
  | s :: r, c, h => ⟨h s List.mem_cons_self c, kidsRun_Q r _ fun s' hs' => h s' (List.mem_cons_of_mem _ hs')⟩
theorem tileQs_good : ∀ {ks : List Tr} {ss : List Sp}, tileQs ks ss → goodK ks ∧ ks.length = ss.length
  | [], [], _ => by unfold goodK; exact ⟨trivial, rfl⟩
  | t :: r, s :: ss, h => by
    obtain ⟨h1, h2⟩ := tileQs_good h.2
    unfold goodK
    exact ⟨⟨h.1.1, h1⟩, by simp [h2]⟩
  | [], _ :: _, h => h.elim
  | _ :: _, [], h => h.elim
theorem multi_chain : ∀ {cs : List Sp} {ks : List Tr} {a b : Nat} {e : Sp}, chainC a b cs e → tileQs ks (kidsS cs e) → chainT (preE cs e) e.1 (tilesM ks cs)
  | [], [], _, _, _, _, _ => by
    rw [tilesM_nil]
    rfl
  | [], _ :: _, _, _, _, _, h => h.elim
  | [_], [], _, _, _, _, h => h.elim
  | [c], [t], a, b, e, hc, h => by
    obtain ⟨h1, h2, h3⟩ := hc
    rw [tilesM_cons, tilesM_nil, List.append_nil]
    exact ⟨rfl, h2, h.1.2.2.2⟩
  | [_], _ :: _ :: _, _, _, _, _, h => h.2.elim
  | _ :: _ :: _, [], _, _, _, _, h => h.elim
  | c :: d :: r, t :: ts, a, b, e, hc, h => by
    obtain ⟨h1, h2, h3⟩ := hc
    rw [tilesM_cons]
    exact ⟨rfl, h2, chainT_append h.1.2.2.2 (multi_chain h3 h.2)⟩
theorem preE_in {cs : List Sp} {a b : Nat} {e : Sp} (h : chainC a b cs e) : a ≤ preE cs e ∧ e.1 ≤ e.2 ∧ e.2 ≤ b := by
  have hall : ∀ {cs : List Sp} {a : Nat}, chainC a b cs e → e.1 ≤ e.2 ∧ e.2 ≤ b := by
    intro cs
    induction cs with
    | nil => intro a h; exact ⟨h.2.1, h.2.2⟩
    | cons c r ih => intro a h; exact ih h.2.2
  refine ⟨?_, hall h⟩
  cases cs with
  | nil => exact h.1
  | cons c r => exact h.1
/-- The three ways of a part. -/
theorem pdS_ways (l : List UInt8) (fs : List Fld) {h t : Nat} (hht : h ≤ t) (htl : t ≤ l.length) (k : Val) :
    pdS l fs h t k = noPd ∨ (∃ cs e, chainC h t cs e ∧ pdS l fs h t k = ⟨1, cs, e, kidsS cs e⟩) ∨ pdS l fs h t k = ⟨2, [], (0, 0), [(h, t)]⟩ := by
  unfold pdS
  split
  · split
    · next b hb =>
      exact .inr (.inl ⟨_, _, cutsS_chain l (45 :: 45 :: b) t (linesS l h t) h h (Nat.le_refl _) (chainL_lines l _ h t (Nat.le_refl _) hht htl), rfl⟩)
    · exact .inl rfl
  · split
    · exact .inr (.inr rfl)
    · exact .inl rfl
theorem leaf_Q {f h t : Nat} (h1 : f ≤ h) (h2 : h ≤ t) : tileQ (leafT f h t) (f, t) := by
  refine ⟨goodT_mk ⟨rfl, h2, .inl ⟨rfl, rfl, rfl, rfl⟩⟩ (by unfold goodK; trivial), rfl, rfl, ?_⟩
  rw [tilesT_eq]
  exact ⟨rfl, h1, rfl, h2, rfl⟩
theorem entS_Q (l : List UInt8) : ∀ (d : Nat) (s : Sp) (g : Bool) (c : Nat), s.1 ≤ s.2 → s.2 ≤ l.length → tileQ (entS l d s g c).1 s
  | 0, s, g, c, h1, h2 => by
    have hh := hdOf_le l h1 h2
    exact leaf_Q hh.1 hh.2
  | d + 1, s, g, c, h1, h2 => by
    have hh := hdOf_le l h1 h2
    by_cases hc : (pdS l (fsOf l s.1 s.2) (hdOf l s.1 s.2) s.2 (typeS l (fsOf l s.1 s.2) g)).kids = [] ∨ 1000 < c + (pdS l (fsOf l s.1 s.2) (hdOf l s.1 s.2) s.2 (typeS l (fsOf l s.1 s.2) g)).kids.length
    · rw [entS_leaf hc]
      exact leaf_Q hh.1 hh.2
    · rw [entS_kids rfl rfl hc]
      have hin := pdS_in l (fsOf l s.1 s.2) hh.2 h2 (typeS l (fsOf l s.1 s.2) g)
      have hQ := kidsRun_Q (F := fun s' c' => entS l d s' (digS (typeS l (fsOf l s.1 s.2) g)) c') (pdS l (fsOf l s.1 s.2) (hdOf l s.1 s.2) s.2 (typeS l (fsOf l s.1 s.2) g)).kids
        (c + (pdS l (fsOf l s.1 s.2) (hdOf l s.1 s.2) s.2 (typeS l (fsOf l s.1 s.2) g)).kids.length) (fun s' hs' c' => entS_Q l d s' _ c' (hin s' hs').1 (Nat.le_trans (hin s' hs').2 h2))
      generalize (kidsRun (fun s' c' => entS l d s' (digS (typeS l (fsOf l s.1 s.2) g)) c') (pdS l (fsOf l s.1 s.2) (hdOf l s.1 s.2) s.2 (typeS l (fsOf l s.1 s.2) g)).kids (c + (pdS l (fsOf l s.1 s.2) (hdOf l s.1 s.2) s.2 (typeS l (fsOf l s.1 s.2) g)).kids.length)).1 = ks at hQ ⊢
      simp only [not_or] at hc
      rcases pdS_ways l (fsOf l s.1 s.2) hh.2 h2 (typeS l (fsOf l s.1 s.2) g) with hp | ⟨cs, e, hch, hp⟩ | hp
      · rw [hp] at hc
        exact absurd rfl hc.1
      · rw [hp] at hQ hc ⊢
        obtain ⟨hg, hlen⟩ := tileQs_good hQ
        rw [kidsS_len] at hlen
        have hpre := preE_in hch
        refine ⟨goodT_mk ⟨rfl, hh.2, .inr (.inl ⟨rfl, ?_, hlen⟩)⟩ hg, rfl, rfl, ?_⟩
        · intro e0
          have e1 : ks = [] := e0
          rw [e1] at hlen
          have : cs = [] := List.eq_nil_of_length_eq_zero hlen.symm
          rw [this] at hc
          exact hc.1 rfl
        · rw [tilesT_eq]
          exact ⟨rfl, hh.1, rfl, hpre.1, chainT_append (multi_chain hch hQ) ⟨rfl, hpre.2.1, rfl, hpre.2.2, rfl⟩⟩
      · rw [hp] at hQ hc ⊢
        obtain ⟨hg, hlen⟩ := tileQs_good hQ
        obtain ⟨q, rfl⟩ : ∃ q, ks = [q] := by
          match ks, hlen with
          | [q], _ => exact ⟨q, rfl⟩
        have hq := hQ.1
        refine ⟨goodT_mk ⟨rfl, hh.2, .inr (.inr ⟨rfl, rfl, rfl, q, rfl, hq.2.1, hq.2.2.1⟩)⟩ hg, rfl, rfl, ?_⟩
        rw [tilesT_eq]
        refine ⟨rfl, hh.1, ?_⟩
        show chainT _ _ (tilesH [q])
        rw [tilesH_one]
        exact hq.2.2.2
theorem tree_Q (l : List UInt8) : tileQ (treeS l) (0, l.length) := entS_Q l 32 (0, l.length) false 1 (Nat.zero_le _) (Nat.le_refl _)
theorem kidsRun_cnt {F : Sp → Nat → Tr × Nat} (h : ∀ s c, (F s c).2 + 1 = c + countT (F s c).1) : ∀ (ss : List Sp) (c : Nat), (kidsRun F ss c).2 + ss.length = c + countK (kidsRun F ss c).1
  | [], c => rfl
  | s :: r, c => by
    have ih := kidsRun_cnt h r (F s c).2
    have h1 := h s c
    show (kidsRun F r (F s c).2).2 + (r.length + 1) = c + (countT (F s c).1 + countK (kidsRun F r (F s c).2).1)
    omega
theorem entS_cnt (l : List UInt8) : ∀ (d : Nat) (s : Sp) (g : Bool) (c : Nat), (entS l d s g c).2 + 1 = c + countT (entS l d s g c).1
  | 0, s, g, c => rfl
  | d + 1, s, g, c => by
    by_cases hc : (pdS l (fsOf l s.1 s.2) (hdOf l s.1 s.2) s.2 (typeS l (fsOf l s.1 s.2) g)).kids = [] ∨ 1000 < c + (pdS l (fsOf l s.1 s.2) (hdOf l s.1 s.2) s.2 (typeS l (fsOf l s.1 s.2) g)).kids.length
    · rw [entS_leaf hc]
      rfl
    · rw [entS_kids rfl rfl hc]
      have h := kidsRun_cnt (F := fun s' c' => entS l d s' (digS (typeS l (fsOf l s.1 s.2) g)) c') (fun s' c' => entS_cnt l d s' _ c') (pdS l (fsOf l s.1 s.2) (hdOf l s.1 s.2) s.2 (typeS l (fsOf l s.1 s.2) g)).kids (c + (pdS l (fsOf l s.1 s.2) (hdOf l s.1 s.2) s.2 (typeS l (fsOf l s.1 s.2) g)).kids.length)
      show (kidsRun _ _ _).2 + 1 = c + (1 + countK (kidsRun _ _ _).1)
      omega
theorem tree_count (l : List UInt8) : countT (treeS l) ≤ 1000 := by
  have h1 := entS_cnt l 32 (0, l.length) false 1
  have h2 := entS_le l 32 (0, l.length) false 1 (by decide)
  unfold treeS
  omega
theorem kidsRun_dp {F : Sp → Nat → Tr × Nat} {D : Nat} (h : ∀ s c, deepT (F s c).1 ≤ D) : ∀ (ss : List Sp) (c : Nat), deepK (kidsRun F ss c).1 ≤ D + 1
  | [], _ => Nat.zero_le _
  | s :: r, c => by
    have ih := kidsRun_dp h r (F s c).2
    have h1 := h s c
    show max (1 + deepT (F s c).1) (deepK (kidsRun F r (F s c).2).1) ≤ D + 1
    omega
theorem entS_dp (l : List UInt8) : ∀ (d : Nat) (s : Sp) (g : Bool) (c : Nat), deepT (entS l d s g c).1 ≤ d
  | 0, s, g, c => Nat.le_refl _
  | d + 1, s, g, c => by
    by_cases hc : (pdS l (fsOf l s.1 s.2) (hdOf l s.1 s.2) s.2 (typeS l (fsOf l s.1 s.2) g)).kids = [] ∨ 1000 < c + (pdS l (fsOf l s.1 s.2) (hdOf l s.1 s.2) s.2 (typeS l (fsOf l s.1 s.2) g)).kids.length
    · rw [entS_leaf hc]
      exact Nat.zero_le _
    · rw [entS_kids rfl rfl hc]
      show deepK (kidsRun _ _ _).1 ≤ d + 1
      exact kidsRun_dp (fun s' c' => entS_dp l d s' _ c') _ _
theorem tree_deep (l : List UInt8) : deepT (treeS l) ≤ 32 := entS_dp l 32 _ _ _
mutual
/-- All parts, with how deep they stand. -/
def partsT : Nat → Tr → List (Nat × Tr)
  | d, .mk k hd bd ks cs e => (d, .mk k hd bd ks cs e) :: partsK (d + 1) ks
def partsK : Nat → List Tr → List (Nat × Tr)
  | _, [] => []
  | d, t :: r => partsT d t ++ partsK d r
end
theorem partsT_eq (d : Nat) (t : Tr) : partsT d t = (d, t) :: partsK (d + 1) t.kids := by
  cases t
  simp only [partsT, Tr.kids]
theorem partsK_cons (d : Nat) (t : Tr) (r : List Tr) : partsK d (t :: r) = partsT d t ++ partsK d r := by simp only [partsK]
theorem partsK_nil (d : Nat) : partsK d [] = [] := by simp only [partsK]
mutual
theorem partsT_len : ∀ (d : Nat) (t : Tr), (partsT d t).length = countT t
  | d, .mk k hd bd ks cs e => by
    have := partsK_len (d + 1) ks
    simp only [partsT, List.length_cons, countT]
    omega
theorem partsK_len : ∀ (d : Nat) (ts : List Tr), (partsK d ts).length = countK ts
  | _, [] => by simp only [partsK, List.length_nil, countK]
  | d, t :: r => by
    have h1 := partsT_len d t
    have h2 := partsK_len d r
    simp only [partsK, List.length_append, countK]
    omega
end
mutual
theorem partsT_deep : ∀ (d : Nat) (t : Tr), ∀ x ∈ partsT d t, x.1 ≤ d + deepT t
  | d, .mk k hd bd ks cs e, x, h => by
    simp only [partsT, List.mem_cons] at h
    simp only [deepT]
    rcases h with rfl | h
    · exact Nat.le_add_right _ _
    · have := partsK_deep (d + 1) ks x h
      omega
theorem partsK_deep : ∀ (d : Nat) (ts : List Tr), ∀ x ∈ partsK d ts, x.1 + 1 ≤ d + deepK ts
  | _, [], x, h => by simp [partsK] at h
  | d, t :: r, x, h => by
    simp only [partsK, List.mem_append] at h
    simp only [deepK]
    rcases h with h | h
    · have := partsT_deep d t x h
      omega
    · have := partsK_deep d r x h
      omega
end
mutual
theorem partsT_good : ∀ (d : Nat) (t : Tr), goodT t → ∀ x ∈ partsT d t, formed x.2
  | d, .mk k hd bd ks cs e, hg, x, h => by
    simp only [partsT, List.mem_cons] at h
    unfold goodT at hg
    rcases h with rfl | h
    · exact hg.1
    · exact partsK_good (d + 1) ks hg.2 x h
theorem partsK_good : ∀ (d : Nat) (ts : List Tr), goodK ts → ∀ x ∈ partsK d ts, formed x.2
  | _, [], _, x, h => by simp [partsK] at h
  | d, t :: r, hg, x, h => by
    simp only [partsK, List.mem_append] at h
    unfold goodK at hg
    rcases h with h | h
    · exact partsT_good d t hg.1 x h
    · exact partsK_good d r hg.2 x h
end
end Go.Proofs.YtfgppamhbchhcaaGreatDoor

/- Contracts of package tiles: Bytes, each; tell of a leaf. -/
namespace Go.Proofs.YtfgppamhbchhcaaGreatDoor
open Go Go.RowKit Go.Shelf
attribute [local go_sem] Oper.semAt_some

def tlV (x : Tl) : Value := .agg #[.int .i64 (x.1 : Int), .int .i64 (x.2.1 : Int), .int .i64 (x.2.2 : Int)]
theorem round_any {m m' : Nat} {P : Program} {l : Nat} {f : FuncId} {tmps : Array Value} {assign body : Code} {w : World} {R : Ending → World → Prop} (h : RoundIn Fence.wide m P l f tmps assign body w R) : RoundIn Fence.wide m' P l f tmps assign body w R :=
  ⟨h.1, fun c cs _ => h.2 c cs (room_wide _)⟩
theorem yield_any {m m' : Nat} {P : Program} {l : Nat} {args : Array Value} {W : World} {R : Ending → World → Prop} (h : YieldAt Fence.wide m P l args W R) : YieldAt Fence.wide m' P l args W R := by
  obtain ⟨fn, tmps, assign, body, hy, hR⟩ := h
  exact ⟨fn, tmps, assign, body, hy, round_any hR⟩
/-- What a round does: it keeps what lay, or it says 'no more'. -/
def Yields {α : Type} (enc : α → Array Value) (Lp A : Nat) (wb : World) (N : Nat) (J Jx : List α → World → Prop) : Prop := ∀ m pre x W1, J pre W1 → pre.length < N → YieldAt Fence.wide m Tryz.prog Lp (enc x) W1 fun e W' =>
  (e = .returned (.bool true) ∧ J (pre ++ [x]) W' ∧ KeepK wb.heap.size A W1 W') ∨ (e = .returned (.bool false) ∧ Jx (pre ++ [x]) W')
/-- What an iterator stands on. -/
structure On (wb : World) (A : Nat) (W : World) : Prop where
  below : Below wb.heap.size wb W
  base : wb.heap.size ≤ W.heap.size
  lie : ∀ k, ownsB A W k → k < W.heap.size
theorem On.keep {wb : World} {A : Nat} {W W' : World} (h : On wb A W) (k : KeepK wb.heap.size A W W') : On wb A W' := ⟨h.below.trans k.below, Nat.le_trans h.base k.below.size, k.lie h.lie⟩
theorem On.own {wb : World} {A : Nat} {W : World} (h : On wb A W) : A < W.heap.size := h.lie A (.inl rfl)
theorem On.kept {wb : World} {A : Nat} {W W' : World} (h : On wb A W) (k : Below W.heap.size W W') : KeepK wb.heap.size A W W' := .grow h.base h.own k
theorem On.grow {wb : World} {A : Nat} {W W' : World} (h : On wb A W) (k : Below W.heap.size W W') : On wb A W' := h.keep (h.kept k)
/-- A box of the iterator's own. -/
structure Pb (wb : World) (A B : Nat) (cs : Array Value) (t : TypeId) (W : World) : Prop where
  on : On wb A W
  lies : W.heap[B]? = some (.cells cs t (0, 0))
  no : ¬ ownsB A W B
theorem Pb.keep {wb : World} {A B : Nat} {cs : Array Value} {t : TypeId} {W W' : World} (h : Pb wb A B cs t W) (k : KeepK wb.heap.size A W W') : Pb wb A B cs t W' := by
  obtain ⟨h1, h2⟩ := k.kept B _ h.lies rfl h.no
  exact ⟨h.on.keep k, h1, h2⟩
theorem Pb.new {wb : World} {A : Nat} {W : World} (h : On wb A W) (cs : Array Value) (t : TypeId) : Pb wb A W.heap.size cs t (W.alloc (.cells cs t)) := by
  have hb : Below W.heap.size W (W.alloc (.cells cs t)) := (Below.refl _ _).alloc (Nat.le_refl _) _
  refine ⟨h.grow hb, heap_alloc_new W _, fun hh => ?_⟩
  have := h.lie _ ((ownsB_same (hb.block A h.own) _).1 hh)
  omega
theorem below_new (W : World) (o : Obj) : Below W.heap.size W (W.alloc o) := (Below.refl _ _).alloc (Nat.le_refl _) _
def tellPost {α : Type} (A : Nat) (wb : World) (J Jx : List α → World → Prop) (pre ts : List α) (W : World) (e : Ending) (W' : World) : Prop :=
  (e = .returned (.bool true) ∧ J (pre ++ ts) W' ∧ KeepK wb.heap.size A W W') ∨ (e = .returned (.bool false) ∧ ∃ q, q <+: ts ∧ Jx (pre ++ q) W')

theorem tbytes_any (kd h1 h2 b1 b2 e1 e2 : Nat) (ka ca : Option Addr) (kn kc cn cc : Nat) (w : World) :
    Calls Tryz.prog 18 #[.agg #[.int .i64 (kd : Int), .int .i64 (h1 : Int), .int .i64 (h2 : Int), .int .i64 (b1 : Int), .int .i64 (b2 : Int), .slice ka kn kc, .slice ca cn cc, .int .i64 (e1 : Int), .int .i64 (e2 : Int)]] w
      fun e w' => e = .returned (.agg #[.int .i64 (h1 : Int), .int .i64 (b2 : Int)]) ∧ Below w.heap.size w w' := by
  go_enter Tryz.func18, Tryz.ntmps18
  go_wp2
  (try simp only [Exit.inBlock, Exit.then])
  refine bodyPost_ret (results_cell_row (P := Tryz.prog) Tryz.results18 _ _ (w.heap.size + 1) 26 _ (0, 0) _ rfl (heap_alloc2_new _ _ _) Tryz.underlying26 rfl (by kernel_rfl)) rfl ?_
  exact ⟨rfl, (below_new _ _).alloc (by simp) _⟩
theorem teachI_any (kd h1 h2 b1 b2 e1 e2 : Int) (ka ca : Option Addr) (kn kc cn cc : Nat) (w : World) :
    Calls Tryz.prog 25 #[.agg #[.int .i64 kd, .int .i64 h1, .int .i64 h2, .int .i64 b1, .int .i64 b2, .slice ka kn kc, .slice ca cn cc, .int .i64 e1, .int .i64 e2]] w
      fun e w' => e = .returned (.func (.func 34) #[] #[.pointer (some ⟨w.heap.size, 0, none⟩)]) ∧
        w' = w.alloc (.cells #[.int .i64 kd, .int .i64 h1, .int .i64 h2, .int .i64 b1, .int .i64 b2, .slice ka kn kc, .slice ca cn cc, .int .i64 e1, .int .i64 e2] 30) := by
  go_enter Tryz.func25, Tryz.ntmps25
  go_wp2
  go_ret
  exact ⟨rfl, rfl⟩
theorem tpartsI_any (kd h1 h2 b1 b2 e1 e2 : Int) (ka ca : Option Addr) (kn kc cn cc : Nat) (w : World) :
    Calls Tryz.prog 31 #[.agg #[.int .i64 kd, .int .i64 h1, .int .i64 h2, .int .i64 b1, .int .i64 b2, .slice ka kn kc, .slice ca cn cc, .int .i64 e1, .int .i64 e2]] w
      fun e w' => e = .returned (.func (.func 44) #[] #[.pointer (some ⟨w.heap.size, 0, none⟩)]) ∧
        w' = w.alloc (.cells #[.int .i64 kd, .int .i64 h1, .int .i64 h2, .int .i64 b1, .int .i64 b2, .slice ka kn kc, .slice ca cn cc, .int .i64 e1, .int .i64 e2] 30) := by
  go_enter Tryz.func31, Tryz.ntmps31
  go_wp2
  go_ret
  exact ⟨rfl, rfl⟩
set_option maxRecDepth 100000 in
set_option maxHeartbeats 2000000 in
theorem tell_leaf (n Lp A N : Nat) (wb : World) (J Jx : List Tl → World → Prop) (hJ : ∀ pre W W', J pre W → Below W.heap.size W W' → J pre W') (hY : Yields (fun x => #[tlV x]) Lp A wb N J Jx)
    (h1 h2 b1 b2 e1 e2 : Nat) (ka ca : Option Addr) (kn kc cn cc : Nat) (W : World) (hon : On wb A W) (pre : List Tl) (h0 : J pre W) (hN : pre.length + 2 ≤ N) :
    CallsIn Fence.wide n Tryz.prog 35 #[.agg #[.int .i64 0, .int .i64 (h1 : Int), .int .i64 (h2 : Int), .int .i64 (b1 : Int), .int .i64 (b2 : Int), .slice ka kn kc, .slice ca cn cc, .int .i64 (e1 : Int), .int .i64 (e2 : Int)], .func (.yield Lp) #[] #[]] W
      (tellPost A wb J Jx pre [(0, (h1, h2)), (1, (b1, b2))] W) := by
  have HP := Lib.hid (Pb.new hon #[.int .i64 0, .int .i64 (h1 : Int), .int .i64 (h2 : Int), .int .i64 (b1 : Int), .int .i64 (b2 : Int), .slice ka kn kc, .slice ca cn cc, .int .i64 (e1 : Int), .int .i64 (e2 : Int)] 30)
  have HK := Lib.hid (hon.kept (below_new W (.cells #[.int .i64 0, .int .i64 (h1 : Int), .int .i64 (h2 : Int), .int .i64 (b1 : Int), .int .i64 (b2 : Int), .slice ka kn kc, .slice ca cn cc, .int .i64 (e1 : Int), .int .i64 (e2 : Int)] 30)))
  have hJX := hJ pre W _ h0 (below_new W (.cells #[.int .i64 0, .int .i64 (h1 : Int), .int .i64 (h2 : Int), .int .i64 (b1 : Int), .int .i64 (b2 : Int), .slice ka kn kc, .slice ca cn cc, .int .i64 (e1 : Int), .int .i64 (e2 : Int)] 30))
  obtain ⟨fn, tmps, assign, body, hy, hR⟩ := hY (n - 1) pre (0, (h1, h2)) _ hJX (by omega)
  have HR := Lib.hid hR
  have HY := Lib.hid hY
  have HJx : Hid (∀ W', Jx (pre ++ [(0, (h1, h2))]) W' → tellPost A wb J Jx pre [(0, (h1, h2)), (1, (b1, b2))] W (.returned (.bool false)) W') := fun W' h => .inr ⟨rfl, _, ⟨[(1, (b1, b2))], rfl⟩, h⟩
  replace hy : (Instr.yield Lp #[.agg #[.int .i64 0, .int .i64 (h1 : Int), .int .i64 (h2 : Int)]]).run Tryz.prog _ = .ok (.round Lp fn tmps assign body) _ := hy
  clear hR hJX h0 hJ hY hon
  refine callsIn_of_wp Tryz.func35 rfl trivial ?_ rfl
  simp only [Tryz.ntmps35, List.size_toArray, List.length_cons, List.length_nil, Nat.reduceAdd, Nat.reduceSub, Array.replicate_succ, Array.replicate_zero, List.push_toArray, List.append_toArray, List.nil_append, List.cons_append]
  gi_wp2
  refine ⟨fun h => (by cases h), ?_⟩
  refine HR.out.mono ?_
  rintro e W3 (⟨rfl, hJ4, hk4⟩ | ⟨rfl, hJx4⟩)
  · have HP3 := Lib.hid (HP.out.keep hk4)
    have HK3 := Lib.hid (HK.out.trans hk4)
    have hl := HP3.out.lies
    have c0 : W3.cell? ⟨W.heap.size, 0, none⟩ = some (.int .i64 0) := by simp [World.cell?, hl]
    have c3 : W3.cell? ⟨W.heap.size, 3, none⟩ = some (.int .i64 (b1 : Int)) := by simp [World.cell?, hl]
    have c4 : W3.cell? ⟨W.heap.size, 4, none⟩ = some (.int .i64 (b2 : Int)) := by simp [World.cell?, hl]
    obtain ⟨fn', tmps', assign', body', hy', hR'⟩ := HY.out (n - 1) _ (1, (b1, b2)) _ hJ4 (by simp only [List.length_append, List.length_cons, List.length_nil]; omega)
    have HR' := Lib.hid hR'
    replace hy' : (Instr.yield Lp #[.agg #[.int .i64 1, .int .i64 (b1 : Int), .int .i64 (b2 : Int)]]).run Tryz.prog _ = .ok (.round Lp fn' tmps' assign' body') _ := hy'
    clear hR' hl hk4 hJ4 hy HR
    gi_wp2
    refine ⟨fun h => (by cases h), ?_⟩
    refine HR'.out.mono ?_
    rintro e W5 (⟨rfl, hJ5, hk5⟩ | ⟨rfl, hJx5⟩)
    · have HE : Hid (tellPost A wb J Jx pre [(0, (h1, h2)), (1, (b1, b2))] W (.returned (.bool true)) W5) := .inl ⟨rfl, by simpa [List.append_assoc] using hJ5, HK3.out.trans hk5⟩
      clear hJ5 hk5
      gi_wp2
      go_ret
      exact HE.out
    · have HE : Hid (tellPost A wb J Jx pre [(0, (h1, h2)), (1, (b1, b2))] W (.returned (.bool false)) W5) := .inr ⟨rfl, _, List.prefix_refl _, by simpa [List.append_assoc] using hJx5⟩
      clear hJx5
      gi_wp2
      go_ret
      exact HE.out
  · have HE := Lib.hid (HJx.out _ hJx4)
    clear hJx4
    gi_wp2
    go_ret
    exact HE.out
end Go.Proofs.YtfgppamhbchhcaaGreatDoor
