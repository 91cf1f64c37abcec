/- Spans of kids, and how many parts there are, in plain words. No program. -/
import Derived.Test.YtedminjnnhlknaaGreatDoorGbTrN
import Derived.Test.YtedminjnnhlknaaGreatDoorGbTrB
namespace Go.Proofs.YtedminjnnhlknaaGreatDoor
open Go Go.RowKit
def chainC : Nat → Nat → List Sp → Sp → Prop
 | a, b, [], e => a ≤ e.1 ∧ e.1 ≤ e.2 ∧ e.2 ≤ b
 | a, b, c :: r, e => a ≤ c.1 ∧ c.1 ≤ c.2 ∧ chainC c.2 b r e
theorem chainC_mono : ∀ {cs : List Sp} {a a' b : Nat} {e : Sp}, a' ≤ a → chainC a b cs e → chainC a' b cs e
 | [], _, _, _, _, h, hc => ⟨Nat.le_trans h hc.1, hc.2⟩
 | _ :: _, _, _, _, _, h, hc => ⟨Nat.le_trans h hc.1, hc.2⟩
theorem cutsS_chain (l m0 : List UInt8) (bt : Nat) : ∀ (ls : List Ln) (fr a : Nat), fr ≤ a → chainL a bt ls → chainC fr bt (cutsS l m0 bt fr ls).1 (cutsS l m0 bt fr ls).2
 | [], fr, a, h, hc => by
  have : a ≤ bt := hc
  exact ⟨Nat.le_trans h this, Nat.le_refl _, Nat.le_refl _⟩
 | x :: r, fr, a, h, hc => by
  obtain ⟨h1, h2, h3, h4⟩ := hc
  have hle := chainL_le h4
  rcases lkS_le m0 (textOf l x) with hk | hk | hk
  ·rw [cutsS_other (by rw [hk]; decide) (by rw [hk]; decide)]
   exact chainC_mono (by omega) (cutsS_chain l m0 bt r x.t x.n h3 h4)
  ·rw [cutsS_open hk]
   exact ⟨Nat.le_refl _, show fr ≤ x.n by omega, cutsS_chain l m0 bt r x.n x.n (Nat.le_refl _) h4⟩
  ·rw [cutsS_close hk]
   exact ⟨Nat.le_refl _, show fr ≤ x.n by omega, show x.n ≤ bt from hle⟩
theorem chainC_le : ∀ {cs : List Sp} {a b : Nat} {e : Sp}, chainC a b cs e → a ≤ e.1 ∧ e.1 ≤ b
 | [], a, b, e, h => ⟨h.1, Nat.le_trans h.2.1 h.2.2⟩
 | c :: r, a, b, e, h => by
  obtain ⟨h1, h2, h3⟩ := h
  have := chainC_le h3
  omega
theorem kidsS_in : ∀ {cs : List Sp} {a b : Nat} {e : Sp}, chainC a b cs e → ∀ s ∈ kidsS cs e, a ≤ s.1 ∧ s.1 ≤ s.2 ∧ s.2 ≤ b
 | [], _, _, _, _ => fun s hs => by cases hs
 | [c], a, b, e, h => fun s hs => by
  obtain ⟨h1, h2, h3, h4, h5⟩ := h
  rcases List.mem_cons.1 hs with rfl | hs
  ·exact ⟨by show a ≤ c.2; omega, h3, by show e.1 ≤ b; omega⟩
  ·cases hs
 | c :: d :: r, a, b, e, h => fun s hs => by
  obtain ⟨h1, h2, h3⟩ := h
  have hd := h3
  obtain ⟨h4, h5, h6⟩ := hd
  have := chainC_le h6
  rcases List.mem_cons.1 hs with rfl | hs
  ·exact ⟨by show a ≤ c.2; omega, h4, by show d.1 ≤ b; omega⟩
  ·have := kidsS_in h3 s hs
   omega
theorem pdS_in (l : List UInt8) (fs : List Fld) {h t : Nat} (hht : h ≤ t) (htl : t ≤ l.length) (k : Val) : ∀ s ∈ (pdS l fs h t k).kids, s.1 ≤ s.2 ∧ s.2 ≤ t := by
 unfold pdS
 split
 ·split
  ·next b hb =>
   intro s hs
   have := kidsS_in (cutsS_chain l (45 :: 45 :: b) t (linesS l h t) h h (Nat.le_refl _) (chainL_lines l _ h t (Nat.le_refl _) hht htl)) s hs
   omega
  ·exact fun s hs => by cases hs
 ·split
  ·intro s hs
   rcases List.mem_cons.1 hs with rfl | hs
   ·exact ⟨hht, Nat.le_refl _⟩
   ·cases hs
  ·exact fun s hs => by cases hs
theorem cutsS_len (l m0 : List UInt8) (bt : Nat) : ∀ (ls : List Ln) (fr : Nat), (cutsS l m0 bt fr ls).1.length ≤ ls.length
 | [], _ => Nat.le_refl _
 | x :: r, fr => by
  rcases lkS_le m0 (textOf l x) with hk | hk | hk
  ·rw [cutsS_other (by rw [hk]; decide) (by rw [hk]; decide)]
   exact Nat.le_succ_of_le (cutsS_len l m0 bt r x.t)
  ·rw [cutsS_open hk]
   simp only [List.length_cons]
   exact Nat.succ_le_succ (cutsS_len l m0 bt r x.n)
  ·rw [cutsS_close hk]
   exact Nat.zero_le _
theorem pdS_kids (l : List UInt8) (fs : List Fld) (h t : Nat) (k : Val) : (pdS l fs h t k).kids = (if (pdS l fs h t k).kind = 2 then [(h, t)] else kidsS (pdS l fs h t k).cuts (pdS l fs h t k).e) := by
 unfold pdS
 split
 ·split
  ·rfl
  ·rfl
 ·split
  ·rfl
  ·rfl
theorem pdS_cuts (l : List UInt8) (fs : List Fld) {h t : Nat} (htl : t ≤ l.length) (k : Val) : (pdS l fs h t k).cuts.length ≤ l.length := by
 have h1 := linesS_len l h t
 unfold pdS
 split
 ·split
  ·have := cutsS_len l (45 :: 45 :: (by assumption)) t (linesS l h t) h
   exact Nat.le_trans this (by omega)
  ·exact Nat.zero_le _
 ·split
  ·exact Nat.zero_le _
  ·exact Nat.zero_le _
theorem kidsRun_le {F : Sp → Nat → Tr × Nat} (hF : ∀ s c, c ≤ 1000 → (F s c).2 ≤ 1000) : ∀ (ss : List Sp) (c : Nat), c ≤ 1000 → (kidsRun F ss c).2 ≤ 1000
 | [], _, h => h
 | s :: r, c, h => kidsRun_le hF r _ (hF s c h)
theorem entS_le (l : List UInt8) : ∀ (d : Nat) (s : Sp) (g : Bool) (c : Nat), c ≤ 1000 → (entS l d s g c).2 ≤ 1000
 | 0, _, _, _, h => h
 | d + 1, s, g, c, h => by
  unfold entS
  simp only
  split
  ·exact h
  ·next hn =>
   simp only [not_or] at hn
   exact kidsRun_le (fun s' c' h' => entS_le l d s' _ c' h') _ _ (by omega)
theorem entS_leaf {l : List UInt8} {d : Nat} {s : Sp} {g : Bool} {c : Nat} (h : (pdS l (fsOf l s.1 s.2) (hdOf l s.1 s.2) s.2 (typeS l (fsOf l s.1 s.2) g)).kids = [] ∨ 1000 < c + (pdS l (fsOf l s.1 s.2) (hdOf l s.1 s.2) s.2 (typeS l (fsOf l s.1 s.2) g)).kids.length) :
  entS l (d + 1) s g c = (leafT s.1 (hdOf l s.1 s.2) s.2, c) := by
 unfold entS
 simp only
 rw [if_pos h]
theorem entS_kids {l : List UInt8} {d : Nat} {s : Sp} {g : Bool} {c : Nat} {k : Val} {p : Pd} (hk : k = typeS l (fsOf l s.1 s.2) g) (hp : p = pdS l (fsOf l s.1 s.2) (hdOf l s.1 s.2) s.2 k) (h : ¬ (p.kids = [] ∨ 1000 < c + p.kids.length)) :
  entS l (d + 1) s g c = (.mk p.kind (s.1, hdOf l s.1 s.2) (hdOf l s.1 s.2, s.2) (kidsRun (fun s' c' => entS l d s' (digS k) c') p.kids (c + p.kids.length)).1 p.cuts p.e,
   (kidsRun (fun s' c' => entS l d s' (digS k) c') p.kids (c + p.kids.length)).2) := by
 subst hk hp
 rw [entS, if_neg h]
abbrev Tl := Nat × Sp
def preE : List Sp → Sp → Nat | [], e => e.1 | c :: _, _ => c.1
mutual
def tilesT : Tr → List Tl
 | .mk k hd bd ks cs e => (0, hd) :: (if k = 1 then (2, (bd.1, preE cs e)) :: (tilesM ks cs ++ [(4, e), (5, (e.2, bd.2))]) else if k = 2 then tilesH ks else [(1, bd)])
def tilesM : List Tr → List Sp → List Tl
 | [], _ => []
 | t :: r, cs => match cs with
  | [] => []
  | c :: cs' => (3, c) :: (tilesT t ++ tilesM r cs')
def tilesH : List Tr → List Tl
 | [] => []
 | t :: _ => tilesT t
end
theorem tilesT_eq (t : Tr) : tilesT t = (0, t.hd) :: (if t.kind = 1 then (2, (t.bd.1, preE t.cuts t.e)) :: (tilesM t.kids t.cuts ++ [(4, t.e), (5, (t.e.2, t.bd.2))]) else if t.kind = 2 then tilesH t.kids else [(1, t.bd)]) := by
 cases t
 simp only [tilesT, Tr.kind, Tr.hd, Tr.bd, Tr.kids, Tr.cuts, Tr.e]
 rfl
theorem tilesM_cons (t : Tr) (r : List Tr) (c : Sp) (cs : List Sp) : tilesM (t :: r) (c :: cs) = (3, c) :: (tilesT t ++ tilesM r cs) := by simp only [tilesM]
theorem tilesM_nil (cs : List Sp) : tilesM [] cs = [] := by simp only [tilesM]
theorem tilesH_one (t : Tr) : tilesH [t] = tilesT t := by simp only [tilesH]
def chainT : Nat → Nat → List Tl → Prop
 | a, b, [] => a = b
 | a, b, x :: r => x.2.1 = a ∧ a ≤ x.2.2 ∧ chainT x.2.2 b r
theorem chainT_append : ∀ {x y : List Tl} {a b c : Nat}, chainT a b x → chainT b c y → chainT a c (x ++ y)
 | [], _, _, _, _, h, k => by
  have h' : _ = _ := h
  subst h'
  exact k
 | _ :: _, _, _, _, _, h, k => ⟨h.1, h.2.1, chainT_append h.2.2 k⟩
def formed (t : Tr) : Prop := t.hd.2 = t.bd.1 ∧ t.bd.1 ≤ t.bd.2 ∧
 ((t.kind = 0 ∧ t.kids = [] ∧ t.cuts = [] ∧ t.e = (0, 0)) ∨ (t.kind = 1 ∧ t.kids ≠ [] ∧ t.kids.length = t.cuts.length) ∨ (t.kind = 2 ∧ t.cuts = [] ∧ t.e = (0, 0) ∧ ∃ q, t.kids = [q] ∧ q.hd.1 = t.bd.1 ∧ q.bd.2 = t.bd.2))
mutual
def goodT : Tr → Prop
 | .mk k hd bd ks cs e => formed (.mk k hd bd ks cs e) ∧ goodK ks
def goodK : List Tr → Prop
 | [] => True
 | t :: r => goodT t ∧ goodK r
end
theorem goodT_mk {k : Nat} {hd bd : Sp} {ks : List Tr} {cs : List Sp} {e : Sp} (h : formed (.mk k hd bd ks cs e)) (h2 : goodK ks) : goodT (.mk k hd bd ks cs e) := by
 unfold goodT
 exact ⟨h, h2⟩
theorem goodT_open {t : Tr} (h : goodT t) : formed t ∧ goodK t.kids := by
 cases t
 unfold goodT at h
 exact h
theorem goodK_get : ∀ {ts : List Tr}, goodK ts → ∀ i, (h : i < ts.length) → goodT ts[i]
 | [], _, i, h => by simp at h
 | t :: r, hg, i, h => by
  unfold goodK at hg
  cases i with
  | zero => exact hg.1
  | succ i =>
   have := goodK_get hg.2 i (by simpa using h)
   simpa using this
def tileQ (t : Tr) (s : Sp) : Prop := goodT t ∧ t.hd.1 = s.1 ∧ t.bd.2 = s.2 ∧ chainT s.1 s.2 (tilesT t)
def tileQs : List Tr → List Sp → Prop
 | [], [] => True
 | t :: r, s :: ss => tileQ t s ∧ tileQs r ss
 | [], _ :: _ => False
 | _ :: _, [] => False
theorem kidsRun_Q {F : Sp → Nat → Tr × Nat} : ∀ (ss : List Sp) (c : Nat), (∀ s ∈ ss, ∀ c', tileQ (F s c').1 s) → tileQs (kidsRun F ss c).1 ss
 | [], _, _ => trivial
 | s :: r, c, h => ⟨h s List.mem_cons_self c, kidsRun_Q r _ fun s' hs' => h s' (List.mem_cons_of_mem _ hs')⟩
theorem tileQs_good : ∀ {ks : List Tr} {ss : List Sp}, tileQs ks ss → goodK ks ∧ ks.length = ss.length
 | [], [], _ => by unfold goodK; exact ⟨trivial, rfl⟩
 | t :: r, s :: ss, h => by
  obtain ⟨h1, h2⟩ := tileQs_good h.2
  unfold goodK
  exact ⟨⟨h.1.1, h1⟩, by simp [h2]⟩
 | [], _ :: _, h => h.elim
 | _ :: _, [], h => h.elim
theorem multi_chain : ∀ {cs : List Sp} {ks : List Tr} {a b : Nat} {e : Sp}, chainC a b cs e → tileQs ks (kidsS cs e) → chainT (preE cs e) e.1 (tilesM ks cs)
 | [], [], _, _, _, _, _ => by
  rw [tilesM_nil]
  rfl
 | [], _ :: _, _, _, _, _, h => h.elim
 | [_], [], _, _, _, _, h => h.elim
 | [c], [t], a, b, e, hc, h => by
  obtain ⟨h1, h2, h3⟩ := hc
  rw [tilesM_cons, tilesM_nil, List.append_nil]
  exact ⟨rfl, h2, h.1.2.2.2⟩
 | [_], _ :: _ :: _, _, _, _, _, h => h.2.elim
 | _ :: _ :: _, [], _, _, _, _, h => h.elim
 | c :: d :: r, t :: ts, a, b, e, hc, h => by
  obtain ⟨h1, h2, h3⟩ := hc
  rw [tilesM_cons]
  exact ⟨rfl, h2, chainT_append h.1.2.2.2 (multi_chain h3 h.2)⟩
theorem preE_in {cs : List Sp} {a b : Nat} {e : Sp} (h : chainC a b cs e) : a ≤ preE cs e ∧ e.1 ≤ e.2 ∧ e.2 ≤ b := by
 have hall : ∀ {cs : List Sp} {a : Nat}, chainC a b cs e → e.1 ≤ e.2 ∧ e.2 ≤ b := by
  intro cs
  induction cs with
  | nil => intro a h; exact ⟨h.2.1, h.2.2⟩
  | cons c r ih => intro a h; exact ih h.2.2
 refine ⟨?_, hall h⟩
 cases cs with
 | nil => exact h.1
 | cons c r => exact h.1
theorem pdS_ways (l : List UInt8) (fs : List Fld) {h t : Nat} (hht : h ≤ t) (htl : t ≤ l.length) (k : Val) :
  pdS l fs h t k = noPd ∨ (∃ cs e, chainC h t cs e ∧ pdS l fs h t k = ⟨1, cs, e, kidsS cs e⟩) ∨ pdS l fs h t k = ⟨2, [], (0, 0), [(h, t)]⟩ := by
 unfold pdS
 split
 ·split
  ·next b hb =>
   exact .inr (.inl ⟨_, _, cutsS_chain l (45 :: 45 :: b) t (linesS l h t) h h (Nat.le_refl _) (chainL_lines l _ h t (Nat.le_refl _) hht htl), rfl⟩)
  ·exact .inl rfl
 ·split
  ·exact .inr (.inr rfl)
  ·exact .inl rfl
theorem leaf_Q {f h t : Nat} (h1 : f ≤ h) (h2 : h ≤ t) : tileQ (leafT f h t) (f, t) := by
 refine ⟨goodT_mk ⟨rfl, h2, .inl ⟨rfl, rfl, rfl, rfl⟩⟩ (by unfold goodK; trivial), rfl, rfl, ?_⟩
 rw [tilesT_eq]
 exact ⟨rfl, h1, rfl, h2, rfl⟩
theorem entS_Q (l : List UInt8) : ∀ (d : Nat) (s : Sp) (g : Bool) (c : Nat), s.1 ≤ s.2 → s.2 ≤ l.length → tileQ (entS l d s g c).1 s
 | 0, s, g, c, h1, h2 => by
  have hh := hdOf_le l h1 h2
  exact leaf_Q hh.1 hh.2
 | d + 1, s, g, c, h1, h2 => by
  have hh := hdOf_le l h1 h2
  by_cases hc : (pdS l (fsOf l s.1 s.2) (hdOf l s.1 s.2) s.2 (typeS l (fsOf l s.1 s.2) g)).kids = [] ∨ 1000 < c + (pdS l (fsOf l s.1 s.2) (hdOf l s.1 s.2) s.2 (typeS l (fsOf l s.1 s.2) g)).kids.length
  ·rw [entS_leaf hc]
   exact leaf_Q hh.1 hh.2
  ·rw [entS_kids rfl rfl hc]
   have hin := pdS_in l (fsOf l s.1 s.2) hh.2 h2 (typeS l (fsOf l s.1 s.2) g)
   have hQ := kidsRun_Q (F := fun s' c' => entS l d s' (digS (typeS l (fsOf l s.1 s.2) g)) c') (pdS l (fsOf l s.1 s.2) (hdOf l s.1 s.2) s.2 (typeS l (fsOf l s.1 s.2) g)).kids
    (c + (pdS l (fsOf l s.1 s.2) (hdOf l s.1 s.2) s.2 (typeS l (fsOf l s.1 s.2) g)).kids.length) (fun s' hs' c' => entS_Q l d s' _ c' (hin s' hs').1 (Nat.le_trans (hin s' hs').2 h2))
   generalize (kidsRun (fun s' c' => entS l d s' (digS (typeS l (fsOf l s.1 s.2) g)) c') (pdS l (fsOf l s.1 s.2) (hdOf l s.1 s.2) s.2 (typeS l (fsOf l s.1 s.2) g)).kids (c + (pdS l (fsOf l s.1 s.2) (hdOf l s.1 s.2) s.2 (typeS l (fsOf l s.1 s.2) g)).kids.length)).1 = ks at hQ ⊢
   simp only [not_or] at hc
   rcases pdS_ways l (fsOf l s.1 s.2) hh.2 h2 (typeS l (fsOf l s.1 s.2) g) with hp | ⟨cs, e, hch, hp⟩ | hp
   ·rw [hp] at hc
    exact absurd rfl hc.1
   ·rw [hp] at hQ hc ⊢
    obtain ⟨hg, hlen⟩ := tileQs_good hQ
    rw [kidsS_len] at hlen
    have hpre := preE_in hch
    refine ⟨goodT_mk ⟨rfl, hh.2, .inr (.inl ⟨rfl, ?_, hlen⟩)⟩ hg, rfl, rfl, ?_⟩
    ·intro e0
     have e1 : ks = [] := e0
     rw [e1] at hlen
     have : cs = [] := List.eq_nil_of_length_eq_zero hlen.symm
     rw [this] at hc
     exact hc.1 rfl
    ·rw [tilesT_eq]
     exact ⟨rfl, hh.1, rfl, hpre.1, chainT_append (multi_chain hch hQ) ⟨rfl, hpre.2.1, rfl, hpre.2.2, rfl⟩⟩
   ·rw [hp] at hQ hc ⊢
    obtain ⟨hg, hlen⟩ := tileQs_good hQ
    obtain ⟨q, rfl⟩ : ∃ q, ks = [q] := by
     match ks, hlen with
     | [q], _ => exact ⟨q, rfl⟩
    have hq := hQ.1
    refine ⟨goodT_mk ⟨rfl, hh.2, .inr (.inr ⟨rfl, rfl, rfl, q, rfl, hq.2.1, hq.2.2.1⟩)⟩ hg, rfl, rfl, ?_⟩
    rw [tilesT_eq]
    refine ⟨rfl, hh.1, ?_⟩
    show chainT _ _ (tilesH [q])
    rw [tilesH_one]
    exact hq.2.2.2
theorem tree_Q (l : List UInt8) : tileQ (treeS l) (0, l.length) := entS_Q l 32 (0, l.length) false 1 (Nat.zero_le _) (Nat.le_refl _)
theorem kidsRun_cnt {F : Sp → Nat → Tr × Nat} (h : ∀ s c, (F s c).2 + 1 = c + countT (F s c).1) : ∀ (ss : List Sp) (c : Nat), (kidsRun F ss c).2 + ss.length = c + countK (kidsRun F ss c).1
 | [], c => rfl
 | s :: r, c => by
  have ih := kidsRun_cnt h r (F s c).2
  have h1 := h s c
  show (kidsRun F r (F s c).2).2 + (r.length + 1) = c + (countT (F s c).1 + countK (kidsRun F r (F s c).2).1)
  omega
theorem entS_cnt (l : List UInt8) : ∀ (d : Nat) (s : Sp) (g : Bool) (c : Nat), (entS l d s g c).2 + 1 = c + countT (entS l d s g c).1
 | 0, s, g, c => rfl
 | d + 1, s, g, c => by
  by_cases hc : (pdS l (fsOf l s.1 s.2) (hdOf l s.1 s.2) s.2 (typeS l (fsOf l s.1 s.2) g)).kids = [] ∨ 1000 < c + (pdS l (fsOf l s.1 s.2) (hdOf l s.1 s.2) s.2 (typeS l (fsOf l s.1 s.2) g)).kids.length
  ·rw [entS_leaf hc]
   rfl
  ·rw [entS_kids rfl rfl hc]
   have h := kidsRun_cnt (F := fun s' c' => entS l d s' (digS (typeS l (fsOf l s.1 s.2) g)) c') (fun s' c' => entS_cnt l d s' _ c') (pdS l (fsOf l s.1 s.2) (hdOf l s.1 s.2) s.2 (typeS l (fsOf l s.1 s.2) g)).kids (c + (pdS l (fsOf l s.1 s.2) (hdOf l s.1 s.2) s.2 (typeS l (fsOf l s.1 s.2) g)).kids.length)
   show (kidsRun _ _ _).2 + 1 = c + (1 + countK (kidsRun _ _ _).1)
   omega
theorem tree_count (l : List UInt8) : countT (treeS l) ≤ 1000 := by
 have h1 := entS_cnt l 32 (0, l.length) false 1
 have h2 := entS_le l 32 (0, l.length) false 1 (by decide)
 unfold treeS
 omega
theorem kidsRun_dp {F : Sp → Nat → Tr × Nat} {D : Nat} (h : ∀ s c, deepT (F s c).1 ≤ D) : ∀ (ss : List Sp) (c : Nat), deepK (kidsRun F ss c).1 ≤ D + 1
 | [], _ => Nat.zero_le _
 | s :: r, c => by
  have ih := kidsRun_dp h r (F s c).2
  have h1 := h s c
  show max (1 + deepT (F s c).1) (deepK (kidsRun F r (F s c).2).1) ≤ D + 1
  omega
theorem entS_dp (l : List UInt8) : ∀ (d : Nat) (s : Sp) (g : Bool) (c : Nat), deepT (entS l d s g c).1 ≤ d
 | 0, s, g, c => Nat.le_refl _
 | d + 1, s, g, c => by
  by_cases hc : (pdS l (fsOf l s.1 s.2) (hdOf l s.1 s.2) s.2 (typeS l (fsOf l s.1 s.2) g)).kids = [] ∨ 1000 < c + (pdS l (fsOf l s.1 s.2) (hdOf l s.1 s.2) s.2 (typeS l (fsOf l s.1 s.2) g)).kids.length
  ·rw [entS_leaf hc]
   exact Nat.zero_le _
  ·rw [entS_kids rfl rfl hc]
   show deepK (kidsRun _ _ _).1 ≤ d + 1
   exact kidsRun_dp (fun s' c' => entS_dp l d s' _ c') _ _
theorem tree_deep (l : List UInt8) : deepT (treeS l) ≤ 32 := entS_dp l 32 _ _ _
mutual
def partsT : Nat → Tr → List (Nat × Tr)
 | d, .mk k hd bd ks cs e => (d, .mk k hd bd ks cs e) :: partsK (d + 1) ks
def partsK : Nat → List Tr → List (Nat × Tr)
 | _, [] => []
 | d, t :: r => partsT d t ++ partsK d r
end
theorem partsT_eq (d : Nat) (t : Tr) : partsT d t = (d, t) :: partsK (d + 1) t.kids := by
 cases t
 simp only [partsT, Tr.kids]
theorem partsK_cons (d : Nat) (t : Tr) (r : List Tr) : partsK d (t :: r) = partsT d t ++ partsK d r := by simp only [partsK]
theorem partsK_nil (d : Nat) : partsK d [] = [] := by simp only [partsK]
mutual
theorem partsT_len : ∀ (d : Nat) (t : Tr), (partsT d t).length = countT t
 | d, .mk k hd bd ks cs e => by
  have := partsK_len (d + 1) ks
  simp only [partsT, List.length_cons, countT]
  omega
theorem partsK_len : ∀ (d : Nat) (ts : List Tr), (partsK d ts).length = countK ts
 | _, [] => by simp only [partsK, List.length_nil, countK]
 | d, t :: r => by
  have h1 := partsT_len d t
  have h2 := partsK_len d r
  simp only [partsK, List.length_append, countK]
  omega
end
theorem countK_len : ∀ ks : List Tr, ks.length ≤ countK ks
 | [] => Nat.le_refl _
 | t :: r => by
  have := countK_len r
  have e : countK (t :: r) = countT t + countK r := rfl
  cases t
  simp only [countT] at e
  simp only [List.length_cons]
  omega
inductive Rs (α : Type) where
 | no (e : Nat)
 | ok (v : α) (r : List UInt8)
def Rs.bind {α β : Type} : Rs α → (α → List UInt8 → Rs β) → Rs β
 | .no e, _ => .no e
 | .ok v r, f => f v r
def numF : Nat → Nat → List UInt8
 | 0, n => [UInt8.ofNat n]
 | f + 1, n => if n < 128 then [UInt8.ofNat n] else UInt8.ofNat (128 + n % 128) :: numF f (n / 128)
def numB (n : Nat) : List UInt8 := numF 9 n
def numL : Nat → Nat → Nat → List UInt8 → Rs Nat
 | 0, _, _, _ => .no 11
 | _ + 1, _, _, [] => .no 10
 | f + 1, p, a, d :: r =>
  if 128 ≤ d.toNat then numL f (p + 1) (a + (d.toNat % 128) * 128 ^ p) r
  else if 1099511627776 ≤ a + (d.toNat % 128) * 128 ^ p ∨ (d.toNat = 0 ∧ 0 < p) then .no 11
  else .ok (a + (d.toNat % 128) * 128 ^ p) r
def numP (s : List UInt8) : Rs Nat := numL 7 0 0 s
def takeP (n : Nat) (s : List UInt8) : Rs (List UInt8) := if s.length < n then .no 10 else .ok (s.take n) (s.drop n)
def rkidsP (F : Nat → List UInt8 → Rs Tr) : Nat → Nat → List UInt8 → Rs (List Tr × List Sp × Nat)
 | 0, a, s => .ok ([], [], a) s
 | n + 1, a, s => (numP s).bind fun x s => (numP s).bind fun y s => (F (a + x + y) s).bind fun k s => (rkidsP F n k.bd.2 s).bind fun q s =>
   .ok (k :: q.1, (a + x, a + x + y) :: q.2.1, q.2.2) s
def restP (F : Nat → List UInt8 → Rs Tr) (a k : Nat) (s : List UInt8) : Rs Tr :=
 (numP s).bind fun h s => (numP s).bind fun b s =>
  if k = 1 then (numP s).bind fun n s => if 1000 < n then .no 11 else (rkidsP F n (a + h) s).bind fun q s => (numP s).bind fun x s => (numP s).bind fun y s =>
   .ok (.mk 1 (a, a + h) (a + h, a + h + b) q.1 q.2.1 (q.2.2 + x, q.2.2 + x + y)) s
  else if k = 2 then (F (a + h) s).bind fun q s => .ok (.mk 2 (a, a + h) (a + h, a + h + b) [q] [] (0, 0)) s
  else .ok (leafT a (a + h) (a + h + b)) s
def treeP : Nat → Nat → List UInt8 → Rs Tr
 | 0, _, _ => .no 11
 | d + 1, a, s => (numP s).bind fun k s => if 2 < k then .no 11 else restP (treeP d) a k s
def treeR : Nat → Nat → List UInt8 → Rs Tr
 | 0, _, s => (numP s).bind fun _ _ => .no 11
 | d + 1, a, s => (numP s).bind fun k s => if 2 < k then .no 11 else restP (treeR d) a k s
mutual
def putT : Tr → List UInt8
 | .mk k hd bd ks cs e => numB k ++ (numB (hd.2 - hd.1) ++ (numB (bd.2 - bd.1) ++ (if k = 1 then numB ks.length ++ putM bd.1 e ks cs else if k = 2 then putH ks else [])))
def putM : Nat → Sp → List Tr → List Sp → List UInt8
 | a, e, [], _ => numB (e.1 - a) ++ numB (e.2 - e.1)
 | a, e, t :: r, cs => match cs with
  | [] => []
  | c :: cs' => numB (c.1 - a) ++ (numB (c.2 - c.1) ++ (putT t ++ putM t.bd.2 e r cs'))
def putH : List Tr → List UInt8
 | [] => []
 | t :: _ => putT t
end
theorem putT_mk (k : Nat) (hd bd : Sp) (ks : List Tr) (cs : List Sp) (e : Sp) : putT (.mk k hd bd ks cs e) = numB k ++ (numB (hd.2 - hd.1) ++ (numB (bd.2 - bd.1) ++ (if k = 1 then numB ks.length ++ putM bd.1 e ks cs else if k = 2 then putH ks else []))) := by simp only [putT]
theorem tilesT_mk (k : Nat) (hd bd : Sp) (ks : List Tr) (cs : List Sp) (e : Sp) : tilesT (.mk k hd bd ks cs e) = (0, hd) :: (if k = 1 then (2, (bd.1, preE cs e)) :: (tilesM ks cs ++ [(4, e), (5, (e.2, bd.2))]) else if k = 2 then tilesH ks else [(1, bd)]) := by simp only [tilesT]
theorem putT_eq (t : Tr) : putT t = numB t.kind ++ (numB (t.hd.2 - t.hd.1) ++ (numB (t.bd.2 - t.bd.1) ++ (if t.kind = 1 then numB t.kids.length ++ putM t.bd.1 t.e t.kids t.cuts else if t.kind = 2 then putH t.kids else []))) := by
 cases t
 simp only [putT, Tr.kind, Tr.hd, Tr.bd, Tr.kids, Tr.cuts, Tr.e]
 rfl
theorem putM_cons (a : Nat) (e : Sp) (t : Tr) (r : List Tr) (c : Sp) (cs : List Sp) : putM a e (t :: r) (c :: cs) = numB (c.1 - a) ++ (numB (c.2 - c.1) ++ (putT t ++ putM t.bd.2 e r cs)) := by simp only [putM]
theorem putM_nil (a : Nat) (e : Sp) (cs : List Sp) : putM a e [] cs = numB (e.1 - a) ++ numB (e.2 - e.1) := by simp only [putM]
theorem putH_one (t : Tr) : putH [t] = putT t := by simp only [putH]
theorem numF_succ : ∀ (f n : Nat), n < 128 ^ (f + 1) → numF (f + 1) n = numF f n
 | 0, n, h => by
  have h' : n < 128 := by simpa using h
  simp [numF, h']
 | f + 1, n, h => by
  have ih := numF_succ f (n / 128) (by rw [Nat.pow_succ] at h; omega)
  show (if n < 128 then _ else _) = (if n < 128 then _ else _)
  by_cases hn : n < 128
  ·rw [if_pos hn, if_pos hn]
  ·rw [if_neg hn, if_neg hn, ih]
theorem numB_low {n : Nat} (h : n < 128) : numB n = [UInt8.ofNat n] := by
 unfold numB numF
 rw [if_pos h]
theorem numB_high {n : Nat} (h : 128 ≤ n) (hb : n < 9223372036854775808) : numB n = UInt8.ofNat (128 + n % 128) :: numB (n / 128) := by
 unfold numB
 have e : numF 9 n = UInt8.ofNat (128 + n % 128) :: numF 8 (n / 128) := by
  show (if n < 128 then _ else _) = _
  rw [if_neg (by omega)]
 rw [e, ← numF_succ 8 (n / 128) (by omega)]
theorem ofNat_toNat {n : Nat} (h : n < 256) : (UInt8.ofNat n).toNat = n := by rw [UInt8.toNat_ofNat']; omega
theorem numF_read : ∀ (f n p a : Nat) (X : List UInt8), n < 128 ^ f → 0 < f → n * 128 ^ p + a < 1099511627776 → (0 < p → 0 < n) → numL f p a (numF (f - 1) n ++ X) = .ok (a + n * 128 ^ p) X
 | 0, _, _, _, _, _, h0, _, _ => absurd h0 (by omega)
 | f + 1, n, p, a, X, hn, _, hb, hp => by
  by_cases h : n < 128
  ·have e : numF (f + 1 - 1) n = [UInt8.ofNat n] := by
    cases f with
    | zero => rfl
    | succ f => show (if n < 128 then _ else _) = _; rw [if_pos h]
   rw [e]
   show (if 128 ≤ (UInt8.ofNat n).toNat then _ else _) = _
   rw [ofNat_toNat (by omega), if_neg (by omega), Nat.mod_eq_of_lt h, if_neg]
   ·rfl
   intro hh
   rcases hh with hh | ⟨h1, h2⟩
   ·omega
   ·have := hp h2; omega
  ·obtain ⟨f', rfl⟩ : ∃ f', f = f' + 1 := ⟨f - 1, by
    have : f ≠ 0 := by rintro rfl; simp at hn; omega
    omega⟩
   have e : numF (f' + 1 + 1 - 1) n = UInt8.ofNat (128 + n % 128) :: numF f' (n / 128) := by
    show (if n < 128 then _ else _) = _
    rw [if_neg h]
   rw [e]
   show (if 128 ≤ (UInt8.ofNat (128 + n % 128)).toNat then _ else _) = _
   rw [ofNat_toNat (by omega), if_pos (by omega)]
   have hs : (128 + n % 128) % 128 = n % 128 := by omega
   have hm : n / 128 * 128 ^ (p + 1) + (n % 128) * 128 ^ p = n * 128 ^ p := by
    rw [Nat.pow_succ, Nat.mul_comm (128 ^ p) 128, ← Nat.mul_assoc, ← Nat.add_mul]
    congr 1
    omega
   have ih := numF_read (f' + 1) (n / 128) (p + 1) (a + (n % 128) * 128 ^ p) X (by rw [Nat.pow_succ 128 (f' + 1)] at hn; omega) (by omega) (by omega) (by omega)
   rw [hs]
   have e2 : a + n % 128 * 128 ^ p + n / 128 * 128 ^ (p + 1) = a + n * 128 ^ p := by omega
   rw [← e2]
   exact ih
theorem numB_short {n : Nat} (h : n < 1099511627776) : numB n = numF 6 n := by
 unfold numB
 rw [numF_succ 8 n (by omega), numF_succ 7 n (by omega), numF_succ 6 n (by omega)]
theorem numP_put {n : Nat} (h : n < 1099511627776) (X : List UInt8) : numP (numB n ++ X) = .ok n X := by
 rw [numB_short h]
 have := numF_read 7 n 0 0 X (by omega) (by decide) (by simpa using h) (by omega)
 simpa [numP] using this
theorem pow_mono (p : Nat) : 0 < 128 ^ p := Nat.pow_pos (by decide)
theorem numL_inv : ∀ (f p a : Nat) (s : List UInt8) (n : Nat) (X : List UInt8), numL f p a s = .ok n X → ∃ m, n = a + m * 128 ^ p ∧ m < 128 ^ f ∧ s = numF (f - 1) m ++ X ∧ (0 < p → 0 < m) ∧ 0 < f ∧ n < 1099511627776
 | 0, _, _, _, _, _, h => by cases h
 | _ + 1, _, _, [], _, _, h => by cases h
 | f + 1, p, a, d :: r, n, X, h => by
  have hd := d.toNat_lt
  unfold numL at h
  by_cases h1 : 128 ≤ d.toNat
  ·rw [if_pos h1] at h
   obtain ⟨m, e1, e2, e3, e4, e5, e6⟩ := numL_inv f (p + 1) _ r n X h
   obtain ⟨f', rfl⟩ : ∃ f', f = f' + 1 := ⟨f - 1, by omega⟩
   have hm := e4 (by omega)
   refine ⟨d.toNat % 128 + m * 128, ?_, ?_, ?_, fun _ => by omega, by omega, e6⟩
   ·rw [e1, Nat.pow_succ, Nat.add_mul, Nat.mul_comm (128 ^ p) 128, Nat.mul_assoc]; omega
   ·rw [Nat.pow_succ 128 (f' + 1)]; omega
   ·have e : numF (f' + 1 + 1 - 1) (d.toNat % 128 + m * 128) = UInt8.ofNat (128 + (d.toNat % 128 + m * 128) % 128) :: numF f' ((d.toNat % 128 + m * 128) / 128) := by
     show (if _ < 128 then _ else _) = _
     rw [if_neg (by omega)]
    rw [e, show (d.toNat % 128 + m * 128) / 128 = m by omega, show 128 + (d.toNat % 128 + m * 128) % 128 = d.toNat by omega]
    have : UInt8.ofNat d.toNat = d := by simp
    rw [this, e3]
    rfl
  ·rw [if_neg h1] at h
   split at h
   ·cases h
   ·next h2 =>
    cases h
    simp only [not_or, not_and] at h2
    refine ⟨d.toNat, by rw [Nat.mod_eq_of_lt (by omega)], ?_, ?_, fun hp => ?_, by omega, by omega⟩
    ·have := pow_mono f
     rw [Nat.pow_succ]
     calc d.toNat < 1 * 128 := by omega
      _ ≤ 128 ^ f * 128 := Nat.mul_le_mul_right _ this
    ·have e : numF (f + 1 - 1) d.toNat = [UInt8.ofNat d.toNat] := by
      cases f with
      | zero => rfl
      | succ f => show (if _ < 128 then _ else _) = _; rw [if_pos (by omega)]
     rw [e]
     have : UInt8.ofNat d.toNat = d := by simp
     rw [this]
     rfl
    ·have := h2.2
     omega
theorem numP_inv {s : List UInt8} {n : Nat} {X : List UInt8} (h : numP s = .ok n X) : s = numB n ++ X ∧ n < 1099511627776 := by
 obtain ⟨m, e1, _, e3, _, _, e6⟩ := numL_inv 7 0 0 s n X h
 simp at e1
 subst e1
 rw [numB_short e6]
 exact ⟨e3, e6⟩
def Local {α : Type} (F : List UInt8 → Rs α) : Prop := ∀ s v X, F s = .ok v X → ∃ c, s = c ++ X ∧ (∀ Y, F (c ++ Y) = .ok v Y) ∧ ∀ p q, c = p ++ q → q ≠ [] → F p = .no 10
theorem Local.ok {α : Type} (v : α) : Local (fun s => Rs.ok v s) := fun s w X h => by
 cases h
 refine ⟨[], rfl, fun _ => rfl, fun p q h hq => ?_⟩
 have := List.append_eq_nil_iff.1 h.symm
 exact absurd this.2 hq
theorem Local.no {α : Type} (e : Nat) : Local (fun _ => (Rs.no e : Rs α)) := fun s w X h => by cases h
theorem Local.bind {α β : Type} {F : List UInt8 → Rs α} {G : α → List UInt8 → Rs β} (hF : Local F) (hG : ∀ v, Local (G v)) : Local (fun s => (F s).bind G) := by
 intro s w X h
 cases hf : F s with
 | no e => simp only [hf, Rs.bind] at h; cases h
 | ok v Y =>
  simp only [hf, Rs.bind] at h
  obtain ⟨c1, e1, e2, e3⟩ := hF s v Y hf
  obtain ⟨c2, d1, d2, d3⟩ := hG v Y w X h
  refine ⟨c1 ++ c2, by rw [e1, d1, List.append_assoc], fun Z => ?_, fun p q hpq hq => ?_⟩
  ·show (F (c1 ++ c2 ++ Z)).bind G = _
   rw [List.append_assoc, e2]
   exact d2 Z
  ·show (F p).bind G = _
   rcases List.append_eq_append_iff.1 hpq with ⟨a, h1, h2⟩ | ⟨a, h1, h2⟩
   ·rw [h1, e2]
    exact d3 a q h2 hq
   ·by_cases ha : a = []
    ·subst ha
     simp at h1 h2
     subst h2
     rw [← h1]
     have := e2 []
     rw [List.append_nil] at this
     rw [this]
     exact d3 [] q rfl hq
    ·rw [e3 p a h1 ha]
     rfl
theorem Local.ite {α : Type} {F G : List UInt8 → Rs α} (c : Prop) [Decidable c] (hF : Local F) (hG : Local G) : Local (fun s => if c then F s else G s) := by
 by_cases h : c
 ·simpa [h] using hF
 ·simpa [h] using hG
theorem numL_local : ∀ (f p a : Nat), Local (numL f p a)
 | 0, _, _ => fun s v X h => by cases h
 | f + 1, p, a => fun s v X h => by
  cases s with
  | nil => cases h
  | cons d r =>
   unfold numL at h
   by_cases h1 : 128 ≤ d.toNat
   ·rw [if_pos h1] at h
    obtain ⟨c, e1, e2, e3⟩ := numL_local f (p + 1) _ r v X h
    refine ⟨d :: c, by rw [e1]; rfl, fun Y => ?_, fun x q hx hq => ?_⟩
    ·show (if 128 ≤ d.toNat then _ else _) = _
     rw [if_pos h1]
     exact e2 Y
    ·cases x with
     | nil => rfl
     | cons y x =>
      have h2 := List.cons.inj hx
      rw [← h2.1]
      show (if 128 ≤ d.toNat then _ else _) = _
      rw [if_pos h1]
      exact e3 x q h2.2 hq
   ·rw [if_neg h1] at h
    split at h
    ·cases h
    ·next h2 =>
     cases h
     refine ⟨[d], rfl, fun Y => ?_, fun x q hx hq => ?_⟩
     ·show (if 128 ≤ d.toNat then _ else if _ then _ else _) = _
      rw [if_neg h1, if_neg h2]
      rfl
     ·cases x with
      | nil => rfl
      | cons y x =>
       have h3 := List.cons.inj hx
       have := List.append_eq_nil_iff.1 h3.2.symm
       exact absurd this.2 hq
theorem numP_local : Local numP := numL_local 7 0 0
theorem takeP_local (n : Nat) : Local (takeP n) := fun s v X h => by
 unfold takeP at h
 split at h
 ·cases h
 ·next hn =>
  cases h
  refine ⟨s.take n, (List.take_append_drop n s).symm, fun Y => ?_, fun p q hpq hq => ?_⟩
  ·have hl : (s.take n).length = n := by simp; omega
   unfold takeP
   rw [if_neg (by rw [List.length_append, hl]; omega), List.take_append_of_le_length (by omega), List.drop_append_of_le_length (by omega), List.take_of_length_le (by omega), List.drop_of_length_le (by omega)]
   rfl
  ·have h1 := congrArg List.length hpq
   have h2 : 0 < q.length := List.length_pos_iff.2 hq
   simp only [List.length_take, List.length_append] at h1
   unfold takeP
   rw [if_pos (by omega)]
theorem rkidsP_local {F : Nat → List UInt8 → Rs Tr} (hF : ∀ a, Local (F a)) : ∀ (n a : Nat), Local (rkidsP F n a)
 | 0, _ => Local.ok _
 | n + 1, _ => numP_local.bind fun _ => numP_local.bind fun _ => (hF _).bind fun _ => (rkidsP_local hF n _).bind fun _ => Local.ok _
theorem restP_local {F : Nat → List UInt8 → Rs Tr} (hF : ∀ a, Local (F a)) (a k : Nat) : Local (restP F a k) :=
 numP_local.bind fun _ => numP_local.bind fun _ => Local.ite _ (numP_local.bind fun n => Local.ite _ (Local.no _) ((rkidsP_local hF n _).bind fun _ => numP_local.bind fun _ => numP_local.bind fun _ => Local.ok _))
  (Local.ite _ ((hF _).bind fun _ => Local.ok _) (Local.ok _))
theorem treeP_local : ∀ (d a : Nat), Local (treeP d a)
 | 0, _ => Local.no _
 | d + 1, a => numP_local.bind fun k => Local.ite _ (Local.no _) (restP_local (fun a => treeP_local d a) a k)
theorem treeR_local : ∀ (d a : Nat), Local (treeR d a)
 | 0, _ => numP_local.bind fun _ => Local.no _
 | d + 1, a => numP_local.bind fun k => Local.ite _ (Local.no _) (restP_local (fun a => treeR_local d a) a k)
theorem bind_ok {α β : Type} {r : Rs α} {f : α → List UInt8 → Rs β} {w : β} {X : List UInt8} (h : r.bind f = .ok w X) : ∃ v Y, r = .ok v Y ∧ f v Y = .ok w X := by
 cases r with
 | no e => cases h
 | ok v Y => exact ⟨v, Y, rfl, h⟩
theorem rkidsP_same {F G : Nat → List UInt8 → Rs Tr} (hFG : ∀ a s t X, F a s = .ok t X → G a s = .ok t X) : ∀ (n a : Nat) (s : List UInt8) (q : List Tr × List Sp × Nat) (X : List UInt8), rkidsP F n a s = .ok q X → rkidsP G n a s = .ok q X
 | 0, a, s, q, X, h => h
 | n + 1, a, s, q, X, h => by
  obtain ⟨x, s1, h1, h⟩ := bind_ok h
  obtain ⟨y, s2, h2, h⟩ := bind_ok h
  obtain ⟨k, s3, h3, h⟩ := bind_ok h
  obtain ⟨p, s4, h4, h⟩ := bind_ok h
  show (numP s).bind _ = _
  rw [h1]
  show (numP s1).bind _ = _
  rw [h2]
  show (G _ s2).bind _ = _
  rw [hFG _ _ _ _ h3]
  show (rkidsP G n _ s3).bind _ = _
  rw [rkidsP_same hFG n _ _ _ _ h4]
  exact h
theorem restP_same {F G : Nat → List UInt8 → Rs Tr} (hFG : ∀ a s t X, F a s = .ok t X → G a s = .ok t X) (a k : Nat) (s : List UInt8) (t : Tr) (X : List UInt8) (h : restP F a k s = .ok t X) : restP G a k s = .ok t X := by
 obtain ⟨x, s1, h1, h⟩ := bind_ok h
 obtain ⟨y, s2, h2, h⟩ := bind_ok h
 show (numP s).bind _ = _
 rw [h1]
 show (numP s1).bind _ = _
 rw [h2]
 show (if k = 1 then _ else _) = _
 by_cases hk : k = 1
 ·rw [if_pos hk] at h ⊢
  obtain ⟨n, s3, h3, h⟩ := bind_ok h
  rw [h3]
  show (if 1000 < n then _ else _) = _
  by_cases hn : 1000 < n
  ·rw [if_pos hn] at h; cases h
  ·rw [if_neg hn] at h ⊢
   obtain ⟨q, s4, h4, h⟩ := bind_ok h
   rw [rkidsP_same hFG n _ _ _ _ h4]
   exact h
 ·rw [if_neg hk] at h ⊢
  by_cases h2 : k = 2
  ·rw [if_pos h2] at h ⊢
   obtain ⟨q, s3, h3, h⟩ := bind_ok h
   rw [hFG _ _ _ _ h3]
   exact h
  ·rw [if_neg h2] at h ⊢
   exact h
theorem treeR_same : ∀ (d a : Nat) (s : List UInt8) (t : Tr) (X : List UInt8), treeP d a s = .ok t X → treeR d a s = .ok t X
 | 0, _, _, _, _, h => by cases h
 | d + 1, a, s, t, X, h => by
  obtain ⟨k, s1, h1, h⟩ := bind_ok h
  show (numP s).bind _ = _
  rw [h1]
  show (if 2 < k then _ else _) = _
  by_cases hk : 2 < k
  ·rw [if_pos hk] at h; cases h
  ·rw [if_neg hk] at h ⊢
   exact restP_same (treeR_same d) a k s1 t X h
theorem chainT_split : ∀ {x y : List Tl} {a c : Nat}, chainT a c (x ++ y) → ∃ b, chainT a b x ∧ chainT b c y
 | [], _, a, _, h => ⟨a, rfl, h⟩
 | _ :: _, _, _, _, h => by
  obtain ⟨b, h1, h2⟩ := chainT_split h.2.2
  exact ⟨b, ⟨h.1, h.2.1, h1⟩, h2⟩
theorem chain_end : ∀ (t : Tr) (a b : Nat), goodT t → chainT a b (tilesT t) → a = t.hd.1 ∧ b = t.bd.2
 | .mk k hd bd ks cs e, a, b, hg, h => by
  obtain ⟨hf, hk⟩ := goodT_open hg
  rw [tilesT_mk] at h
  refine ⟨h.1.symm, ?_⟩
  have h2 := h.2.2
  show b = bd.2
  rcases hf.2.2 with ⟨k0, _⟩ | ⟨k0, _⟩ | ⟨k0, _, _, q, hq, _, hq2⟩
  ·have k0' : k = 0 := k0
   rw [if_neg (by omega), if_neg (by omega)] at h2
   exact h2.2.2.symm
  ·have k0' : k = 1 := k0
   rw [if_pos k0'] at h2
   obtain ⟨m, _, h4⟩ := chainT_split h2.2.2
   exact h4.2.2.2.2.symm
  ·have k0' : k = 2 := k0
   have hq' : ks = [q] := hq
   rw [if_neg (by omega), if_pos k0', hq', tilesH_one] at h2
   have hgq : goodT q := by
    have hk' : goodK ks := hk
    rw [hq'] at hk'
    unfold goodK at hk'
    exact hk'.1
   subst hq'
   have := (chain_end q _ _ hgq h2).2
   rw [this]
   exact hq2
termination_by t => SizeOf.sizeOf t
theorem chainT_le' : ∀ {l : List Tl} {a b : Nat}, chainT a b l → a ≤ b
 | [], _, _, h => Nat.le_of_eq h
 | _ :: _, _, _, h => Nat.le_trans h.2.1 (chainT_le' h.2.2)
set_option maxRecDepth 100000 in
mutual
theorem treeP_put : ∀ (t : Tr) (d b : Nat) (X : List UInt8), goodT t → chainT t.hd.1 b (tilesT t) → b < 1099511627776 → deepT t ≤ d → countT t ≤ 1000 → treeP (d + 1) t.hd.1 (putT t ++ X) = .ok t X
 | .mk k hd bd ks cs e, d, b, X, hg, hc, hb, hd', hn => by
  have hend := (chain_end _ _ _ hg hc).2
  obtain ⟨hf, hk⟩ := goodT_open hg
  obtain ⟨f1, f2, f3⟩ := hf
  rw [tilesT_mk] at hc
  have hc2 := hc.2
  replace f1 : hd.2 = bd.1 := f1
  replace f2 : bd.1 ≤ bd.2 := f2
  replace f3 : ((k = 0 ∧ ks = [] ∧ cs = [] ∧ e = (0, 0)) ∨ (k = 1 ∧ ks ≠ [] ∧ ks.length = cs.length) ∨ (k = 2 ∧ cs = [] ∧ e = (0, 0) ∧ ∃ q, ks = [q] ∧ q.hd.1 = bd.1 ∧ q.bd.2 = bd.2)) := f3
  replace hk : goodK ks := hk
  replace hend : b = bd.2 := hend
  obtain ⟨c1, c2⟩ := hc2
  replace c1 : hd.1 ≤ hd.2 := c1
  show treeP (d + 1) hd.1 _ = _
  have hle := chainT_le' c2
  obtain ⟨h1, h2⟩ := hd
  obtain ⟨b1, b2⟩ := bd
  simp only at f1 f2 f3 c1 c2 hle hend ⊢
  subst f1
  subst hend
  rw [putT_mk]
  simp only [List.append_assoc]
  have hkl : k < 3 := by rcases f3 with h | h | h <;> omega
  show (numP _).bind _ = _
  rw [numP_put (by omega)]
  show (if 2 < k then _ else _) = _
  rw [if_neg (by omega)]
  show (numP _).bind _ = _
  rw [numP_put (by omega)]
  show (numP _).bind _ = _
  rw [numP_put (by omega)]
  show (if k = 1 then _ else _) = _
  rcases f3 with ⟨k0, hks, hcs, he⟩ | ⟨k0, hks, hlen⟩ | ⟨k0, hcs, he, q, hks, hq1, hq2⟩
  ·subst k0 hks hcs he
   rw [if_neg (by decide), if_neg (by decide), if_neg (by decide), if_neg (by decide), List.nil_append, show h1 + (h2 - h1) = h2 by omega, show h2 + (b - h2) = b by omega]
   rfl
  ·subst k0
   rw [if_pos rfl] at c2 ⊢
   rw [if_pos rfl]
   have hkc : ks.length ≤ 1000 := by
    have := countK_len ks
    have e1 : countT (.mk 1 (h1, h2) (h2, b) ks cs e) = 1 + countK ks := rfl
    omega
   have hdd : deepT (.mk 1 (h1, h2) (h2, b) ks cs e) = deepK ks := rfl
   have hcc : countT (.mk 1 (h1, h2) (h2, b) ks cs e) = 1 + countK ks := rfl
   show (numP _).bind _ = _
   rw [List.append_assoc, numP_put (by omega)]
   show (if 1000 < ks.length then _ else _) = _
   rw [if_neg (by omega), show h1 + (h2 - h1) = h2 by omega, show h2 + (b - h2) = b by omega]
   obtain ⟨d', rfl⟩ : ∃ d', d = d' + 1 := ⟨d - 1, by
    cases ks with
    | nil => exact absurd rfl hks
    | cons t r =>
     have : deepK (t :: r) = max (1 + deepT t) (deepK r) := rfl
     omega⟩
   obtain ⟨m, c3, c4⟩ := chainT_split c2.2.2
   have c5 : m = e.1 := c4.1.symm
   subst c5
   have g1 : e.1 ≤ e.2 := c4.2.1
   have g2 : e.2 ≤ b := c4.2.2.2.1
   have hpre : h2 ≤ preE cs e := c2.2.1
   obtain ⟨z, hz1, hz2, hz3⟩ := rkidsP_put ks cs d' h2 (preE cs e) e.1 e X hk hlen hpre c3 (by omega) (by omega) (by omega) rfl rfl g1 (by omega)
   rw [hz1]
   show (numP _).bind _ = _
   rw [List.append_assoc, numP_put (by omega)]
   show (numP _).bind _ = _
   rw [numP_put (by omega)]
   show Rs.ok (Tr.mk 1 (h1, h2) (h2, b) ks cs (z + (e.1 - z), z + (e.1 - z) + (e.2 - e.1))) X = _
   rw [show z + (e.1 - z) = e.1 by omega, show e.1 + (e.2 - e.1) = e.2 by omega]
  ·subst k0 hks hcs he
   rw [if_neg (by decide), if_pos rfl] at c2
   rw [if_neg (by decide), if_pos rfl, if_neg (by decide), if_pos rfl, putH_one, show h1 + (h2 - h1) = h2 by omega, show h2 + (b - h2) = b by omega]
   rw [tilesH_one] at c2
   have hgq : goodT q := by unfold goodK at hk; exact hk.1
   have hdd : deepT (.mk 2 (h1, h2) (h2, b) [q] [] (0, 0)) = max (1 + deepT q) 0 := rfl
   have hcc : countT (.mk 2 (h1, h2) (h2, b) [q] [] (0, 0)) = 1 + (countT q + 0) := rfl
   obtain ⟨d', rfl⟩ : ∃ d', d = d' + 1 := ⟨d - 1, by omega⟩
   have hh := (chain_end q _ _ hgq c2).1
   rw [hh] at c2 ⊢
   have ih := treeP_put q d' b X hgq c2 hb (by omega) (by omega)
   show (treeP (d' + 1) q.hd.1 (putT q ++ X)).bind _ = _
   rw [ih]
   rfl
theorem rkidsP_put : ∀ (ks : List Tr) (cs : List Sp) (d a f b : Nat) (e : Sp) (X : List UInt8), goodK ks → ks.length = cs.length → a ≤ f → chainT f b (tilesM ks cs) → b < 1099511627776 → deepK ks ≤ d + 1 → countK ks ≤ 1000 → f = preE cs e → b = e.1 → e.1 ≤ e.2 → e.2 < 1099511627776 →
  ∃ z, rkidsP (treeP (d + 1)) ks.length a (putM a e ks cs ++ X) = .ok (ks, cs, z) ((numB (e.1 - z) ++ numB (e.2 - e.1)) ++ X) ∧ z ≤ e.1 ∧ a ≤ z
 | [], cs, d, a, f, b, e, X, hg, hl, haf, hc, hb, hd, hn, hf, hbe, he, he2 => by
  obtain rfl : cs = [] := List.eq_nil_of_length_eq_zero hl.symm
  refine ⟨a, by rw [putM_nil]; rfl, ?_, Nat.le_refl _⟩
  have : f = e.1 := hf
  omega
 | t :: r, [], d, a, f, b, e, X, hg, hl, haf, hc, hb, hd, hn, hf, hbe, he, he2 => by cases hl
 | t :: r, c :: cs, d, a, f, b, e, X, hg, hl, haf, hc, hb, hd, hn, hf, hbe, he, he2 => by
  rw [tilesM_cons] at hc
  obtain ⟨q1, q2, q3⟩ := hc
  have hf' : f = c.1 := hf
  simp only at q1 q2 q3
  obtain ⟨m, q4, q5⟩ := chainT_split q3
  unfold goodK at hg
  have hh := chain_end t _ _ hg.1 q4
  have hle := chainT_le' q5
  have hle2 := chainT_le' q4
  have hdd : deepK (t :: r) = max (1 + deepT t) (deepK r) := rfl
  have hcc : countK (t :: r) = countT t + countK r := rfl
  rw [putM_cons]
  simp only [List.append_assoc, List.length_cons]
  have ih := treeP_put t d m (putM t.bd.2 e r cs ++ X) hg.1 (by rw [← hh.1]; exact q4) (by omega) (by omega) (by omega)
  have hcl : r.length = cs.length := by simpa using hl
  have hpre : m = preE cs e ∨ ¬ (m = preE cs e) := Classical.em _
  obtain ⟨g, hg1, hg2⟩ : ∃ g, chainT g b (tilesM r cs) ∧ (g = preE cs e ∧ m ≤ g) := by
   cases r with
   | nil =>
    obtain rfl : cs = [] := List.eq_nil_of_length_eq_zero hcl.symm
    rw [tilesM_nil] at q5 ⊢
    have q6 : m = b := q5
    exact ⟨b, rfl, hbe, by omega⟩
   | cons t' r' =>
    cases cs with
    | nil => cases hcl
    | cons c' cs' =>
     have q6 := q5
     rw [tilesM_cons] at q6
     exact ⟨m, q5, q6.1.symm, Nat.le_refl _⟩
  obtain ⟨z, z1, z2, z3⟩ := rkidsP_put r cs d t.bd.2 g b e X hg.2 hcl (by rw [← hh.2]; exact hg2.2) hg1 hb (by omega) (by omega) hg2.1 hbe he he2
  refine ⟨z, ?_, z2, by rw [← hh.2] at z3; omega⟩
  show (numP _).bind _ = _
  rw [numP_put (by omega)]
  show (numP _).bind _ = _
  rw [numP_put (by omega)]
  show (treeP (d + 1) (a + (c.1 - a) + (c.2 - c.1)) _).bind _ = _
  rw [show a + (c.1 - a) + (c.2 - c.1) = c.2 by omega, hh.1, ih]
  show (rkidsP (treeP (d + 1)) r.length t.bd.2 _).bind _ = _
  rw [z1]
  show Rs.ok (t :: r, (a + (c.1 - a), t.hd.1) :: cs, z) _ = _
  rw [show a + (c.1 - a) = c.1 by omega, ← hh.1, List.append_assoc]
end
end Go.Proofs.YtedminjnnhlknaaGreatDoor
