/- Spans of kids, and how many parts there are, in plain words. No program. -/
import Derived.Test.YteallnjbpikhhaaGreatDoorGbTrN
import Derived.Test.YteallnjbpikhhaaGreatDoorGbTrB
namespace Go.Proofs.YteallnjbpikhhaaGreatDoor
open Go Go.RowKit

/-- Delimiters that stand one behind the other, from a on, up to b. -/
def chainC : Nat → Nat → List Sp → Sp → Prop
  | a, b, [], e => a ≤ e.1 ∧ e.1 ≤ e.2 ∧ e.2 ≤ b
  | a, b, c :: r, e => a ≤ c.1 ∧ c.1 ≤ c.2 ∧ chainC c.2 b r e
theorem chainC_mono : ∀ {cs : List Sp} {a a' b : Nat} {e : Sp}, a' ≤ a → chainC a b cs e → chainC a' b cs e
  | [], _, _, _, _, h, hc => ⟨Nat.le_trans h hc.1, hc.2⟩
  | _ :: _, _, _, _, _, h, hc => ⟨Nat.le_trans h hc.1, hc.2⟩
theorem cutsS_chain (l m0 : List UInt8) (bt : Nat) : ∀ (ls : List Ln) (fr a : Nat), fr ≤ a → chainL a bt ls → chainC fr bt (cutsS l m0 bt fr ls).1 (cutsS l m0 bt fr ls).2
  | [], fr, a, h, hc => by
    have : a ≤ bt := hc
    exact ⟨Nat.le_trans h this, Nat.le_refl _, Nat.le_refl _⟩
  | x :: r, fr, a, h, hc => by
    obtain ⟨h1, h2, h3, h4⟩ := hc
    have hle := chainL_le h4
    rcases lkS_le m0 (textOf l x) with hk | hk | hk
    · rw [cutsS_other (by rw [hk]; decide) (by rw [hk]; decide)]
      exact chainC_mono (by omega) (cutsS_chain l m0 bt r x.t x.n h3 h4)
    · rw [cutsS_open hk]
      exact ⟨Nat.le_refl _, show fr ≤ x.n by omega, cutsS_chain l m0 bt r x.n x.n (Nat.le_refl _) h4⟩
    · rw [cutsS_close hk]
      exact ⟨Nat.le_refl _, show fr ≤ x.n by omega, show x.n ≤ bt from hle⟩
theorem chainC_le : ∀ {cs : List Sp} {a b : Nat} {e : Sp}, chainC a b cs e → a ≤ e.1 ∧ e.1 ≤ b
  | [], a, b, e, h => ⟨h.1, Nat.le_trans h.2.1 h.2.2⟩
  | c :: r, a, b, e, h => by
    obtain ⟨h1, h2, h3⟩ := h
    have := chainC_le h3
    omega
theorem kidsS_in : ∀ {cs : List Sp} {a b : Nat} {e : Sp}, chainC a b cs e → ∀ s ∈ kidsS cs e, a ≤ s.1 ∧ s.1 ≤ s.2 ∧ s.2 ≤ b
  | [], _, _, _, _ => fun s hs => by cases hs
  | [c], a, b, e, h => fun s hs => by
    obtain ⟨h1, h2, h3, h4, h5⟩ := h
    rcases List.mem_cons.1 hs with rfl | hs
    · exact ⟨by show a ≤ c.2; omega, h3, by show e.1 ≤ b; omega⟩
    · cases hs
  | c :: d :: r, a, b, e, h => fun s hs => by
    obtain ⟨h1, h2, h3⟩ := h
    have hd := h3
    obtain ⟨h4, h5, h6⟩ := hd
    have := chainC_le h6
    rcases List.mem_cons.1 hs with rfl | hs
    · exact ⟨by show a ≤ c.2; omega, h4, by show d.1 ≤ b; omega⟩
    · have := kidsS_in h3 s hs
      omega
theorem pdS_in (l : List UInt8) (fs : List Fld) {h t : Nat} (hht : h ≤ t) (htl : t ≤ l.length) (k : Val) : ∀ s ∈ (pdS l fs h t k).kids, s.1 ≤ s.2 ∧ s.2 ≤ t := by
  unfold pdS
  split
  · split
    · next b hb =>
      intro s hs
      have := kidsS_in (cutsS_chain l (45 :: 45 :: b) t (linesS l h t) h h (Nat.le_refl _) (chainL_lines l _ h t (Nat.le_refl _) hht htl)) s hs
      omega
    · exact fun s hs => by cases hs
  · split
    · intro s hs
      rcases List.mem_cons.1 hs with rfl | hs
      · exact ⟨hht, Nat.le_refl _⟩
      · cases hs
    · exact fun s hs => by cases hs
theorem cutsS_len (l m0 : List UInt8) (bt : Nat) : ∀ (ls : List Ln) (fr : Nat), (cutsS l m0 bt fr ls).1.length ≤ ls.length
  | [], _ => Nat.le_refl _
  | x :: r, fr => by
    rcases lkS_le m0 (textOf l x) with hk | hk | hk
    · rw [cutsS_other (by rw [hk]; decide) (by rw [hk]; decide)]
      exact Nat.le_succ_of_le (cutsS_len l m0 bt r x.t)
    · rw [cutsS_open hk]
      simp only [List.length_cons]
      exact Nat.succ_le_succ (cutsS_len l m0 bt r x.n)
    · rw [cutsS_close hk]
      exact Nat.zero_le _
/-- What a part's kind tells of its kids. -/
theorem pdS_kids (l : List UInt8) (fs : List Fld) (h t : Nat) (k : Val) : (pdS l fs h t k).kids = (if (pdS l fs h t k).kind = 2 then [(h, t)] else kidsS (pdS l fs h t k).cuts (pdS l fs h t k).e) := by
  unfold pdS
  split
  · split
    · rfl
    · rfl
  · split
    · rfl
    · rfl
theorem pdS_cuts (l : List UInt8) (fs : List Fld) {h t : Nat} (htl : t ≤ l.length) (k : Val) : (pdS l fs h t k).cuts.length ≤ l.length := by
  have h1 := linesS_len l h t
  unfold pdS
  split
  · split
    · have := cutsS_len l (45 :: 45 :: (by assumption)) t (linesS l h t) h
      exact Nat.le_trans this (by omega)
    · exact Nat.zero_le _
  · split
    · exact Nat.zero_le _
    · exact Nat.zero_le _
theorem kidsRun_le {F : Sp → Nat → Tr × Nat} (hF : ∀ s c, c ≤ 1000 → (F s c).2 ≤ 1000) : ∀ (ss : List Sp) (c : Nat), c ≤ 1000 → (kidsRun F ss c).2 ≤ 1000
  | [], _, h => h
  | s :: r, c, h => kidsRun_le hF r _ (hF s c h)
theorem entS_le (l : List UInt8) : ∀ (d : Nat) (s : Sp) (g : Bool) (c : Nat), c ≤ 1000 → (entS l d s g c).2 ≤ 1000
  | 0, _, _, _, h => h
  | d + 1, s, g, c, h => by
    unfold entS
    simp only
    split
    · exact h
    · next hn =>
      simp only [not_or] at hn
      exact kidsRun_le (fun s' c' h' => entS_le l d s' _ c' h') _ _ (by omega)
theorem entS_leaf {l : List UInt8} {d : Nat} {s : Sp} {g : Bool} {c : Nat} (h : (pdS l (fsOf l s.1 s.2) (hdOf l s.1 s.2) s.2 (typeS l (fsOf l s.1 s.2) g)).kids = [] ∨ 1000 < c + (pdS l (fsOf l s.1 s.2) (hdOf l s.1 s.2) s.2 (typeS l (fsOf l s.1 s.2) g)).kids.length) :
    entS l (d + 1) s g c = (leafT s.1 (hdOf l s.1 s.2) s.2, c) := by
  unfold entS
  simp only
  rw [if_pos h]
theorem entS_kids {l : List UInt8} {d : Nat} {s : Sp} {g : Bool} {c : Nat} {k : Val} {p : Pd} (hk : k = typeS l (fsOf l s.1 s.2) g) (hp : p = pdS l (fsOf l s.1 s.2) (hdOf l s.1 s.2) s.2 k) (h : ¬ (p.kids = [] ∨ 1000 < c + p.kids.length)) :
    entS l (d + 1) s g c = (.mk p.kind (s.1, hdOf l s.1 s.2) (hdOf l s.1 s.2, s.2) (kidsRun (fun s' c' => entS l d s' (digS k) c') p.kids (c + p.kids.length)).1 p.cuts p.e,
      (kidsRun (fun s' c' => entS l d s' (digS k) c') p.kids (c + p.kids.length)).2) := by
  subst hk hp
  rw [entS, if_neg h]
end Go.Proofs.YteallnjbpikhhaaGreatDoor

/- What a message is laid of, in plain words. No program. -/
namespace Go.Proofs.YteallnjbpikhhaaGreatDoor
open Go Go.RowKit

abbrev Tl := Nat × Sp
/-- Where what stands ahead of the first delimiter ends. -/
def preE : List Sp → Sp → Nat | [], e => e.1 | c :: _, _ => c.1
mutual
def tilesT : Tr → List Tl
  | .mk k hd bd ks cs e => (0, hd) :: (if k = 1 then (2, (bd.1, preE cs e)) :: (tilesM ks cs ++ [(4, e), (5, (e.2, bd.2))]) else if k = 2 then tilesH ks else [(1, bd)])
def tilesM : List Tr → List Sp → List Tl
  | [], _ => []
  | t :: r, cs => match cs with
    | [] => []
    | c :: cs' => (3, c) :: (tilesT t ++ tilesM r cs')
def tilesH : List Tr → List Tl
  | [] => []
  | t :: _ => tilesT t
end
theorem tilesT_eq (t : Tr) : tilesT t = (0, t.hd) :: (if t.kind = 1 then (2, (t.bd.1, preE t.cuts t.e)) :: (tilesM t.kids t.cuts ++ [(4, t.e), (5, (t.e.2, t.bd.2))]) else if t.kind = 2 then tilesH t.kids else [(1, t.bd)]) := by
  cases t
  simp only [tilesT, Tr.kind, Tr.hd, Tr.bd, Tr.kids, Tr.cuts, Tr.e]
  rfl
theorem tilesM_cons (t : Tr) (r : List Tr) (c : Sp) (cs : List Sp) : tilesM (t :: r) (c :: cs) = (3, c) :: (tilesT t ++ tilesM r cs) := by simp only [tilesM]
theorem tilesM_nil (cs : List Sp) : tilesM [] cs = [] := by simp only [tilesM]
theorem tilesH_one (t : Tr) : tilesH [t] = tilesT t := by simp only [tilesH]
/-- Tiles one behind the other. -/
def chainT : Nat → Nat → List Tl → Prop
  | a, b, [] => a = b
  | a, b, x :: r => x.2.1 = a ∧ a ≤ x.2.2 ∧ chainT x.2.2 b r
theorem chainT_append : ∀ {x y : List Tl} {a b c : Nat}, chainT a b x → chainT b c y → chainT a c (x ++ y)
  | [], _, _, _, _, h, k => by
    have h' : _ = _ := h
    subst h'
    exact k
  | _ :: _, _, _, _, _, h, k => ⟨h.1, h.2.1, chainT_append h.2.2 k⟩
/-- What a part has by its kind. -/
def formed (t : Tr) : Prop := t.hd.2 = t.bd.1 ∧ t.bd.1 ≤ t.bd.2 ∧
  ((t.kind = 0 ∧ t.kids = [] ∧ t.cuts = [] ∧ t.e = (0, 0)) ∨ (t.kind = 1 ∧ t.kids ≠ [] ∧ t.kids.length = t.cuts.length) ∨ (t.kind = 2 ∧ t.cuts = [] ∧ t.e = (0, 0) ∧ ∃ q, t.kids = [q] ∧ q.hd.1 = t.bd.1 ∧ q.bd.2 = t.bd.2))
mutual
def goodT : Tr → Prop
  | .mk k hd bd ks cs e => formed (.mk k hd bd ks cs e) ∧ goodK ks
def goodK : List Tr → Prop
  | [] => True
  | t :: r => goodT t ∧ goodK r
end
theorem goodT_mk {k : Nat} {hd bd : Sp} {ks : List Tr} {cs : List Sp} {e : Sp} (h : formed (.mk k hd bd ks cs e)) (h2 : goodK ks) : goodT (.mk k hd bd ks cs e) := by
  unfold goodT
  exact ⟨h, h2⟩
theorem goodT_open {t : Tr} (h : goodT t) : formed t ∧ goodK t.kids := by
  cases t
  unfold goodT at h
  exact h
theorem goodK_get : ∀ {ts : List Tr}, goodK ts → ∀ i, (h : i < ts.length) → goodT ts[i]
  | [], _, i, h => by simp at h
  | t :: r, hg, i, h => by
    unfold goodK at hg
    cases i with
    | zero => exact hg.1
    | succ i =>
      have := goodK_get hg.2 i (by simpa using h)
      simpa using this
/-- A tree of just these bytes. -/
def tileQ (t : Tr) (s : Sp) : Prop := goodT t ∧ t.hd.1 = s.1 ∧ t.bd.2 = s.2 ∧ chainT s.1 s.2 (tilesT t)
def tileQs : List Tr → List Sp → Prop
  | [], [] => True
  | t :: r, s :: ss => tileQ t s ∧ tileQs r ss
  | [], _ :: _ => False
  | _ :: _, [] => False
theorem kidsRun_Q {F : Sp → Nat → Tr × Nat} : ∀ (ss : List Sp) (c : Nat), (∀ s ∈ ss, ∀ c', tileQ (F s c').1 s) → tileQs (kidsRun F ss c).1 ss
  | [], _, _ => trivial
  | s :: r, c, h => ⟨h s List.mem_cons_self c, kidsRun_Q r _ fun s' hs' => h s' (List.mem_cons_of_mem _ hs')⟩
theorem tileQs_good : ∀ {ks : List Tr} {ss : List Sp}, tileQs ks ss → goodK ks ∧ ks.length = ss.length
  | [], [], _ => by unfold goodK; exact ⟨trivial, rfl⟩
  | t :: r, s :: ss, h => by
    obtain ⟨h1, h2⟩ := tileQs_good h.2
    unfold goodK
    exact ⟨⟨h.1.1, h1⟩, by simp [h2]⟩
  | [], _ :: _, h => h.elim
  | _ :: _, [], h => h.elim
theorem multi_chain : ∀ {cs : List Sp} {ks : List Tr} {a b : Nat} {e : Sp}, chainC a b cs e → tileQs ks (kidsS cs e) → chainT (preE cs e) e.1 (tilesM ks cs)
  | [], [], _, _, _, _, _ => by
    rw [tilesM_nil]
    rfl
  | [], _ :: _, _, _, _, _, h => h.elim
  | [_], [], _, _, _, _, h => h.elim
  | [c], [t], a, b, e, hc, h => by
    obtain ⟨h1, h2, h3⟩ := hc
    rw [tilesM_cons, tilesM_nil, List.append_nil]
    exact ⟨rfl, h2, h.1.2.2.2⟩
  | [_], _ :: _ :: _, _, _, _, _, h => h.2.elim
  | _ :: _ :: _, [], _, _, _, _, h => h.elim
  | c :: d :: r, t :: ts, a, b, e, hc, h => by
    obtain ⟨h1, h2, h3⟩ := hc
    rw [tilesM_cons]
    exact ⟨rfl, h2, chainT_append h.1.2.2.2 (multi_chain h3 h.2)⟩
theorem preE_in {cs : List Sp} {a b : Nat} {e : Sp} (h : chainC a b cs e) : a ≤ preE cs e ∧ e.1 ≤ e.2 ∧ e.2 ≤ b := by
  have hall : ∀ {cs : List Sp} {a : Nat}, chainC a b cs e → e.1 ≤ e.2 ∧ e.2 ≤ b := by
    intro cs
    induction cs with
    | nil => intro a h; exact ⟨h.2.1, h.2.2⟩
    | cons c r ih => intro a h; exact ih h.2.2
  refine ⟨?_, hall h⟩
  cases cs with
  | nil => exact h.1
  | cons c r => exact h.1
/-- The three ways of a part. -/
theorem pdS_ways (l : List UInt8) (fs : List Fld) {h t : Nat} (hht : h ≤ t) (htl : t ≤ l.length) (k : Val) :
    pdS l fs h t k = noPd ∨ (∃ cs e, chainC h t cs e ∧ pdS l fs h t k = ⟨1, cs, e, kidsS cs e⟩) ∨ pdS l fs h t k = ⟨2, [], (0, 0), [(h, t)]⟩ := by
  unfold pdS
  split
  · split
    · next b hb =>
      exact .inr (.inl ⟨_, _, cutsS_chain l (45 :: 45 :: b) t (linesS l h t) h h (Nat.le_refl _) (chainL_lines l _ h t (Nat.le_refl _) hht htl), rfl⟩)
    · exact .inl rfl
  · split
    · exact .inr (.inr rfl)
    · exact .inl rfl
theorem leaf_Q {f h t : Nat} (h1 : f ≤ h) (h2 : h ≤ t) : tileQ (leafT f h t) (f, t) := by
  refine ⟨goodT_mk ⟨rfl, h2, .inl ⟨rfl, rfl, rfl, rfl⟩⟩ (by unfold goodK; trivial), rfl, rfl, ?_⟩
  rw [tilesT_eq]
  exact ⟨rfl, h1, rfl, h2, rfl⟩
theorem entS_Q (l : List UInt8) : ∀ (d : Nat) (s : Sp) (g : Bool) (c : Nat), s.1 ≤ s.2 → s.2 ≤ l.length → tileQ (entS l d s g c).1 s
  | 0, s, g, c, h1, h2 => by
    have hh := hdOf_le l h1 h2
    exact leaf_Q hh.1 hh.2
  | d + 1, s, g, c, h1, h2 => by
    have hh := hdOf_le l h1 h2
    by_cases hc : (pdS l (fsOf l s.1 s.2) (hdOf l s.1 s.2) s.2 (typeS l (fsOf l s.1 s.2) g)).kids = [] ∨ 1000 < c + (pdS l (fsOf l s.1 s.2) (hdOf l s.1 s.2) s.2 (typeS l (fsOf l s.1 s.2) g)).kids.length
    · rw [entS_leaf hc]
      exact leaf_Q hh.1 hh.2
    · rw [entS_kids rfl rfl hc]
      have hin := pdS_in l (fsOf l s.1 s.2) hh.2 h2 (typeS l (fsOf l s.1 s.2) g)
      have hQ := kidsRun_Q (F := fun s' c' => entS l d s' (digS (typeS l (fsOf l s.1 s.2) g)) c') (pdS l (fsOf l s.1 s.2) (hdOf l s.1 s.2) s.2 (typeS l (fsOf l s.1 s.2) g)).kids
        (c + (pdS l (fsOf l s.1 s.2) (hdOf l s.1 s.2) s.2 (typeS l (fsOf l s.1 s.2) g)).kids.length) (fun s' hs' c' => entS_Q l d s' _ c' (hin s' hs').1 (Nat.le_trans (hin s' hs').2 h2))
      generalize (kidsRun (fun s' c' => entS l d s' (digS (typeS l (fsOf l s.1 s.2) g)) c') (pdS l (fsOf l s.1 s.2) (hdOf l s.1 s.2) s.2 (typeS l (fsOf l s.1 s.2) g)).kids (c + (pdS l (fsOf l s.1 s.2) (hdOf l s.1 s.2) s.2 (typeS l (fsOf l s.1 s.2) g)).kids.length)).1 = ks at hQ ⊢
      simp only [not_or] at hc
      rcases pdS_ways l (fsOf l s.1 s.2) hh.2 h2 (typeS l (fsOf l s.1 s.2) g) with hp | ⟨cs, e, hch, hp⟩ | hp
      · rw [hp] at hc
        exact absurd rfl hc.1
      · rw [hp] at hQ hc ⊢
        obtain ⟨hg, hlen⟩ := tileQs_good hQ
        rw [kidsS_len] at hlen
        have hpre := preE_in hch
        refine ⟨goodT_mk ⟨rfl, hh.2, .inr (.inl ⟨rfl, ?_, hlen⟩)⟩ hg, rfl, rfl, ?_⟩
        · intro e0
          have e1 : ks = [] := e0
          rw [e1] at hlen
          have : cs = [] := List.eq_nil_of_length_eq_zero hlen.symm
          rw [this] at hc
          exact hc.1 rfl
        · rw [tilesT_eq]
          exact ⟨rfl, hh.1, rfl, hpre.1, chainT_append (multi_chain hch hQ) ⟨rfl, hpre.2.1, rfl, hpre.2.2, rfl⟩⟩
      · rw [hp] at hQ hc ⊢
        obtain ⟨hg, hlen⟩ := tileQs_good hQ
        obtain ⟨q, rfl⟩ : ∃ q, ks = [q] := by
          match ks, hlen with
          | [q], _ => exact ⟨q, rfl⟩
        have hq := hQ.1
        refine ⟨goodT_mk ⟨rfl, hh.2, .inr (.inr ⟨rfl, rfl, rfl, q, rfl, hq.2.1, hq.2.2.1⟩)⟩ hg, rfl, rfl, ?_⟩
        rw [tilesT_eq]
        refine ⟨rfl, hh.1, ?_⟩
        show chainT _ _ (tilesH [q])
        rw [tilesH_one]
        exact hq.2.2.2
theorem tree_Q (l : List UInt8) : tileQ (treeS l) (0, l.length) := entS_Q l 32 (0, l.length) false 1 (Nat.zero_le _) (Nat.le_refl _)
theorem kidsRun_cnt {F : Sp → Nat → Tr × Nat} (h : ∀ s c, (F s c).2 + 1 = c + countT (F s c).1) : ∀ (ss : List Sp) (c : Nat), (kidsRun F ss c).2 + ss.length = c + countK (kidsRun F ss c).1
  | [], c => rfl
  | s :: r, c => by
    have ih := kidsRun_cnt h r (F s c).2
    have h1 := h s c
    show (kidsRun F r (F s c).2).2 + (r.length + 1) = c + (countT (F s c).1 + countK (kidsRun F r (F s c).2).1)
    omega
theorem entS_cnt (l : List UInt8) : ∀ (d : Nat) (s : Sp) (g : Bool) (c : Nat), (entS l d s g c).2 + 1 = c + countT (entS l d s g c).1
  | 0, s, g, c => rfl
  | d + 1, s, g, c => by
    by_cases hc : (pdS l (fsOf l s.1 s.2) (hdOf l s.1 s.2) s.2 (typeS l (fsOf l s.1 s.2) g)).kids = [] ∨ 1000 < c + (pdS l (fsOf l s.1 s.2) (hdOf l s.1 s.2) s.2 (typeS l (fsOf l s.1 s.2) g)).kids.length
    · rw [entS_leaf hc]
      rfl
    · rw [entS_kids rfl rfl hc]
      have h := kidsRun_cnt (F := fun s' c' => entS l d s' (digS (typeS l (fsOf l s.1 s.2) g)) c') (fun s' c' => entS_cnt l d s' _ c') (pdS l (fsOf l s.1 s.2) (hdOf l s.1 s.2) s.2 (typeS l (fsOf l s.1 s.2) g)).kids (c + (pdS l (fsOf l s.1 s.2) (hdOf l s.1 s.2) s.2 (typeS l (fsOf l s.1 s.2) g)).kids.length)
      show (kidsRun _ _ _).2 + 1 = c + (1 + countK (kidsRun _ _ _).1)
      omega
theorem tree_count (l : List UInt8) : countT (treeS l) ≤ 1000 := by
  have h1 := entS_cnt l 32 (0, l.length) false 1
  have h2 := entS_le l 32 (0, l.length) false 1 (by decide)
  unfold treeS
  omega
theorem kidsRun_dp {F : Sp → Nat → Tr × Nat} {D : Nat} (h : ∀ s c, deepT (F s c).1 ≤ D) : ∀ (ss : List Sp) (c : Nat), deepK (kidsRun F ss c).1 ≤ D + 1
  | [], _ => Nat.zero_le _
  | s :: r, c => by
    have ih := kidsRun_dp h r (F s c).2
    have h1 := h s c
    show max (1 + deepT (F s c).1) (deepK (kidsRun F r (F s c).2).1) ≤ D + 1
    omega
theorem entS_dp (l : List UInt8) : ∀ (d : Nat) (s : Sp) (g : Bool) (c : Nat), deepT (entS l d s g c).1 ≤ d
  | 0, s, g, c => Nat.le_refl _
  | d + 1, s, g, c => by
    by_cases hc : (pdS l (fsOf l s.1 s.2) (hdOf l s.1 s.2) s.2 (typeS l (fsOf l s.1 s.2) g)).kids = [] ∨ 1000 < c + (pdS l (fsOf l s.1 s.2) (hdOf l s.1 s.2) s.2 (typeS l (fsOf l s.1 s.2) g)).kids.length
    · rw [entS_leaf hc]
      exact Nat.zero_le _
    · rw [entS_kids rfl rfl hc]
      show deepK (kidsRun _ _ _).1 ≤ d + 1
      exact kidsRun_dp (fun s' c' => entS_dp l d s' _ c') _ _
theorem tree_deep (l : List UInt8) : deepT (treeS l) ≤ 32 := entS_dp l 32 _ _ _
mutual
/-- All parts, with how deep they stand. -/
def partsT : Nat → Tr → List (Nat × Tr)
  | d, .mk k hd bd ks cs e => (d, .mk k hd bd ks cs e) :: partsK (d + 1) ks
def partsK : Nat → List Tr → List (Nat × Tr)
  | _, [] => []
  | d, t :: r => partsT d t ++ partsK d r
end
theorem partsT_eq (d : Nat) (t : Tr) : partsT d t = (d, t) :: partsK (d + 1) t.kids := by
  cases t
  simp only [partsT, Tr.kids]
theorem partsK_cons (d : Nat) (t : Tr) (r : List Tr) : partsK d (t :: r) = partsT d t ++ partsK d r := by simp only [partsK]
theorem partsK_nil (d : Nat) : partsK d [] = [] := by simp only [partsK]
mutual
theorem partsT_len : ∀ (d : Nat) (t : Tr), (partsT d t).length = countT t
  | d, .mk k hd bd ks cs e => by
    have := partsK_len (d + 1) ks
    simp only [partsT, List.length_cons, countT]
    omega
theorem partsK_len : ∀ (d : Nat) (ts : List Tr), (partsK d ts).length = countK ts
  | _, [] => by simp only [partsK, List.length_nil, countK]
  | d, t :: r => by
    have h1 := partsT_len d t
    have h2 := partsK_len d r
    simp only [partsK, List.length_append, countK]
    omega
end
mutual
theorem partsT_deep : ∀ (d : Nat) (t : Tr), ∀ x ∈ partsT d t, x.1 ≤ d + deepT t
  | d, .mk k hd bd ks cs e, x, h => by
    simp only [partsT, List.mem_cons] at h
    simp only [deepT]
    rcases h with rfl | h
    · exact Nat.le_add_right _ _
    · have := partsK_deep (d + 1) ks x h
      omega
theorem partsK_deep : ∀ (d : Nat) (ts : List Tr), ∀ x ∈ partsK d ts, x.1 + 1 ≤ d + deepK ts
  | _, [], x, h => by simp [partsK] at h
  | d, t :: r, x, h => by
    simp only [partsK, List.mem_append] at h
    simp only [deepK]
    rcases h with h | h
    · have := partsT_deep d t x h
      omega
    · have := partsK_deep d r x h
      omega
end
mutual
theorem partsT_good : ∀ (d : Nat) (t : Tr), goodT t → ∀ x ∈ partsT d t, formed x.2
  | d, .mk k hd bd ks cs e, hg, x, h => by
    simp only [partsT, List.mem_cons] at h
    unfold goodT at hg
    rcases h with rfl | h
    · exact hg.1
    · exact partsK_good (d + 1) ks hg.2 x h
theorem partsK_good : ∀ (d : Nat) (ts : List Tr), goodK ts → ∀ x ∈ partsK d ts, formed x.2
  | _, [], _, x, h => by simp [partsK] at h
  | d, t :: r, hg, x, h => by
    simp only [partsK, List.mem_append] at h
    unfold goodK at hg
    rcases h with h | h
    · exact partsT_good d t hg.1 x h
    · exact partsK_good d r hg.2 x h
end
end Go.Proofs.YteallnjbpikhhaaGreatDoor
