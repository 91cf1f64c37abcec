/- The tree of a message in plain words. No program. -/
import Derived.Test.YtkmgflnmffdhjaaGreatDoorGbEnC
import Derived.Test.YtkmgflnmffdhjaaGreatDoorGbParU
import Derived.Test.YtkmgflnmffdhjaaGreatDoorGbEnD
import Derived.Test.YtkmgflnmffdhjaaGreatDoorGbHdrF
namespace Go.Proofs.YtkmgflnmffdhjaaGreatDoor
open Go Go.RowKit

abbrev Sp := Nat × Nat
/-- A part: its kind, its header, its body, its kids, their delimiters, its close delimiter. -/
inductive Tr where
  | mk (kind : Nat) (hd bd : Sp) (kids : List Tr) (cuts : List Sp) (e : Sp)
def Tr.kind : Tr → Nat | .mk k _ _ _ _ _ => k
def Tr.hd : Tr → Sp | .mk _ h _ _ _ _ => h
def Tr.bd : Tr → Sp | .mk _ _ b _ _ _ => b
def Tr.kids : Tr → List Tr | .mk _ _ _ k _ _ => k
def Tr.cuts : Tr → List Sp | .mk _ _ _ _ c _ => c
def Tr.e : Tr → Sp | .mk _ _ _ _ _ e => e

/-- What a line is: 0 no delimiter, 1 one, 2 a close one. -/
def lkS (m0 t : List UInt8) : Nat :=
  if m0.isPrefixOf t then
    (if [45, 45].isPrefixOf (t.drop m0.length) then (if ((t.drop m0.length).drop 2).all blk then 2 else 0) else if (t.drop m0.length).all blk then 1 else 0)
  else 0
/-- The delimiters, and the close one. -/
def cutsS (l m0 : List UInt8) (bt : Nat) : Nat → List Ln → List Sp × Sp
  | _, [] => ([], (bt, bt))
  | fr, x :: r =>
    if lkS m0 (textOf l x) = 2 then ([], (fr, x.n))
    else if lkS m0 (textOf l x) = 1 then ((fr, x.n) :: (cutsS l m0 bt x.n r).1, (cutsS l m0 bt x.n r).2)
    else cutsS l m0 bt x.t r
theorem cutsS_nil (l m0 : List UInt8) (bt fr : Nat) : cutsS l m0 bt fr [] = ([], (bt, bt)) := rfl
theorem cutsS_close {l m0 : List UInt8} {bt fr : Nat} {x : Ln} {r : List Ln} (h : lkS m0 (textOf l x) = 2) : cutsS l m0 bt fr (x :: r) = ([], (fr, x.n)) := by rw [cutsS, if_pos h]
theorem cutsS_open {l m0 : List UInt8} {bt fr : Nat} {x : Ln} {r : List Ln} (h : lkS m0 (textOf l x) = 1) : cutsS l m0 bt fr (x :: r) = ((fr, x.n) :: (cutsS l m0 bt x.n r).1, (cutsS l m0 bt x.n r).2) := by
  rw [cutsS, if_neg (by rw [h]; decide), if_pos h]
theorem cutsS_other {l m0 : List UInt8} {bt fr : Nat} {x : Ln} {r : List Ln} (h2 : ¬ lkS m0 (textOf l x) = 2) (h1 : ¬ lkS m0 (textOf l x) = 1) : cutsS l m0 bt fr (x :: r) = cutsS l m0 bt x.t r := by rw [cutsS, if_neg h2, if_neg h1]
/-- Where the kids stand. -/
def kidsS : List Sp → Sp → List Sp
  | [], _ => []
  | [c], e => [(c.2, e.1)]
  | c :: d :: r, e => (c.2, d.1) :: kidsS (d :: r) e
theorem kidsS_len : ∀ (cs : List Sp) (e : Sp), (kidsS cs e).length = cs.length
  | [], _ => rfl
  | [_], _ => rfl
  | _ :: d :: r, e => by simp [kidsS, kidsS_len (d :: r) e]
def bdyN : List UInt8 := [98, 111, 117, 110, 100, 97, 114, 121]
def mulN : List UInt8 := [109, 117, 108, 116, 105, 112, 97, 114, 116]
def msgN : List UInt8 := [109, 101, 115, 115, 97, 103, 101]
def rfcN : List UInt8 := [114, 102, 99, 56, 50, 50]
def digN : List UInt8 := [100, 105, 103, 101, 115, 116]
def txtN : List UInt8 := [116, 101, 120, 116]
def plnN : List UInt8 := [112, 108, 97, 105, 110]
def ctyN : List UInt8 := [99, 111, 110, 116, 101, 110, 116, 45, 116, 121, 112, 101]
def cteN : List UInt8 := [99, 111, 110, 116, 101, 110, 116, 45, 116, 114, 97, 110, 115, 102, 101, 114, 45, 101, 110, 99, 111, 100, 105, 110, 103]
def bdOK (b : List UInt8) : Bool := !b.isEmpty && decide (b.length ≤ 70)
def boundS (ps : List Prm) : Option (List UInt8) := match getP ps bdyN with
  | some b => if bdOK b = true then some b else none
  | none => none
def typeS (l : List UInt8) (fs : List Fld) (dig : Bool) : Val := match parseL (valueS l fs ctyN) true with
  | some v => v
  | none => if dig = true then ⟨msgN, rfcN, []⟩ else ⟨txtN, plnN, []⟩
def bareB (v : List UInt8) : Bool := v.isEmpty || v == [55, 98, 105, 116] || v == [56, 98, 105, 116] || v == [98, 105, 110, 97, 114, 121]
def bareS (l : List UInt8) (fs : List Fld) : Bool := bareB (foldS (valueS l fs cteN))
/-- What an entity is of: its kind, delimiters, close delimiter, where its kids stand. -/
structure Pd where
  kind : Nat
  cuts : List Sp
  e : Sp
  kids : List Sp
def noPd : Pd := ⟨0, [], (0, 0), []⟩
def pdS (l : List UInt8) (fs : List Fld) (h t : Nat) (k : Val) : Pd :=
  if k.type = mulN then
    (match boundS k.params with
    | some b => ⟨1, (cutsS l (45 :: 45 :: b) t h (linesS l h t)).1, (cutsS l (45 :: 45 :: b) t h (linesS l h t)).2, kidsS (cutsS l (45 :: 45 :: b) t h (linesS l h t)).1 (cutsS l (45 :: 45 :: b) t h (linesS l h t)).2⟩
    | none => noPd)
  else if k.type = msgN ∧ k.sub = rfcN ∧ bareS l fs = true then ⟨2, [], (0, 0), [(h, t)]⟩ else noPd
def digS (k : Val) : Bool := k.type == mulN && k.sub == digN
def leafT (f h t : Nat) : Tr := .mk 0 (f, h) (h, t) [] [] (0, 0)
def kidsRun (F : Sp → Nat → Tr × Nat) : List Sp → Nat → List Tr × Nat
  | [], c => ([], c)
  | s :: r, c => ((F s c).1 :: (kidsRun F r (F s c).2).1, (kidsRun F r (F s c).2).2)
def fsOf (l : List UInt8) (f t : Nat) : List Fld := fieldsL l ((linesS l f t).take (eI (linesS l f t)))
def hdOf (l : List UInt8) (f t : Nat) : Nat := behindN (linesS l f t) t
/-- An entity, so many levels above the last that may be, and how many parts there are behind it. -/
def entS (l : List UInt8) : Nat → Sp → Bool → Nat → Tr × Nat
  | 0, s, _, c => (leafT s.1 (hdOf l s.1 s.2) s.2, c)
  | d + 1, s, g, c =>
    let k := typeS l (fsOf l s.1 s.2) g
    let p := pdS l (fsOf l s.1 s.2) (hdOf l s.1 s.2) s.2 k
    if p.kids = [] ∨ 1000 < c + p.kids.length then (leafT s.1 (hdOf l s.1 s.2) s.2, c)
    else (.mk p.kind (s.1, hdOf l s.1 s.2) (hdOf l s.1 s.2, s.2) (kidsRun (fun s' c' => entS l d s' (digS k) c') p.kids (c + p.kids.length)).1 p.cuts p.e,
      (kidsRun (fun s' c' => entS l d s' (digS k) c') p.kids (c + p.kids.length)).2)
def treeS (l : List UInt8) : Tr := (entS l 32 (0, l.length) false 1).1
mutual
def countT : Tr → Nat
  | .mk _ _ _ ks _ _ => 1 + countK ks
def countK : List Tr → Nat
  | [] => 0
  | t :: r => countT t + countK r
end
end Go.Proofs.YtkmgflnmffdhjaaGreatDoor

/- Plain: each name stands once. -/
namespace Go.Proofs.YtkmgflnmffdhjaaGreatDoor
open Go Go.RowKit

def fineB (c : UInt8) : Bool := !(c == 42 || (decide (65 ≤ c.toNat) && decide (c.toNat ≤ 90)))
theorem join_names (ps : List Prm) : ∀ (t : List Prm) (pre : List (List UInt8)), (∀ q ∈ joinA ps pre t, q.1 ≠ [] ∧ q.1 ∉ pre ∧ ∃ p ∈ t, q.1 = baseL p.1) ∧ (joinA ps pre t).Pairwise (fun p q => p.1 ≠ q.1) := by
  intro t
  induction t with
  | nil => intro pre; exact ⟨fun q hq => by simp [joinA] at hq, List.Pairwise.nil⟩
  | cons p t ih =>
    intro pre
    have ih' := ih (baseL p.1 :: pre)
    have e : joinA ps pre (p :: t) = if baseL p.1 = [] ∨ baseL p.1 ∈ pre then joinA ps (baseL p.1 :: pre) t else match toldL ps (baseL p.1) with | some v => (baseL p.1, v) :: joinA ps (baseL p.1 :: pre) t | none => joinA ps (baseL p.1 :: pre) t := rfl
    rw [e]
    have wk : ∀ q ∈ joinA ps (baseL p.1 :: pre) t, q.1 ≠ [] ∧ q.1 ∉ pre ∧ ∃ x ∈ p :: t, q.1 = baseL x.1 := fun q hq => by
      obtain ⟨h1, h2, x, hx, h3⟩ := ih'.1 q hq
      exact ⟨h1, fun h => h2 (List.mem_cons_of_mem _ h), x, List.mem_cons_of_mem _ hx, h3⟩
    split
    · exact ⟨wk, ih'.2⟩
    · next hn =>
      have hn1 : ¬ baseL p.1 = [] := fun h => hn (.inl h)
      have hn2 : ¬ baseL p.1 ∈ pre := fun h => hn (.inr h)
      split
      · next v hv =>
        refine ⟨fun q hq => ?_, ?_⟩
        · rcases List.mem_cons.1 hq with rfl | hq
          · exact ⟨hn1, hn2, p, by simp, rfl⟩
          · exact wk q hq
        · refine List.pairwise_cons.2 ⟨fun q hq => ?_, ih'.2⟩
          have := (ih'.1 q hq).2.1
          intro e
          exact this (by rw [← e]; simp)
      · exact ⟨wk, ih'.2⟩
structure Once (V : Val) (two : Bool) : Prop where
  type : V.type ≠ []
  sub : (V.sub.isEmpty = !two)
  name : ∀ q ∈ V.params, q.1 ≠ [] ∧ q.1.all fineB = true
  once : V.params.Pairwise (fun p q => p.1 ≠ q.1)
end Go.Proofs.YtkmgflnmffdhjaaGreatDoor

/- How long what a parameter is told by may be. No program. -/
namespace Go.Proofs.YtkmgflnmffdhjaaGreatDoor
open Go Go.RowKit

theorem baseL_len (l : List UInt8) : (baseL l).length ≤ l.length := (List.takeWhile_sublist _).length_le
theorem tokenL_rest (l : List UInt8) : (tokenL l).2.length ≤ l.length := by
  show ((sk l).drop _).length ≤ _
  rw [List.length_drop]
  exact Nat.le_trans (Nat.sub_le _ _) (skL_le l false 0)
theorem takeL_rest {c : UInt8} {l r : List UInt8} (h : takeL c l = some r) : r.length ≤ l.length := by
  have hs := skL_le l false 0
  have hs' : (sk l).length ≤ l.length := hs
  unfold takeL at h
  split at h
  · next x r' hx =>
    rw [hx] at hs'
    split at h
    · cases h
      simp at hs'
      omega
    · cases h
  · cases h
theorem joinL_short (n : Nat) (l : List UInt8) : ∀ q ∈ joinL (parsL n l), q.1.length ≤ l.length := by
  intro q hq
  obtain ⟨_, _, p, hp, h3⟩ := (join_names (parsL n l) (parsL n l) []).1 q hq
  rw [h3]
  exact Nat.le_trans (baseL_len _) (parsL_small n l p hp).1
theorem parse_short {l : List UInt8} {two : Bool} {V : Val} (h : parseL l two = some V) : ∀ q ∈ V.params, q.1.length ≤ l.length := by
  have ht := tokenL_rest l
  unfold parseL at h
  split at h
  · cases h
  · cases two with
    | false =>
      simp only [Bool.false_eq_true, if_false] at h
      cases h
      exact fun q hq => Nat.le_trans (joinL_short _ _ q hq) ht
    | true =>
      simp only [if_true] at h
      split at h
      · cases h
      · next u r hs =>
        cases h
        unfold subL at hs
        split at hs
        · cases hs
        · next r0 h0 =>
          split at hs
          · cases hs
          · cases hs
            have h1 := takeL_rest h0
            have h2 := tokenL_rest r0
            exact fun q hq => Nat.le_trans (joinL_short _ _ q hq) (by omega)

end Go.Proofs.YtkmgflnmffdhjaaGreatDoor

/- How long what a header's fields tell may be. No program. -/
namespace Go.Proofs.YtkmgflnmffdhjaaGreatDoor
open Go Go.RowKit

theorem textsL_chain (l : List UInt8) : ∀ (ls : List Ln) (a b : Nat), chainL a b ls → b ≤ l.length → (textsL l ls).length ≤ b - a
  | [], _, _, _, _ => Nat.zero_le _
  | x :: r, a, b, h, hb => by
    obtain ⟨h1, h2, h3, h4⟩ := h
    have ih := textsL_chain l r x.n b h4 hb
    have hle := chainL_le h4
    have hx := textOf_len (l := l) (x := x) (by omega)
    have e : (textsL l (x :: r)).length = (textOf l x).length + (textsL l r).length := by simp [textsL]
    omega
theorem trimS_short (l : List UInt8) : (trimS l).length ≤ l.length := by
  obtain ⟨a, b, e, _⟩ := trim_parts l
  have := congrArg List.length e
  simp only [List.length_append] at this
  omega
theorem bodyS_short (l : List UInt8) (b t : Int) : (bodyS l b t).length ≤ l.length := by
  have h1 := trimS_short (textsL l (linesZ l b t))
  unfold bodyS
  unfold linesZ at h1 ⊢
  split at h1
  · next h =>
    rw [if_pos h]
    have hw := of_decide_eq_true h
    have := textsL_chain l _ _ _ (chainL_lines l _ b.toNat t.toNat (Nat.le_refl _) (by omega) (by omega)) (by omega)
    omega
  · next h =>
    rw [if_neg h]
    have e : textsL l [] = [] := rfl
    have e2 : trimS [] = [] := rfl
    rw [e, e2]
    exact Nat.zero_le _
theorem valueS_short (l : List UInt8) (fs : List Fld) (nm : List UInt8) : (valueS l fs nm).length ≤ l.length := by
  unfold valueS
  split
  · exact bodyS_short l _ _
  · exact Nat.zero_le _
theorem hdOf_le (l : List UInt8) {f t : Nat} (hft : f ≤ t) (htl : t ≤ l.length) : f ≤ hdOf l f t ∧ hdOf l f t ≤ t := by
  have hc := chainL_lines l _ f t (Nat.le_refl _) hft htl
  unfold hdOf behindN
  split
  · next h =>
    have h1 := chainL_at _ h hc
    exact ⟨by omega, h1.2.2.2⟩
  · exact ⟨hft, Nat.le_refl _⟩
theorem fsOf_chain (l : List UInt8) {f t : Nat} (hft : f ≤ t) (htl : t ≤ l.length) : chainF l f (hdOf l f t) (fsOf l f t) := by
  have hc := chainL_lines l _ f t (Nat.le_refl _) hft htl
  have hb := (hdOf_le l hft htl).2
  refine fieldsL_chain l (by omega) ?_
  unfold hdOf behindN
  split
  · next h => exact chainL_head _ h hc
  · exact chainL_take _ hc
theorem fsOf_short (l : List UInt8) {f t : Nat} (hft : f ≤ t) (htl : t ≤ l.length) (hbig : l.length ≤ 1000000) : shortF (fsOf l f t) := fun x hx => by
  have h := chainF_all (fsOf_chain l hft htl) x hx
  have hb := (hdOf_le l hft htl).2
  have := h.1.2.2.2.1
  omega
theorem typeS_short (l : List UInt8) (fs : List Fld) (g : Bool) (hbig : l.length ≤ 1000000) : small1 (typeS l fs g).params := by
  unfold typeS
  have hv := valueS_short l fs ctyN
  cases hp : parseL (valueS l fs ctyN) true with
  | some V => exact fun p hp' => Nat.le_trans (parse_short hp p hp') (by omega)
  | none =>
    cases g
    · exact fun p hp' => by cases hp'
    · exact fun p hp' => by cases hp'
end Go.Proofs.YtkmgflnmffdhjaaGreatDoor

/- Layer 19: contracts of package envelope: the lists of some fields. -/
namespace Go.Proofs.YtkmgflnmffdhjaaGreatDoor
open Go Go.RowKit

def nmFrom : List UInt8 := [102, 114, 111, 109]
def nmSender : List UInt8 := [115, 101, 110, 100, 101, 114]
def nmReplyTo : List UInt8 := [114, 101, 112, 108, 121, 45, 116, 111]
def nmTo : List UInt8 := [116, 111]
def nmCc : List UInt8 := [99, 99]
def nmBcc : List UInt8 := [98, 99, 99]
def orX (a b : List Adx) : List Adx := if a = [] then b else a
theorem setCell_other {W : World} {A q k : Nat} {u : Value} (h : A ≠ q) : (W.setCell ⟨A, k, none⟩ u).heap[q]? = W.heap[q]? := by
  simp [World.setCell, Array.getElem?_modify, h]
theorem own_set {W : World} {b n size A k : Nat} {ty : TypeId} {v u : Value} {xs : List Value} (h : W.ownsRow b ty size v n xs) (hA : A < b) : (W.setCell ⟨A, k, none⟩ u).ownsRow b ty size v n xs := by
  obtain ⟨h1, h2⟩ := h
  refine ⟨h1, h2.imp id ?_⟩
  rintro ⟨g, cap, cur, e, hb, hh, h3⟩
  exact ⟨g, cap, cur, e, hb, (setCell_other (by omega)).trans hh, h3⟩
/-- The row of six lists, while it is filled. -/
structure St6 (w W : World) (A : Nat) (u0 u1 u2 u3 u4 u5 : Value) (l0 l1 l2 l3 l4 l5 : List Adx) : Prop where
  hA : A = w.heap.size
  hb : Below w.heap.size w W
  res : W.heap[A]? = some (.cells #[.slice none 0 0, .slice none 0 0, .slice none 0 0, .slice none 0 0, .slice none 0 0, .slice none 0 0] 126 (0, 0))
  arr : W.heap[A + 1]? = some (.cells #[u0, u1, u2, u3, u4, u5] 126 (0, 0))
  r0 : W.ownsRow (A + 2) 186 4 u0 l0.length (adxCells l0)
  r1 : W.ownsRow (A + 2) 186 4 u1 l1.length (adxCells l1)
  r2 : W.ownsRow (A + 2) 186 4 u2 l2.length (adxCells l2)
  r3 : W.ownsRow (A + 2) 186 4 u3 l3.length (adxCells l3)
  r4 : W.ownsRow (A + 2) 186 4 u4 l4.length (adxCells l4)
  r5 : W.ownsRow (A + 2) 186 4 u5 l5.length (adxCells l5)
theorem St6.below {w W W' : World} {A : Nat} {u0 u1 u2 u3 u4 u5 : Value} {l0 l1 l2 l3 l4 l5 : List Adx} (h : St6 w W A u0 u1 u2 u3 u4 u5 l0 l1 l2 l3 l4 l5) (hb : Below W.heap.size W W') : St6 w W' A u0 u1 u2 u3 u4 u5 l0 l1 l2 l3 l4 l5 :=
  ⟨h.hA, h.hb.trans (hb.mono h.hb.size), (hb.block _ (Array.getElem?_eq_some_iff.1 h.res).1).trans h.res, (hb.block _ (Array.getElem?_eq_some_iff.1 h.arr).1).trans h.arr, ownsRow_below h.r0 hb, ownsRow_below h.r1 hb, ownsRow_below h.r2 hb, ownsRow_below h.r3 hb, ownsRow_below h.r4 hb, ownsRow_below h.r5 hb⟩
theorem St6.set0 {w W : World} {A : Nat} {u0 u1 u2 u3 u4 u5 v : Value} {l0 l1 l2 l3 l4 l5 m : List Adx} (h : St6 w W A u0 u1 u2 u3 u4 u5 l0 l1 l2 l3 l4 l5) (hr : W.ownsRow (A + 2) 186 4 v m.length (adxCells m)) : St6 w (W.setCell ⟨A + 1, 0, none⟩ v) A v u1 u2 u3 u4 u5 m l1 l2 l3 l4 l5 :=
  ⟨h.hA, h.hb.setCell (p := ⟨A + 1, 0, none⟩) (by have := h.hA; simp only; omega) _, (setCell_other (by omega)).trans h.res, by
    have := h.arr
    simp [World.setCell, Array.getElem?_modify, this], own_set hr (by omega), own_set h.r1 (by omega), own_set h.r2 (by omega), own_set h.r3 (by omega), own_set h.r4 (by omega), own_set h.r5 (by omega)⟩
theorem St6.set1 {w W : World} {A : Nat} {u0 u1 u2 u3 u4 u5 v : Value} {l0 l1 l2 l3 l4 l5 m : List Adx} (h : St6 w W A u0 u1 u2 u3 u4 u5 l0 l1 l2 l3 l4 l5) (hr : W.ownsRow (A + 2) 186 4 v m.length (adxCells m)) : St6 w (W.setCell ⟨A + 1, 1, none⟩ v) A u0 v u2 u3 u4 u5 l0 m l2 l3 l4 l5 :=
  ⟨h.hA, h.hb.setCell (p := ⟨A + 1, 1, none⟩) (by have := h.hA; simp only; omega) _, (setCell_other (by omega)).trans h.res, by
    have := h.arr
    simp [World.setCell, Array.getElem?_modify, this], own_set h.r0 (by omega), own_set hr (by omega), own_set h.r2 (by omega), own_set h.r3 (by omega), own_set h.r4 (by omega), own_set h.r5 (by omega)⟩
theorem St6.set2 {w W : World} {A : Nat} {u0 u1 u2 u3 u4 u5 v : Value} {l0 l1 l2 l3 l4 l5 m : List Adx} (h : St6 w W A u0 u1 u2 u3 u4 u5 l0 l1 l2 l3 l4 l5) (hr : W.ownsRow (A + 2) 186 4 v m.length (adxCells m)) : St6 w (W.setCell ⟨A + 1, 2, none⟩ v) A u0 u1 v u3 u4 u5 l0 l1 m l3 l4 l5 :=
  ⟨h.hA, h.hb.setCell (p := ⟨A + 1, 2, none⟩) (by have := h.hA; simp only; omega) _, (setCell_other (by omega)).trans h.res, by
    have := h.arr
    simp [World.setCell, Array.getElem?_modify, this], own_set h.r0 (by omega), own_set h.r1 (by omega), own_set hr (by omega), own_set h.r3 (by omega), own_set h.r4 (by omega), own_set h.r5 (by omega)⟩
theorem St6.set3 {w W : World} {A : Nat} {u0 u1 u2 u3 u4 u5 v : Value} {l0 l1 l2 l3 l4 l5 m : List Adx} (h : St6 w W A u0 u1 u2 u3 u4 u5 l0 l1 l2 l3 l4 l5) (hr : W.ownsRow (A + 2) 186 4 v m.length (adxCells m)) : St6 w (W.setCell ⟨A + 1, 3, none⟩ v) A u0 u1 u2 v u4 u5 l0 l1 l2 m l4 l5 :=
  ⟨h.hA, h.hb.setCell (p := ⟨A + 1, 3, none⟩) (by have := h.hA; simp only; omega) _, (setCell_other (by omega)).trans h.res, by
    have := h.arr
    simp [World.setCell, Array.getElem?_modify, this], own_set h.r0 (by omega), own_set h.r1 (by omega), own_set h.r2 (by omega), own_set hr (by omega), own_set h.r4 (by omega), own_set h.r5 (by omega)⟩
theorem St6.set4 {w W : World} {A : Nat} {u0 u1 u2 u3 u4 u5 v : Value} {l0 l1 l2 l3 l4 l5 m : List Adx} (h : St6 w W A u0 u1 u2 u3 u4 u5 l0 l1 l2 l3 l4 l5) (hr : W.ownsRow (A + 2) 186 4 v m.length (adxCells m)) : St6 w (W.setCell ⟨A + 1, 4, none⟩ v) A u0 u1 u2 u3 v u5 l0 l1 l2 l3 m l5 :=
  ⟨h.hA, h.hb.setCell (p := ⟨A + 1, 4, none⟩) (by have := h.hA; simp only; omega) _, (setCell_other (by omega)).trans h.res, by
    have := h.arr
    simp [World.setCell, Array.getElem?_modify, this], own_set h.r0 (by omega), own_set h.r1 (by omega), own_set h.r2 (by omega), own_set h.r3 (by omega), own_set hr (by omega), own_set h.r5 (by omega)⟩
theorem St6.set5 {w W : World} {A : Nat} {u0 u1 u2 u3 u4 u5 v : Value} {l0 l1 l2 l3 l4 l5 m : List Adx} (h : St6 w W A u0 u1 u2 u3 u4 u5 l0 l1 l2 l3 l4 l5) (hr : W.ownsRow (A + 2) 186 4 v m.length (adxCells m)) : St6 w (W.setCell ⟨A + 1, 5, none⟩ v) A u0 u1 u2 u3 u4 v l0 l1 l2 l3 l4 m :=
  ⟨h.hA, h.hb.setCell (p := ⟨A + 1, 5, none⟩) (by have := h.hA; simp only; omega) _, (setCell_other (by omega)).trans h.res, by
    have := h.arr
    simp [World.setCell, Array.getElem?_modify, this], own_set h.r0 (by omega), own_set h.r1 (by omega), own_set h.r2 (by omega), own_set h.r3 (by omega), own_set h.r4 (by omega), own_set hr (by omega)⟩
theorem St6.c {w W : World} {A : Nat} {u0 u1 u2 u3 u4 u5 : Value} {l0 l1 l2 l3 l4 l5 : List Adx} (h : St6 w W A u0 u1 u2 u3 u4 u5 l0 l1 l2 l3 l4 l5) : W.cell? ⟨A + 1, 0, none⟩ = some u0 ∧ W.frozen? ⟨A + 1, 0, none⟩ = false ∧ W.cell? ⟨A + 1, 1, none⟩ = some u1 ∧ W.frozen? ⟨A + 1, 1, none⟩ = false ∧ W.cell? ⟨A + 1, 2, none⟩ = some u2 ∧ W.frozen? ⟨A + 1, 2, none⟩ = false ∧ W.cell? ⟨A + 1, 3, none⟩ = some u3 ∧ W.frozen? ⟨A + 1, 3, none⟩ = false ∧ W.cell? ⟨A + 1, 4, none⟩ = some u4 ∧ W.frozen? ⟨A + 1, 4, none⟩ = false ∧ W.cell? ⟨A + 1, 5, none⟩ = some u5 ∧ W.frozen? ⟨A + 1, 5, none⟩ = false := by
  have := h.arr
  simp [World.cell?, World.frozen?, this]
theorem lists_end {w W : World} {A : Nat} {u0 u1 u2 u3 u4 u5 : Value} {l0 l1 l2 l3 l4 l5 : List Adx} (h : St6 w W A u0 u1 u2 u3 u4 u5 l0 l1 l2 l3 l4 l5) :
    ((((((W.setCell ⟨A, 0, none⟩ u0).setCell ⟨A, 1, none⟩ u1).setCell ⟨A, 2, none⟩ u2).setCell ⟨A, 3, none⟩ u3).setCell ⟨A, 4, none⟩ u4).setCell ⟨A, 5, none⟩ u5).heap[A]? = some (.cells #[u0, u1, u2, u3, u4, u5] 126 (0, 0)) ∧ World.ownsRow ((((((W.setCell ⟨A, 0, none⟩ u0).setCell ⟨A, 1, none⟩ u1).setCell ⟨A, 2, none⟩ u2).setCell ⟨A, 3, none⟩ u3).setCell ⟨A, 4, none⟩ u4).setCell ⟨A, 5, none⟩ u5) w.heap.size 186 4 u0 l0.length (adxCells l0) ∧ World.ownsRow ((((((W.setCell ⟨A, 0, none⟩ u0).setCell ⟨A, 1, none⟩ u1).setCell ⟨A, 2, none⟩ u2).setCell ⟨A, 3, none⟩ u3).setCell ⟨A, 4, none⟩ u4).setCell ⟨A, 5, none⟩ u5) w.heap.size 186 4 u1 l1.length (adxCells l1) ∧ World.ownsRow ((((((W.setCell ⟨A, 0, none⟩ u0).setCell ⟨A, 1, none⟩ u1).setCell ⟨A, 2, none⟩ u2).setCell ⟨A, 3, none⟩ u3).setCell ⟨A, 4, none⟩ u4).setCell ⟨A, 5, none⟩ u5) w.heap.size 186 4 u2 l2.length (adxCells l2) ∧ World.ownsRow ((((((W.setCell ⟨A, 0, none⟩ u0).setCell ⟨A, 1, none⟩ u1).setCell ⟨A, 2, none⟩ u2).setCell ⟨A, 3, none⟩ u3).setCell ⟨A, 4, none⟩ u4).setCell ⟨A, 5, none⟩ u5) w.heap.size 186 4 u3 l3.length (adxCells l3) ∧ World.ownsRow ((((((W.setCell ⟨A, 0, none⟩ u0).setCell ⟨A, 1, none⟩ u1).setCell ⟨A, 2, none⟩ u2).setCell ⟨A, 3, none⟩ u3).setCell ⟨A, 4, none⟩ u4).setCell ⟨A, 5, none⟩ u5) w.heap.size 186 4 u4 l4.length (adxCells l4) ∧ World.ownsRow ((((((W.setCell ⟨A, 0, none⟩ u0).setCell ⟨A, 1, none⟩ u1).setCell ⟨A, 2, none⟩ u2).setCell ⟨A, 3, none⟩ u3).setCell ⟨A, 4, none⟩ u4).setCell ⟨A, 5, none⟩ u5) w.heap.size 186 4 u5 l5.length (adxCells l5) ∧ Below w.heap.size w ((((((W.setCell ⟨A, 0, none⟩ u0).setCell ⟨A, 1, none⟩ u1).setCell ⟨A, 2, none⟩ u2).setCell ⟨A, 3, none⟩ u3).setCell ⟨A, 4, none⟩ u4).setCell ⟨A, 5, none⟩ u5) := by
  have hA := h.hA
  refine ⟨?_, ?_, ?_, ?_, ?_, ?_, ?_, ?_⟩
  · have := h.res
    simp [World.setCell, Array.getElem?_modify, this]
  · exact own_base4 (own_set (own_set (own_set (own_set (own_set (own_set h.r0 (by omega)) (by omega)) (by omega)) (by omega)) (by omega)) (by omega)) (by omega)
  · exact own_base4 (own_set (own_set (own_set (own_set (own_set (own_set h.r1 (by omega)) (by omega)) (by omega)) (by omega)) (by omega)) (by omega)) (by omega)
  · exact own_base4 (own_set (own_set (own_set (own_set (own_set (own_set h.r2 (by omega)) (by omega)) (by omega)) (by omega)) (by omega)) (by omega)) (by omega)
  · exact own_base4 (own_set (own_set (own_set (own_set (own_set (own_set h.r3 (by omega)) (by omega)) (by omega)) (by omega)) (by omega)) (by omega)) (by omega)
  · exact own_base4 (own_set (own_set (own_set (own_set (own_set (own_set h.r4 (by omega)) (by omega)) (by omega)) (by omega)) (by omega)) (by omega)) (by omega)
  · exact own_base4 (own_set (own_set (own_set (own_set (own_set (own_set h.r5 (by omega)) (by omega)) (by omega)) (by omega)) (by omega)) (by omega)) (by omega)
  · exact (((((h.hb.setCell (p := ⟨A, 0, none⟩) (by simp only; omega) _).setCell (p := ⟨A, 1, none⟩) (by simp only; omega) _).setCell (p := ⟨A, 2, none⟩) (by simp only; omega) _).setCell (p := ⟨A, 3, none⟩) (by simp only; omega) _).setCell (p := ⟨A, 4, none⟩) (by simp only; omega) _).setCell (p := ⟨A, 5, none⟩) (by simp only; omega) _
def listsPost (l : List UInt8) (fs : List Fld) (w : World) (e : Ending) (w' : World) : Prop :=
  ∃ u0 u1 u2 u3 u4 u5, e = .returned (.agg #[u0, u1, u2, u3, u4, u5]) ∧ w'.ownsRow w.heap.size 186 4 u0 (adrX (valueS l fs nmFrom)).length (adxCells (adrX (valueS l fs nmFrom))) ∧ w'.ownsRow w.heap.size 186 4 u1 (orX (adrX (valueS l fs nmSender)) (adrX (valueS l fs nmFrom))).length (adxCells (orX (adrX (valueS l fs nmSender)) (adrX (valueS l fs nmFrom)))) ∧ w'.ownsRow w.heap.size 186 4 u2 (orX (adrX (valueS l fs nmReplyTo)) (adrX (valueS l fs nmFrom))).length (adxCells (orX (adrX (valueS l fs nmReplyTo)) (adrX (valueS l fs nmFrom)))) ∧ w'.ownsRow w.heap.size 186 4 u3 (adrX (valueS l fs nmTo)).length (adxCells (adrX (valueS l fs nmTo))) ∧ w'.ownsRow w.heap.size 186 4 u4 (adrX (valueS l fs nmCc)).length (adxCells (adrX (valueS l fs nmCc))) ∧ w'.ownsRow w.heap.size 186 4 u5 (adrX (valueS l fs nmBcc)).length (adxCells (adrX (valueS l fs nmBcc))) ∧ Below w.heap.size w w'
set_option maxRecDepth 100000 in
set_option maxHeartbeats 8000000 in
theorem elists_any (v vf : Value) (l : List UInt8) (fs : List Fld) (w : World) (hv : bytesArg w v l) (hbig : l.length ≤ 1048576) (hf : rowF w vf fs) (hs : shortF fs) :
    Calls Tryz.prog 94 #[v, vf] w (listsPost l fs w) := by
  unfold listsPost
  have HV := Lib.hid hv
  have HF := Lib.hid hf
  have HVa0 := Lib.hid (fun W (hb : Below w.heap.size w W) => value_any v vf l fs ⟨#[102, 114, 111, 109]⟩ W (HV.out.below hb) hbig (HF.out.below hb) hs)
  obtain ⟨S0, hS0⟩ : ∃ S : ByteArray, S = ⟨(valueS l fs (⟨#[102, 114, 111, 109]⟩ : ByteArray).data.toList).toArray⟩ := ⟨_, rfl⟩
  rw [← hS0] at HVa0
  have hSz0 : S0.size ≤ 1048576 := by
    have := valueS_short l fs (⟨#[102, 114, 111, 109]⟩ : ByteArray).data.toList
    rw [← len_toList, hS0]
    exact Nat.le_trans this hbig
  have HLs0 := Lib.hid (fun W => list_x S0 W (by omega))
  have hLn0 := adrX_len S0.data.toList
  rw [len_toList] at hLn0
  obtain ⟨L0, hL0⟩ : ∃ L, L = adrX S0.data.toList := ⟨_, rfl⟩
  rw [← hL0] at HLs0 hLn0
  have HE0 : Hid (adrX (valueS l fs nmFrom) = L0) := by unfold Hid; rw [hL0, hS0]; rfl
  rw [HE0.out]
  clear hS0 hL0
  have HVa1 := Lib.hid (fun W (hb : Below w.heap.size w W) => value_any v vf l fs ⟨#[115, 101, 110, 100, 101, 114]⟩ W (HV.out.below hb) hbig (HF.out.below hb) hs)
  obtain ⟨S1, hS1⟩ : ∃ S : ByteArray, S = ⟨(valueS l fs (⟨#[115, 101, 110, 100, 101, 114]⟩ : ByteArray).data.toList).toArray⟩ := ⟨_, rfl⟩
  rw [← hS1] at HVa1
  have hSz1 : S1.size ≤ 1048576 := by
    have := valueS_short l fs (⟨#[115, 101, 110, 100, 101, 114]⟩ : ByteArray).data.toList
    rw [← len_toList, hS1]
    exact Nat.le_trans this hbig
  have HLs1 := Lib.hid (fun W => list_x S1 W (by omega))
  have hLn1 := adrX_len S1.data.toList
  rw [len_toList] at hLn1
  obtain ⟨L1, hL1⟩ : ∃ L, L = adrX S1.data.toList := ⟨_, rfl⟩
  rw [← hL1] at HLs1 hLn1
  have HE1 : Hid (adrX (valueS l fs nmSender) = L1) := by unfold Hid; rw [hL1, hS1]; rfl
  rw [HE1.out]
  clear hS1 hL1
  have HVa2 := Lib.hid (fun W (hb : Below w.heap.size w W) => value_any v vf l fs ⟨#[114, 101, 112, 108, 121, 45, 116, 111]⟩ W (HV.out.below hb) hbig (HF.out.below hb) hs)
  obtain ⟨S2, hS2⟩ : ∃ S : ByteArray, S = ⟨(valueS l fs (⟨#[114, 101, 112, 108, 121, 45, 116, 111]⟩ : ByteArray).data.toList).toArray⟩ := ⟨_, rfl⟩
  rw [← hS2] at HVa2
  have hSz2 : S2.size ≤ 1048576 := by
    have := valueS_short l fs (⟨#[114, 101, 112, 108, 121, 45, 116, 111]⟩ : ByteArray).data.toList
    rw [← len_toList, hS2]
    exact Nat.le_trans this hbig
  have HLs2 := Lib.hid (fun W => list_x S2 W (by omega))
  have hLn2 := adrX_len S2.data.toList
  rw [len_toList] at hLn2
  obtain ⟨L2, hL2⟩ : ∃ L, L = adrX S2.data.toList := ⟨_, rfl⟩
  rw [← hL2] at HLs2 hLn2
  have HE2 : Hid (adrX (valueS l fs nmReplyTo) = L2) := by unfold Hid; rw [hL2, hS2]; rfl
  rw [HE2.out]
  clear hS2 hL2
  have HVa3 := Lib.hid (fun W (hb : Below w.heap.size w W) => value_any v vf l fs ⟨#[116, 111]⟩ W (HV.out.below hb) hbig (HF.out.below hb) hs)
  obtain ⟨S3, hS3⟩ : ∃ S : ByteArray, S = ⟨(valueS l fs (⟨#[116, 111]⟩ : ByteArray).data.toList).toArray⟩ := ⟨_, rfl⟩
  rw [← hS3] at HVa3
  have hSz3 : S3.size ≤ 1048576 := by
    have := valueS_short l fs (⟨#[116, 111]⟩ : ByteArray).data.toList
    rw [← len_toList, hS3]
    exact Nat.le_trans this hbig
  have HLs3 := Lib.hid (fun W => list_x S3 W (by omega))
  have hLn3 := adrX_len S3.data.toList
  rw [len_toList] at hLn3
  obtain ⟨L3, hL3⟩ : ∃ L, L = adrX S3.data.toList := ⟨_, rfl⟩
  rw [← hL3] at HLs3 hLn3
  have HE3 : Hid (adrX (valueS l fs nmTo) = L3) := by unfold Hid; rw [hL3, hS3]; rfl
  rw [HE3.out]
  clear hS3 hL3
  have HVa4 := Lib.hid (fun W (hb : Below w.heap.size w W) => value_any v vf l fs ⟨#[99, 99]⟩ W (HV.out.below hb) hbig (HF.out.below hb) hs)
  obtain ⟨S4, hS4⟩ : ∃ S : ByteArray, S = ⟨(valueS l fs (⟨#[99, 99]⟩ : ByteArray).data.toList).toArray⟩ := ⟨_, rfl⟩
  rw [← hS4] at HVa4
  have hSz4 : S4.size ≤ 1048576 := by
    have := valueS_short l fs (⟨#[99, 99]⟩ : ByteArray).data.toList
    rw [← len_toList, hS4]
    exact Nat.le_trans this hbig
  have HLs4 := Lib.hid (fun W => list_x S4 W (by omega))
  have hLn4 := adrX_len S4.data.toList
  rw [len_toList] at hLn4
  obtain ⟨L4, hL4⟩ : ∃ L, L = adrX S4.data.toList := ⟨_, rfl⟩
  rw [← hL4] at HLs4 hLn4
  have HE4 : Hid (adrX (valueS l fs nmCc) = L4) := by unfold Hid; rw [hL4, hS4]; rfl
  rw [HE4.out]
  clear hS4 hL4
  have HVa5 := Lib.hid (fun W (hb : Below w.heap.size w W) => value_any v vf l fs ⟨#[98, 99, 99]⟩ W (HV.out.below hb) hbig (HF.out.below hb) hs)
  obtain ⟨S5, hS5⟩ : ∃ S : ByteArray, S = ⟨(valueS l fs (⟨#[98, 99, 99]⟩ : ByteArray).data.toList).toArray⟩ := ⟨_, rfl⟩
  rw [← hS5] at HVa5
  have hSz5 : S5.size ≤ 1048576 := by
    have := valueS_short l fs (⟨#[98, 99, 99]⟩ : ByteArray).data.toList
    rw [← len_toList, hS5]
    exact Nat.le_trans this hbig
  have HLs5 := Lib.hid (fun W => list_x S5 W (by omega))
  have hLn5 := adrX_len S5.data.toList
  rw [len_toList] at hLn5
  obtain ⟨L5, hL5⟩ : ∃ L, L = adrX S5.data.toList := ⟨_, rfl⟩
  rw [← hL5] at HLs5 hLn5
  have HE5 : Hid (adrX (valueS l fs nmBcc) = L5) := by unfold Hid; rw [hL5, hS5]; rfl
  rw [HE5.out]
  clear hS5 hL5
  clear hv hf
  obtain ⟨X, hX⟩ : ∃ X, X = (w.alloc (.cells #[.slice none 0 0, .slice none 0 0, .slice none 0 0, .slice none 0 0, .slice none 0 0, .slice none 0 0] 126)).alloc (.cells #[.slice none 0 0, .slice none 0 0, .slice none 0 0, .slice none 0 0, .slice none 0 0, .slice none 0 0] 126) := ⟨_, rfl⟩
  obtain ⟨A, hA⟩ : ∃ A, A = w.heap.size := ⟨_, rfl⟩
  have HS0 : Hid (St6 w X A (.slice none 0 0) (.slice none 0 0) (.slice none 0 0) (.slice none 0 0) (.slice none 0 0) (.slice none 0 0) [] [] [] [] [] []) :=
    ⟨hA, by rw [hX]; exact ((Below.refl _ _).alloc (Nat.le_refl _) _).alloc (by simp) _, by rw [hX, hA]; exact heap_alloc2_old _ _ _, by rw [hX, hA]; exact heap_alloc2_new _ _ _, World.ownsRow_nil _ _ _ _, World.ownsRow_nil _ _ _ _, World.ownsRow_nil _ _ _ _, World.ownsRow_nil _ _ _ _, World.ownsRow_nil _ _ _ _, World.ownsRow_nil _ _ _ _⟩
  have HX := Lib.hid hX
  have HA := Lib.hid hA
  clear hX hA
  go_enter Tryz.func94, Tryz.ntmps94
  go_wp2_with fail
  rw [← HX.out, ← HA.out]
  clear HX
  obtain ⟨ix0, ix1, ix2, ix3, ix4, ix5⟩ := index_tx6 (.string ⟨#[102, 114, 111, 109]⟩) (.string ⟨#[115, 101, 110, 100, 101, 114]⟩) (.string ⟨#[114, 101, 112, 108, 121, 45, 116, 111]⟩) (.string ⟨#[116, 111]⟩) (.string ⟨#[99, 99]⟩) (.string ⟨#[98, 99, 99]⟩)
  refine wp_loop_rounds 7 ?_
  rw [rounds_succ]
  go_wp2_with fail
  with_reducible refine (HVa0.out _ HS0.out.hb).mono ?_
  rintro e w1 ⟨rfl, hb1⟩
  have HT1 := Lib.hid (HS0.out.below hb1)
  clear hb1 HS0 HVa0
  go_wp2_with fail
  with_reducible refine (HLs0.out _).mono ?_
  rintro e w2 ⟨a0, k0, b0, rfl, ho2, hb2⟩
  have HT2 := Lib.hid (HT1.out.below hb2)
  have HO2 := Lib.hid (own_base4 ho2 (by have := (Array.getElem?_eq_some_iff.1 HT1.out.arr).1; omega : A + 2 ≤ w1.heap.size))
  obtain ⟨_, _, _, _, _, _, _, _, _, _, _, _⟩ := HT2.out.c
  clear ho2 hb2 HT1 HLs0
  go_wp2_with fail
  have HS1 := Lib.hid (HT2.out.set0 HO2.out)
  clear HT2 HO2
  rename_i d0 e0 d1 e1 d2 e2 d3 e3 d4 e4 d5 e5
  clear d0 e0 d1 e1 d2 e2 d3 e3 d4 e4 d5 e5
  obtain ⟨Y1, hY⟩ : ∃ Y, Y = w2.setCell ⟨A + 1, 0, none⟩ (.slice a0 L0.length k0) := ⟨_, rfl⟩
  rw [← hY] at HS1 ⊢
  clear hY
  rw [rounds_succ]
  go_wp2_with fail
  with_reducible refine (HVa1.out _ HS1.out.hb).mono ?_
  rintro e w1 ⟨rfl, hb1⟩
  have HT1 := Lib.hid (HS1.out.below hb1)
  clear hb1 HS1 HVa1
  go_wp2_with fail
  with_reducible refine (HLs1.out _).mono ?_
  rintro e w2 ⟨a1, k1, b1, rfl, ho2, hb2⟩
  have HT2 := Lib.hid (HT1.out.below hb2)
  have HO2 := Lib.hid (own_base4 ho2 (by have := (Array.getElem?_eq_some_iff.1 HT1.out.arr).1; omega : A + 2 ≤ w1.heap.size))
  obtain ⟨_, _, _, _, _, _, _, _, _, _, _, _⟩ := HT2.out.c
  clear ho2 hb2 HT1 HLs1
  go_wp2_with fail
  have HS2 := Lib.hid (HT2.out.set1 HO2.out)
  clear HT2 HO2
  rename_i d0 e0 d1 e1 d2 e2 d3 e3 d4 e4 d5 e5
  clear d0 e0 d1 e1 d2 e2 d3 e3 d4 e4 d5 e5
  obtain ⟨Y2, hY⟩ : ∃ Y, Y = w2.setCell ⟨A + 1, 1, none⟩ (.slice a1 L1.length k1) := ⟨_, rfl⟩
  rw [← hY] at HS2 ⊢
  clear hY
  rw [rounds_succ]
  go_wp2_with fail
  with_reducible refine (HVa2.out _ HS2.out.hb).mono ?_
  rintro e w1 ⟨rfl, hb1⟩
  have HT1 := Lib.hid (HS2.out.below hb1)
  clear hb1 HS2 HVa2
  go_wp2_with fail
  with_reducible refine (HLs2.out _).mono ?_
  rintro e w2 ⟨a2, k2, b2, rfl, ho2, hb2⟩
  have HT2 := Lib.hid (HT1.out.below hb2)
  have HO2 := Lib.hid (own_base4 ho2 (by have := (Array.getElem?_eq_some_iff.1 HT1.out.arr).1; omega : A + 2 ≤ w1.heap.size))
  obtain ⟨_, _, _, _, _, _, _, _, _, _, _, _⟩ := HT2.out.c
  clear ho2 hb2 HT1 HLs2
  go_wp2_with fail
  have HS3 := Lib.hid (HT2.out.set2 HO2.out)
  clear HT2 HO2
  rename_i d0 e0 d1 e1 d2 e2 d3 e3 d4 e4 d5 e5
  clear d0 e0 d1 e1 d2 e2 d3 e3 d4 e4 d5 e5
  obtain ⟨Y3, hY⟩ : ∃ Y, Y = w2.setCell ⟨A + 1, 2, none⟩ (.slice a2 L2.length k2) := ⟨_, rfl⟩
  rw [← hY] at HS3 ⊢
  clear hY
  rw [rounds_succ]
  go_wp2_with fail
  with_reducible refine (HVa3.out _ HS3.out.hb).mono ?_
  rintro e w1 ⟨rfl, hb1⟩
  have HT1 := Lib.hid (HS3.out.below hb1)
  clear hb1 HS3 HVa3
  go_wp2_with fail
  with_reducible refine (HLs3.out _).mono ?_
  rintro e w2 ⟨a3, k3, b3, rfl, ho2, hb2⟩
  have HT2 := Lib.hid (HT1.out.below hb2)
  have HO2 := Lib.hid (own_base4 ho2 (by have := (Array.getElem?_eq_some_iff.1 HT1.out.arr).1; omega : A + 2 ≤ w1.heap.size))
  obtain ⟨_, _, _, _, _, _, _, _, _, _, _, _⟩ := HT2.out.c
  clear ho2 hb2 HT1 HLs3
  go_wp2_with fail
  have HS4 := Lib.hid (HT2.out.set3 HO2.out)
  clear HT2 HO2
  rename_i d0 e0 d1 e1 d2 e2 d3 e3 d4 e4 d5 e5
  clear d0 e0 d1 e1 d2 e2 d3 e3 d4 e4 d5 e5
  obtain ⟨Y4, hY⟩ : ∃ Y, Y = w2.setCell ⟨A + 1, 3, none⟩ (.slice a3 L3.length k3) := ⟨_, rfl⟩
  rw [← hY] at HS4 ⊢
  clear hY
  rw [rounds_succ]
  go_wp2_with fail
  with_reducible refine (HVa4.out _ HS4.out.hb).mono ?_
  rintro e w1 ⟨rfl, hb1⟩
  have HT1 := Lib.hid (HS4.out.below hb1)
  clear hb1 HS4 HVa4
  go_wp2_with fail
  with_reducible refine (HLs4.out _).mono ?_
  rintro e w2 ⟨a4, k4, b4, rfl, ho2, hb2⟩
  have HT2 := Lib.hid (HT1.out.below hb2)
  have HO2 := Lib.hid (own_base4 ho2 (by have := (Array.getElem?_eq_some_iff.1 HT1.out.arr).1; omega : A + 2 ≤ w1.heap.size))
  obtain ⟨_, _, _, _, _, _, _, _, _, _, _, _⟩ := HT2.out.c
  clear ho2 hb2 HT1 HLs4
  go_wp2_with fail
  have HS5 := Lib.hid (HT2.out.set4 HO2.out)
  clear HT2 HO2
  rename_i d0 e0 d1 e1 d2 e2 d3 e3 d4 e4 d5 e5
  clear d0 e0 d1 e1 d2 e2 d3 e3 d4 e4 d5 e5
  obtain ⟨Y5, hY⟩ : ∃ Y, Y = w2.setCell ⟨A + 1, 4, none⟩ (.slice a4 L4.length k4) := ⟨_, rfl⟩
  rw [← hY] at HS5 ⊢
  clear hY
  rw [rounds_succ]
  go_wp2_with fail
  with_reducible refine (HVa5.out _ HS5.out.hb).mono ?_
  rintro e w1 ⟨rfl, hb1⟩
  have HT1 := Lib.hid (HS5.out.below hb1)
  clear hb1 HS5 HVa5
  go_wp2_with fail
  with_reducible refine (HLs5.out _).mono ?_
  rintro e w2 ⟨a5, k5, b5, rfl, ho2, hb2⟩
  have HT2 := Lib.hid (HT1.out.below hb2)
  have HO2 := Lib.hid (own_base4 ho2 (by have := (Array.getElem?_eq_some_iff.1 HT1.out.arr).1; omega : A + 2 ≤ w1.heap.size))
  obtain ⟨_, _, _, _, _, _, _, _, _, _, _, _⟩ := HT2.out.c
  clear ho2 hb2 HT1 HLs5
  go_wp2_with fail
  have HS6 := Lib.hid (HT2.out.set5 HO2.out)
  clear HT2 HO2
  rename_i d0 e0 d1 e1 d2 e2 d3 e3 d4 e4 d5 e5
  clear d0 e0 d1 e1 d2 e2 d3 e3 d4 e4 d5 e5
  obtain ⟨Y6, hY⟩ : ∃ Y, Y = w2.setCell ⟨A + 1, 5, none⟩ (.slice a5 L5.length k5) := ⟨_, rfl⟩
  rw [← hY] at HS6 ⊢
  clear hY
  rw [rounds_succ]
  go_wp2_with fail
  refine wp_loop_rounds 3 ?_
  obtain ⟨n0, hn0⟩ : ∃ n, n = L0.length := ⟨_, rfl⟩
  have HCl := Lib.hid (fun W (h : World.ownsRow W (A + 2) 186 4 (.slice a0 L0.length k0) L0.length (adxCells L0)) => cloneA_any (A + 2) a0 L0.length k0 L0 W h (by omega))
  by_cases h1 : L1 = []
  · have c1 : ((L1.length : Int) == 0) = true := by rw [h1]; rfl
    obtain ⟨d0, e0, d1, e1, d2, e2, d3, e3, d4, e4, d5, e5⟩ := HS6.out.c
    rw [rounds_succ]
    go_wp2_with fail
    with_reducible refine (HCl.out _ HS6.out.r0).mono ?_
    rintro e w3 ⟨b1, m1, rfl, ho, hb⟩
    have HT := Lib.hid (HS6.out.below hb)
    have HO := Lib.hid (own_base4 ho (by have := (Array.getElem?_eq_some_iff.1 HS6.out.arr).1; omega : A + 2 ≤ Y6.heap.size))
    obtain ⟨d0, e0, d1, e1, d2, e2, d3, e3, d4, e4, d5, e5⟩ := HT.out.c
    clear ho hb HS6
    go_wp2_with fail
    have HT1 := Lib.hid (HT.out.set1 HO.out)
    clear HT HO d0 e0 d1 e1 d2 e2 d3 e3 d4 e4 d5 e5
    obtain ⟨Z1, hZ⟩ : ∃ Y, Y = w3.setCell ⟨A + 1, 1, none⟩ (.slice b1 L0.length m1) := ⟨_, rfl⟩
    rw [← hZ] at HT1 ⊢
    clear hZ
    by_cases h2 : L2 = []
    · have c2 : ((L2.length : Int) == 0) = true := by rw [h2]; rfl
      obtain ⟨d0, e0, d1, e1, d2, e2, d3, e3, d4, e4, d5, e5⟩ := HT1.out.c
      rw [rounds_succ]
      go_wp2_with fail
      with_reducible refine (HCl.out _ HT1.out.r0).mono ?_
      rintro e w4 ⟨b2, m2, rfl, ho, hb⟩
      have HT := Lib.hid (HT1.out.below hb)
      have HO := Lib.hid (own_base4 ho (by have := (Array.getElem?_eq_some_iff.1 HT1.out.arr).1; omega : A + 2 ≤ Z1.heap.size))
      obtain ⟨d0, e0, d1, e1, d2, e2, d3, e3, d4, e4, d5, e5⟩ := HT.out.c
      clear ho hb HT1
      go_wp2_with fail
      have HT2 := Lib.hid (HT.out.set2 HO.out)
      clear HT HO d0 e0 d1 e1 d2 e2 d3 e3 d4 e4 d5 e5
      obtain ⟨Z2, hZ⟩ : ∃ Y, Y = w4.setCell ⟨A + 1, 2, none⟩ (.slice b2 L0.length m2) := ⟨_, rfl⟩
      rw [← hZ] at HT2 ⊢
      clear hZ
      obtain ⟨d0, _, d1, _, d2, _, d3, _, d4, _, d5, _⟩ := HT2.out.c
      have dr := HT2.out.res
      have g0 : Z2.frozen? ⟨A, 0, none⟩ = false := by simp [World.frozen?, dr]
      have G0 : Z2.cell? ⟨A, 0, none⟩ = some (.slice none 0 0) := by simp [World.cell?, dr]
      have g1 : Z2.frozen? ⟨A, 1, none⟩ = false := by simp [World.frozen?, dr]
      have G1 : Z2.cell? ⟨A, 1, none⟩ = some (.slice none 0 0) := by simp [World.cell?, dr]
      have g2 : Z2.frozen? ⟨A, 2, none⟩ = false := by simp [World.frozen?, dr]
      have G2 : Z2.cell? ⟨A, 2, none⟩ = some (.slice none 0 0) := by simp [World.cell?, dr]
      have g3 : Z2.frozen? ⟨A, 3, none⟩ = false := by simp [World.frozen?, dr]
      have G3 : Z2.cell? ⟨A, 3, none⟩ = some (.slice none 0 0) := by simp [World.cell?, dr]
      have g4 : Z2.frozen? ⟨A, 4, none⟩ = false := by simp [World.frozen?, dr]
      have G4 : Z2.cell? ⟨A, 4, none⟩ = some (.slice none 0 0) := by simp [World.cell?, dr]
      have g5 : Z2.frozen? ⟨A, 5, none⟩ = false := by simp [World.frozen?, dr]
      have G5 : Z2.cell? ⟨A, 5, none⟩ = some (.slice none 0 0) := by simp [World.cell?, dr]
      clear dr
      rw [rounds_succ]
      go_wp2_with fail
      have HZ := Lib.hid (lists_end HT2.out)
      refine bodyPost_ret (results_cell_row (P := Tryz.prog) Tryz.results94 _ _ A 126 _ (0, 0) _ rfl HZ.out.1 Tryz.underlying126 rfl (by kernel_rfl)) rfl ?_
      exact ⟨_, _, _, _, _, _, rfl, HZ.out.2.1, by unfold orX; rw [if_pos h1]; exact HZ.out.2.2.1, by unfold orX; rw [if_pos h2]; exact HZ.out.2.2.2.1, HZ.out.2.2.2.2.1, HZ.out.2.2.2.2.2.1, HZ.out.2.2.2.2.2.2.1, HZ.out.2.2.2.2.2.2.2⟩
    · have c2 : ((L2.length : Int) == 0) = false := beq_no (by have := List.length_pos_iff.2 h2; omega)
      obtain ⟨d0, e0, d1, e1, d2, e2, d3, e3, d4, e4, d5, e5⟩ := HT1.out.c
      rw [rounds_succ]
      go_wp2_with fail
      clear d0 e0 d1 e1 d2 e2 d3 e3 d4 e4 d5 e5
      obtain ⟨d0, _, d1, _, d2, _, d3, _, d4, _, d5, _⟩ := HT1.out.c
      have dr := HT1.out.res
      have g0 : Z1.frozen? ⟨A, 0, none⟩ = false := by simp [World.frozen?, dr]
      have G0 : Z1.cell? ⟨A, 0, none⟩ = some (.slice none 0 0) := by simp [World.cell?, dr]
      have g1 : Z1.frozen? ⟨A, 1, none⟩ = false := by simp [World.frozen?, dr]
      have G1 : Z1.cell? ⟨A, 1, none⟩ = some (.slice none 0 0) := by simp [World.cell?, dr]
      have g2 : Z1.frozen? ⟨A, 2, none⟩ = false := by simp [World.frozen?, dr]
      have G2 : Z1.cell? ⟨A, 2, none⟩ = some (.slice none 0 0) := by simp [World.cell?, dr]
      have g3 : Z1.frozen? ⟨A, 3, none⟩ = false := by simp [World.frozen?, dr]
      have G3 : Z1.cell? ⟨A, 3, none⟩ = some (.slice none 0 0) := by simp [World.cell?, dr]
      have g4 : Z1.frozen? ⟨A, 4, none⟩ = false := by simp [World.frozen?, dr]
      have G4 : Z1.cell? ⟨A, 4, none⟩ = some (.slice none 0 0) := by simp [World.cell?, dr]
      have g5 : Z1.frozen? ⟨A, 5, none⟩ = false := by simp [World.frozen?, dr]
      have G5 : Z1.cell? ⟨A, 5, none⟩ = some (.slice none 0 0) := by simp [World.cell?, dr]
      clear dr
      rw [rounds_succ]
      go_wp2_with fail
      have HZ := Lib.hid (lists_end HT1.out)
      refine bodyPost_ret (results_cell_row (P := Tryz.prog) Tryz.results94 _ _ A 126 _ (0, 0) _ rfl HZ.out.1 Tryz.underlying126 rfl (by kernel_rfl)) rfl ?_
      exact ⟨_, _, _, _, _, _, rfl, HZ.out.2.1, by unfold orX; rw [if_pos h1]; exact HZ.out.2.2.1, by unfold orX; rw [if_neg h2]; exact HZ.out.2.2.2.1, HZ.out.2.2.2.2.1, HZ.out.2.2.2.2.2.1, HZ.out.2.2.2.2.2.2.1, HZ.out.2.2.2.2.2.2.2⟩
  · have c1 : ((L1.length : Int) == 0) = false := beq_no (by have := List.length_pos_iff.2 h1; omega)
    obtain ⟨d0, e0, d1, e1, d2, e2, d3, e3, d4, e4, d5, e5⟩ := HS6.out.c
    rw [rounds_succ]
    go_wp2_with fail
    clear d0 e0 d1 e1 d2 e2 d3 e3 d4 e4 d5 e5
    by_cases h2 : L2 = []
    · have c2 : ((L2.length : Int) == 0) = true := by rw [h2]; rfl
      obtain ⟨d0, e0, d1, e1, d2, e2, d3, e3, d4, e4, d5, e5⟩ := HS6.out.c
      rw [rounds_succ]
      go_wp2_with fail
      with_reducible refine (HCl.out _ HS6.out.r0).mono ?_
      rintro e w4 ⟨b2, m2, rfl, ho, hb⟩
      have HT := Lib.hid (HS6.out.below hb)
      have HO := Lib.hid (own_base4 ho (by have := (Array.getElem?_eq_some_iff.1 HS6.out.arr).1; omega : A + 2 ≤ Y6.heap.size))
      obtain ⟨d0, e0, d1, e1, d2, e2, d3, e3, d4, e4, d5, e5⟩ := HT.out.c
      clear ho hb HS6
      go_wp2_with fail
      have HT2 := Lib.hid (HT.out.set2 HO.out)
      clear HT HO d0 e0 d1 e1 d2 e2 d3 e3 d4 e4 d5 e5
      obtain ⟨Z2, hZ⟩ : ∃ Y, Y = w4.setCell ⟨A + 1, 2, none⟩ (.slice b2 L0.length m2) := ⟨_, rfl⟩
      rw [← hZ] at HT2 ⊢
      clear hZ
      obtain ⟨d0, _, d1, _, d2, _, d3, _, d4, _, d5, _⟩ := HT2.out.c
      have dr := HT2.out.res
      have g0 : Z2.frozen? ⟨A, 0, none⟩ = false := by simp [World.frozen?, dr]
      have G0 : Z2.cell? ⟨A, 0, none⟩ = some (.slice none 0 0) := by simp [World.cell?, dr]
      have g1 : Z2.frozen? ⟨A, 1, none⟩ = false := by simp [World.frozen?, dr]
      have G1 : Z2.cell? ⟨A, 1, none⟩ = some (.slice none 0 0) := by simp [World.cell?, dr]
      have g2 : Z2.frozen? ⟨A, 2, none⟩ = false := by simp [World.frozen?, dr]
      have G2 : Z2.cell? ⟨A, 2, none⟩ = some (.slice none 0 0) := by simp [World.cell?, dr]
      have g3 : Z2.frozen? ⟨A, 3, none⟩ = false := by simp [World.frozen?, dr]
      have G3 : Z2.cell? ⟨A, 3, none⟩ = some (.slice none 0 0) := by simp [World.cell?, dr]
      have g4 : Z2.frozen? ⟨A, 4, none⟩ = false := by simp [World.frozen?, dr]
      have G4 : Z2.cell? ⟨A, 4, none⟩ = some (.slice none 0 0) := by simp [World.cell?, dr]
      have g5 : Z2.frozen? ⟨A, 5, none⟩ = false := by simp [World.frozen?, dr]
      have G5 : Z2.cell? ⟨A, 5, none⟩ = some (.slice none 0 0) := by simp [World.cell?, dr]
      clear dr
      rw [rounds_succ]
      go_wp2_with fail
      have HZ := Lib.hid (lists_end HT2.out)
      refine bodyPost_ret (results_cell_row (P := Tryz.prog) Tryz.results94 _ _ A 126 _ (0, 0) _ rfl HZ.out.1 Tryz.underlying126 rfl (by kernel_rfl)) rfl ?_
      exact ⟨_, _, _, _, _, _, rfl, HZ.out.2.1, by unfold orX; rw [if_neg h1]; exact HZ.out.2.2.1, by unfold orX; rw [if_pos h2]; exact HZ.out.2.2.2.1, HZ.out.2.2.2.2.1, HZ.out.2.2.2.2.2.1, HZ.out.2.2.2.2.2.2.1, HZ.out.2.2.2.2.2.2.2⟩
    · have c2 : ((L2.length : Int) == 0) = false := beq_no (by have := List.length_pos_iff.2 h2; omega)
      obtain ⟨d0, e0, d1, e1, d2, e2, d3, e3, d4, e4, d5, e5⟩ := HS6.out.c
      rw [rounds_succ]
      go_wp2_with fail
      clear d0 e0 d1 e1 d2 e2 d3 e3 d4 e4 d5 e5
      obtain ⟨d0, _, d1, _, d2, _, d3, _, d4, _, d5, _⟩ := HS6.out.c
      have dr := HS6.out.res
      have g0 : Y6.frozen? ⟨A, 0, none⟩ = false := by simp [World.frozen?, dr]
      have G0 : Y6.cell? ⟨A, 0, none⟩ = some (.slice none 0 0) := by simp [World.cell?, dr]
      have g1 : Y6.frozen? ⟨A, 1, none⟩ = false := by simp [World.frozen?, dr]
      have G1 : Y6.cell? ⟨A, 1, none⟩ = some (.slice none 0 0) := by simp [World.cell?, dr]
      have g2 : Y6.frozen? ⟨A, 2, none⟩ = false := by simp [World.frozen?, dr]
      have G2 : Y6.cell? ⟨A, 2, none⟩ = some (.slice none 0 0) := by simp [World.cell?, dr]
      have g3 : Y6.frozen? ⟨A, 3, none⟩ = false := by simp [World.frozen?, dr]
      have G3 : Y6.cell? ⟨A, 3, none⟩ = some (.slice none 0 0) := by simp [World.cell?, dr]
      have g4 : Y6.frozen? ⟨A, 4, none⟩ = false := by simp [World.frozen?, dr]
      have G4 : Y6.cell? ⟨A, 4, none⟩ = some (.slice none 0 0) := by simp [World.cell?, dr]
      have g5 : Y6.frozen? ⟨A, 5, none⟩ = false := by simp [World.frozen?, dr]
      have G5 : Y6.cell? ⟨A, 5, none⟩ = some (.slice none 0 0) := by simp [World.cell?, dr]
      clear dr
      rw [rounds_succ]
      go_wp2_with fail
      have HZ := Lib.hid (lists_end HS6.out)
      refine bodyPost_ret (results_cell_row (P := Tryz.prog) Tryz.results94 _ _ A 126 _ (0, 0) _ rfl HZ.out.1 Tryz.underlying126 rfl (by kernel_rfl)) rfl ?_
      exact ⟨_, _, _, _, _, _, rfl, HZ.out.2.1, by unfold orX; rw [if_neg h1]; exact HZ.out.2.2.1, by unfold orX; rw [if_neg h2]; exact HZ.out.2.2.2.1, HZ.out.2.2.2.2.1, HZ.out.2.2.2.2.2.1, HZ.out.2.2.2.2.2.2.1, HZ.out.2.2.2.2.2.2.2⟩
end Go.Proofs.YtkmgflnmffdhjaaGreatDoor
