/- The tree of a message in plain words. No program. -/
import Derived.Test.YtbphnlaoiikebaaGreatDoorGbHdrG
import Derived.Test.YtbphnlaoiikebaaGreatDoorGbParU
namespace Go.Proofs.YtbphnlaoiikebaaGreatDoor
open Go Go.RowKit

abbrev Sp := Nat × Nat
/-- A part: its kind, its header, its body, its kids, their delimiters, its close delimiter. -/
inductive Tr where
  | mk (kind : Nat) (hd bd : Sp) (kids : List Tr) (cuts : List Sp) (e : Sp)
def Tr.kind : Tr → Nat | .mk k _ _ _ _ _ => k
def Tr.hd : Tr → Sp | .mk _ h _ _ _ _ => h
def Tr.bd : Tr → Sp | .mk _ _ b _ _ _ => b
def Tr.kids : Tr → List Tr | .mk _ _ _ k _ _ => k
def Tr.cuts : Tr → List Sp | .mk _ _ _ _ c _ => c
def Tr.e : Tr → Sp | .mk _ _ _ _ _ e => e

/-- What a line is: 0 no delimiter, 1 one, 2 a close one. -/
def lkS (m0 t : List UInt8) : Nat :=
  if m0.isPrefixOf t then
    (if [45, 45].isPrefixOf (t.drop m0.length) then (if ((t.drop m0.length).drop 2).all blk then 2 else 0) else if (t.drop m0.length).all blk then 1 else 0)
  else 0
/-- The delimiters, and the close one. -/
def cutsS (l m0 : List UInt8) (bt : Nat) : Nat → List Ln → List Sp × Sp
  | _, [] => ([], (bt, bt))
  | fr, x :: r =>
    if lkS m0 (textOf l x) = 2 then ([], (fr, x.n))
    else if lkS m0 (textOf l x) = 1 then ((fr, x.n) :: (cutsS l m0 bt x.n r).1, (cutsS l m0 bt x.n r).2)
    else cutsS l m0 bt x.t r
theorem cutsS_nil (l m0 : List UInt8) (bt fr : Nat) : cutsS l m0 bt fr [] = ([], (bt, bt)) := rfl
theorem cutsS_close {l m0 : List UInt8} {bt fr : Nat} {x : Ln} {r : List Ln} (h : lkS m0 (textOf l x) = 2) : cutsS l m0 bt fr (x :: r) = ([], (fr, x.n)) := by rw [cutsS, if_pos h]
theorem cutsS_open {l m0 : List UInt8} {bt fr : Nat} {x : Ln} {r : List Ln} (h : lkS m0 (textOf l x) = 1) : cutsS l m0 bt fr (x :: r) = ((fr, x.n) :: (cutsS l m0 bt x.n r).1, (cutsS l m0 bt x.n r).2) := by
  rw [cutsS, if_neg (by rw [h]; decide), if_pos h]
theorem cutsS_other {l m0 : List UInt8} {bt fr : Nat} {x : Ln} {r : List Ln} (h2 : ¬ lkS m0 (textOf l x) = 2) (h1 : ¬ lkS m0 (textOf l x) = 1) : cutsS l m0 bt fr (x :: r) = cutsS l m0 bt x.t r := by rw [cutsS, if_neg h2, if_neg h1]
/-- Where the kids stand. -/
def kidsS : List Sp → Sp → List Sp
  | [], _ => []
  | [c], e => [(c.2, e.1)]
  | c :: d :: r, e => (c.2, d.1) :: kidsS (d :: r) e
theorem kidsS_len : ∀ (cs : List Sp) (e : Sp), (kidsS cs e).length = cs.length
  | [], _ => rfl
  | [_], _ => rfl
  | _ :: d :: r, e => by simp [kidsS, kidsS_len (d :: r) e]
def bdyN : List UInt8 := [98, 111, 117, 110, 100, 97, 114, 121]
def mulN : List UInt8 := [109, 117, 108, 116, 105, 112, 97, 114, 116]
def msgN : List UInt8 := [109, 101, 115, 115, 97, 103, 101]
def rfcN : List UInt8 := [114, 102, 99, 56, 50, 50]
def digN : List UInt8 := [100, 105, 103, 101, 115, 116]
def txtN : List UInt8 := [116, 101, 120, 116]
def plnN : List UInt8 := [112, 108, 97, 105, 110]
def ctyN : List UInt8 := [99, 111, 110, 116, 101, 110, 116, 45, 116, 121, 112, 101]
def cteN : List UInt8 := [99, 111, 110, 116, 101, 110, 116, 45, 116, 114, 97, 110, 115, 102, 101, 114, 45, 101, 110, 99, 111, 100, 105, 110, 103]
def bdOK (b : List UInt8) : Bool := !b.isEmpty && decide (b.length ≤ 70)
def boundS (ps : List Prm) : Option (List UInt8) := match getP ps bdyN with
  | some b => if bdOK b = true then some b else none
  | none => none
def typeS (l : List UInt8) (fs : List Fld) (dig : Bool) : Val := match parseL (valueS l fs ctyN) true with
  | some v => v
  | none => if dig = true then ⟨msgN, rfcN, []⟩ else ⟨txtN, plnN, []⟩
def bareB (v : List UInt8) : Bool := v.isEmpty || v == [55, 98, 105, 116] || v == [56, 98, 105, 116] || v == [98, 105, 110, 97, 114, 121]
def bareS (l : List UInt8) (fs : List Fld) : Bool := bareB (foldS (valueS l fs cteN))
/-- What an entity is of: its kind, delimiters, close delimiter, where its kids stand. -/
structure Pd where
  kind : Nat
  cuts : List Sp
  e : Sp
  kids : List Sp
def noPd : Pd := ⟨0, [], (0, 0), []⟩
def pdS (l : List UInt8) (fs : List Fld) (h t : Nat) (k : Val) : Pd :=
  if k.type = mulN then
    (match boundS k.params with
    | some b => ⟨1, (cutsS l (45 :: 45 :: b) t h (linesS l h t)).1, (cutsS l (45 :: 45 :: b) t h (linesS l h t)).2, kidsS (cutsS l (45 :: 45 :: b) t h (linesS l h t)).1 (cutsS l (45 :: 45 :: b) t h (linesS l h t)).2⟩
    | none => noPd)
  else if k.type = msgN ∧ k.sub = rfcN ∧ bareS l fs = true then ⟨2, [], (0, 0), [(h, t)]⟩ else noPd
def digS (k : Val) : Bool := k.type == mulN && k.sub == digN
def leafT (f h t : Nat) : Tr := .mk 0 (f, h) (h, t) [] [] (0, 0)
def kidsRun (F : Sp → Nat → Tr × Nat) : List Sp → Nat → List Tr × Nat
  | [], c => ([], c)
  | s :: r, c => ((F s c).1 :: (kidsRun F r (F s c).2).1, (kidsRun F r (F s c).2).2)
def fsOf (l : List UInt8) (f t : Nat) : List Fld := fieldsL l ((linesS l f t).take (eI (linesS l f t)))
def hdOf (l : List UInt8) (f t : Nat) : Nat := behindN (linesS l f t) t
/-- An entity, so many levels above the last that may be, and how many parts there are behind it. -/
def entS (l : List UInt8) : Nat → Sp → Bool → Nat → Tr × Nat
  | 0, s, _, c => (leafT s.1 (hdOf l s.1 s.2) s.2, c)
  | d + 1, s, g, c =>
    let k := typeS l (fsOf l s.1 s.2) g
    let p := pdS l (fsOf l s.1 s.2) (hdOf l s.1 s.2) s.2 k
    if p.kids = [] ∨ 1000 < c + p.kids.length then (leafT s.1 (hdOf l s.1 s.2) s.2, c)
    else (.mk p.kind (s.1, hdOf l s.1 s.2) (hdOf l s.1 s.2, s.2) (kidsRun (fun s' c' => entS l d s' (digS k) c') p.kids (c + p.kids.length)).1 p.cuts p.e,
      (kidsRun (fun s' c' => entS l d s' (digS k) c') p.kids (c + p.kids.length)).2)
def treeS (l : List UInt8) : Tr := (entS l 32 (0, l.length) false 1).1
mutual
def countT : Tr → Nat
  | .mk _ _ _ ks _ _ => 1 + countK ks
def countK : List Tr → Nat
  | [] => 0
  | t :: r => countT t + countK r
end
mutual
def deepT : Tr → Nat
  | .mk _ _ _ ks _ _ => deepK ks
def deepK : List Tr → Nat
  | [] => 0
  | t :: r => max (1 + deepT t) (deepK r)
end
end Go.Proofs.YtbphnlaoiikebaaGreatDoor

/- Plain: each name stands once. -/
namespace Go.Proofs.YtbphnlaoiikebaaGreatDoor
open Go Go.RowKit

def fineB (c : UInt8) : Bool := !(c == 42 || (decide (65 ≤ c.toNat) && decide (c.toNat ≤ 90)))
theorem fold_fine (l : List UInt8) : ∀ c ∈ foldS l, ¬ (65 ≤ c.toNat ∧ c.toNat ≤ 90) := by
  intro c hc
  obtain ⟨x, _, rfl⟩ := List.mem_map.1 hc
  rw [lowB_toNat]
  split <;> omega
theorem base_fine {l : List UInt8} (h : ∀ c ∈ l, ¬ (65 ≤ c.toNat ∧ c.toNat ≤ 90)) : (baseL l).all fineB = true := by
  rw [List.all_eq_true]
  intro c hc
  have h1 := h c ((List.takeWhile_sublist _).mem hc)
  have h2 : ∀ (l : List UInt8), ∀ c ∈ l.takeWhile (fun c => c != 42), (c != 42) = true := by
    intro l
    induction l with
    | nil => intro c hc; simp at hc
    | cons x l ih =>
      intro c hc
      rw [List.takeWhile_cons] at hc
      by_cases e : (x != 42) = true
      · rw [if_pos e] at hc
        rcases List.mem_cons.1 hc with rfl | hc
        · exact e
        · exact ih c hc
      · rw [if_neg e] at hc
        simp at hc
  have h3 := h2 l c hc
  have h4 : c ≠ 42 := by simpa using h3
  unfold fineB
  simp only [Bool.not_eq_true', Bool.or_eq_false_iff, Bool.and_eq_false_iff, decide_eq_false_iff_not, beq_eq_false_iff_ne]
  exact ⟨h4, by omega⟩
theorem pars_fine : ∀ (n : Nat) (l : List UInt8), ∀ p ∈ parsL n l, ∀ c ∈ p.1, ¬ (65 ≤ c.toNat ∧ c.toNat ≤ 90) := by
  intro n
  induction n with
  | zero => intro l p hp; simp [parsL] at hp
  | succ n ih =>
    intro l p hp
    have e : parsL (n + 1) l = match parL l with | none => [] | some (p, r) => p :: parsL n r := rfl
    rw [e] at hp
    cases h : parL l with
    | none => rw [h] at hp; simp at hp
    | some x =>
      obtain ⟨q, r⟩ := x
      rw [h] at hp
      simp only [List.mem_cons] at hp
      rcases hp with rfl | hp
      · unfold parL at h
        split at h
        · cases h
        · split at h
          · cases h
          · split at h
            · cases h
            · split at h
              · cases h
              · cases h
                exact fold_fine _
      · exact ih r p hp
theorem join_names (ps : List Prm) : ∀ (t : List Prm) (pre : List (List UInt8)), (∀ q ∈ joinA ps pre t, q.1 ≠ [] ∧ q.1 ∉ pre ∧ ∃ p ∈ t, q.1 = baseL p.1) ∧ (joinA ps pre t).Pairwise (fun p q => p.1 ≠ q.1) := by
  intro t
  induction t with
  | nil => intro pre; exact ⟨fun q hq => by simp [joinA] at hq, List.Pairwise.nil⟩
  | cons p t ih =>
    intro pre
    have ih' := ih (baseL p.1 :: pre)
    have e : joinA ps pre (p :: t) = if baseL p.1 = [] ∨ baseL p.1 ∈ pre then joinA ps (baseL p.1 :: pre) t else match toldL ps (baseL p.1) with | some v => (baseL p.1, v) :: joinA ps (baseL p.1 :: pre) t | none => joinA ps (baseL p.1 :: pre) t := rfl
    rw [e]
    have wk : ∀ q ∈ joinA ps (baseL p.1 :: pre) t, q.1 ≠ [] ∧ q.1 ∉ pre ∧ ∃ x ∈ p :: t, q.1 = baseL x.1 := fun q hq => by
      obtain ⟨h1, h2, x, hx, h3⟩ := ih'.1 q hq
      exact ⟨h1, fun h => h2 (List.mem_cons_of_mem _ h), x, List.mem_cons_of_mem _ hx, h3⟩
    split
    · exact ⟨wk, ih'.2⟩
    · next hn =>
      have hn1 : ¬ baseL p.1 = [] := fun h => hn (.inl h)
      have hn2 : ¬ baseL p.1 ∈ pre := fun h => hn (.inr h)
      split
      · next v hv =>
        refine ⟨fun q hq => ?_, ?_⟩
        · rcases List.mem_cons.1 hq with rfl | hq
          · exact ⟨hn1, hn2, p, by simp, rfl⟩
          · exact wk q hq
        · refine List.pairwise_cons.2 ⟨fun q hq => ?_, ih'.2⟩
          have := (ih'.1 q hq).2.1
          intro e
          exact this (by rw [← e]; simp)
      · exact ⟨wk, ih'.2⟩
structure Once (V : Val) (two : Bool) : Prop where
  type : V.type ≠ []
  sub : (V.sub.isEmpty = !two)
  name : ∀ q ∈ V.params, q.1 ≠ [] ∧ q.1.all fineB = true
  once : V.params.Pairwise (fun p q => p.1 ≠ q.1)
theorem fold_ne {l : List UInt8} (h : l ≠ []) : foldS l ≠ [] := by cases l with | nil => exact absurd rfl h | cons a b => simp [foldS]
theorem join_once (n : Nat) (l : List UInt8) : (∀ q ∈ joinL (parsL n l), q.1 ≠ [] ∧ q.1.all fineB = true) ∧ (joinL (parsL n l)).Pairwise (fun p q => p.1 ≠ q.1) := by
  have h := join_names (parsL n l) (parsL n l) []
  refine ⟨fun q hq => ?_, h.2⟩
  obtain ⟨h1, _, p, hp, h3⟩ := h.1 q hq
  exact ⟨h1, by rw [h3]; exact base_fine (pars_fine n l p hp)⟩
theorem parse_once {l : List UInt8} {two : Bool} {V : Val} (h : parseL l two = some V) : Once V two := by
  unfold parseL at h
  split at h
  · cases h
  · next h1 =>
    cases two with
    | false =>
      simp only [Bool.false_eq_true, if_false] at h
      cases h
      exact ⟨fold_ne h1, rfl, (join_once _ _).1, (join_once _ _).2⟩
    | true =>
      simp only [if_true] at h
      split at h
      · cases h
      · next u r hs =>
        cases h
        refine ⟨fold_ne h1, ?_, (join_once _ _).1, (join_once _ _).2⟩
        unfold subL at hs
        split at hs
        · cases hs
        · split at hs
          · cases hs
          · next h2 =>
            cases hs
            have := fold_ne h2
            show (foldS _).isEmpty = false
            cases hx : foldS (tokenL _).1 with
            | nil => exact absurd hx this
            | cons a b => rfl
end Go.Proofs.YtbphnlaoiikebaaGreatDoor

/- How long what a parameter is told by may be. No program. -/
namespace Go.Proofs.YtbphnlaoiikebaaGreatDoor
open Go Go.RowKit

theorem baseL_len (l : List UInt8) : (baseL l).length ≤ l.length := (List.takeWhile_sublist _).length_le
theorem tokenL_rest (l : List UInt8) : (tokenL l).2.length ≤ l.length := by
  show ((sk l).drop _).length ≤ _
  rw [List.length_drop]
  exact Nat.le_trans (Nat.sub_le _ _) (skL_le l false 0)
theorem takeL_rest {c : UInt8} {l r : List UInt8} (h : takeL c l = some r) : r.length ≤ l.length := by
  have hs := skL_le l false 0
  have hs' : (sk l).length ≤ l.length := hs
  unfold takeL at h
  split at h
  · next x r' hx =>
    rw [hx] at hs'
    split at h
    · cases h
      simp at hs'
      omega
    · cases h
  · cases h
theorem joinL_short (n : Nat) (l : List UInt8) : ∀ q ∈ joinL (parsL n l), q.1.length ≤ l.length := by
  intro q hq
  obtain ⟨_, _, p, hp, h3⟩ := (join_names (parsL n l) (parsL n l) []).1 q hq
  rw [h3]
  exact Nat.le_trans (baseL_len _) (parsL_small n l p hp).1
theorem parse_short {l : List UInt8} {two : Bool} {V : Val} (h : parseL l two = some V) : ∀ q ∈ V.params, q.1.length ≤ l.length := by
  have ht := tokenL_rest l
  unfold parseL at h
  split at h
  · cases h
  · cases two with
    | false =>
      simp only [Bool.false_eq_true, if_false] at h
      cases h
      exact fun q hq => Nat.le_trans (joinL_short _ _ q hq) ht
    | true =>
      simp only [if_true] at h
      split at h
      · cases h
      · next u r hs =>
        cases h
        unfold subL at hs
        split at hs
        · cases hs
        · next r0 h0 =>
          split at hs
          · cases hs
          · cases hs
            have h1 := takeL_rest h0
            have h2 := tokenL_rest r0
            exact fun q hq => Nat.le_trans (joinL_short _ _ q hq) (by omega)

end Go.Proofs.YtbphnlaoiikebaaGreatDoor

/- How long what a header's fields tell may be. No program. -/
namespace Go.Proofs.YtbphnlaoiikebaaGreatDoor
open Go Go.RowKit

theorem textsL_chain (l : List UInt8) : ∀ (ls : List Ln) (a b : Nat), chainL a b ls → b ≤ l.length → (textsL l ls).length ≤ b - a
  | [], _, _, _, _ => Nat.zero_le _
  | x :: r, a, b, h, hb => by
    obtain ⟨h1, h2, h3, h4⟩ := h
    have ih := textsL_chain l r x.n b h4 hb
    have hle := chainL_le h4
    have hx := textOf_len (l := l) (x := x) (by omega)
    have e : (textsL l (x :: r)).length = (textOf l x).length + (textsL l r).length := by simp [textsL]
    omega
theorem trimS_short (l : List UInt8) : (trimS l).length ≤ l.length := by
  obtain ⟨a, b, e, _⟩ := trim_parts l
  have := congrArg List.length e
  simp only [List.length_append] at this
  omega
theorem bodyS_short (l : List UInt8) (b t : Int) : (bodyS l b t).length ≤ l.length := by
  have h1 := trimS_short (textsL l (linesZ l b t))
  unfold bodyS
  unfold linesZ at h1 ⊢
  split at h1
  · next h =>
    rw [if_pos h]
    have hw := of_decide_eq_true h
    have := textsL_chain l _ _ _ (chainL_lines l _ b.toNat t.toNat (Nat.le_refl _) (by omega) (by omega)) (by omega)
    omega
  · next h =>
    rw [if_neg h]
    have e : textsL l [] = [] := rfl
    have e2 : trimS [] = [] := rfl
    rw [e, e2]
    exact Nat.zero_le _
theorem valueS_short (l : List UInt8) (fs : List Fld) (nm : List UInt8) : (valueS l fs nm).length ≤ l.length := by
  unfold valueS
  split
  · exact bodyS_short l _ _
  · exact Nat.zero_le _
theorem foldS_len' (l : List UInt8) : (foldS l).length = l.length := by simp [foldS]
theorem hdOf_le (l : List UInt8) {f t : Nat} (hft : f ≤ t) (htl : t ≤ l.length) : f ≤ hdOf l f t ∧ hdOf l f t ≤ t := by
  have hc := chainL_lines l _ f t (Nat.le_refl _) hft htl
  unfold hdOf behindN
  split
  · next h =>
    have h1 := chainL_at _ h hc
    exact ⟨by omega, h1.2.2.2⟩
  · exact ⟨hft, Nat.le_refl _⟩
theorem fsOf_chain (l : List UInt8) {f t : Nat} (hft : f ≤ t) (htl : t ≤ l.length) : chainF l f (hdOf l f t) (fsOf l f t) := by
  have hc := chainL_lines l _ f t (Nat.le_refl _) hft htl
  have hb := (hdOf_le l hft htl).2
  refine fieldsL_chain l (by omega) ?_
  unfold hdOf behindN
  split
  · next h => exact chainL_head _ h hc
  · exact chainL_take _ hc
theorem fsOf_short (l : List UInt8) {f t : Nat} (hft : f ≤ t) (htl : t ≤ l.length) (hbig : l.length ≤ 1000000) : shortF (fsOf l f t) := fun x hx => by
  have h := chainF_all (fsOf_chain l hft htl) x hx
  have hb := (hdOf_le l hft htl).2
  have := h.1.2.2.2.1
  omega
theorem typeS_short (l : List UInt8) (fs : List Fld) (g : Bool) (hbig : l.length ≤ 1000000) : small1 (typeS l fs g).params := by
  unfold typeS
  have hv := valueS_short l fs ctyN
  cases hp : parseL (valueS l fs ctyN) true with
  | some V => exact fun p hp' => Nat.le_trans (parse_short hp p hp') (by omega)
  | none =>
    cases g
    · exact fun p hp' => by cases hp'
    · exact fun p hp' => by cases hp'
end Go.Proofs.YtbphnlaoiikebaaGreatDoor
