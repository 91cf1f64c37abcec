/- Plain: addresses: the pieces of a text, and what they make. -/
import Derived.Test.YtjlcphofkepajaaGreatParM
import Derived.Lib.Bytealg
import Derived.Lib.Join
namespace Go.Proofs.YtjlcphofkepajaaGreat
open Go Go.RowKit

/-! ### Pieces -/
def signB (c : UInt8) : Bool := c == 60 || c == 62 || c == 58 || c == 59 || c == 44 || c == 64
def partB (c : UInt8) : Bool := c == 40 || c == 41 || c == 34
def wordB (c : UInt8) : Bool := decide (32 < c.toNat) && (decide (c.toNat ≠ 127) && (!signB c && !partB c))
def preA (c : UInt8) (o : Option (List UInt8 × List UInt8)) : Option (List UInt8 × List UInt8) := o.map (fun p => (c :: p.1, p.2))
/-- A word that isn't quoted, within '[' and ']' or not: it, and what is behind it. -/
def bareA : Bool → List UInt8 → Option (List UInt8 × List UInt8)
  | false, [] => some ([], [])
  | true, [] => none
  | true, c :: l => preA c (bareA (c != 93) l)
  | false, c :: l => if c = 91 then preA c (bareA true l) else if wordB c then preA c (bareA false l) else some ([], c :: l)
theorem bareA_app : ∀ (l : List UInt8) (e : Bool) (w r : List UInt8), bareA e l = some (w, r) → l = w ++ r := by
  have step : ∀ (c : UInt8) (l : List UInt8) (o : Option (List UInt8 × List UInt8)) (w r : List UInt8), preA c o = some (w, r) → (∀ w r, o = some (w, r) → l = w ++ r) → c :: l = w ++ r := by
    intro c l o w r h ih
    cases o with
    | none => cases h
    | some p =>
      obtain ⟨w', r'⟩ := p
      have := ih w' r' rfl
      unfold preA at h
      cases h
      rw [this]
      rfl
  intro l
  induction l with
  | nil => intro e w r h; cases e <;> cases h; rfl
  | cons c l ih =>
    intro e w r h
    cases e
    · unfold bareA at h
      split at h
      · exact step _ _ _ _ _ h (ih _)
      · split at h
        · exact step _ _ _ _ _ h (ih _)
        · cases h; rfl
    · exact step _ _ _ _ _ h (ih _)
theorem index_93 : ∀ l : List UInt8, (Lib.indexByte l 93 = -1 ∧ bareA true l = none) ∨
    ∃ n : Nat, Lib.indexByte l 93 = (n : Int) ∧ n < l.length ∧ bareA true l = (bareA false (l.drop (n + 1))).map (fun p => (l.take (n + 1) ++ p.1, p.2)) := by
  intro l
  induction l with
  | nil => exact .inl ⟨rfl, rfl⟩
  | cons c l ih =>
    by_cases hc : c = 93
    · subst hc
      refine .inr ⟨0, rfl, by simp, ?_⟩
      show preA 93 (bareA false l) = _
      unfold preA
      simp
    · have e1 : (c == 93) = false := by simpa using hc
      have e2 : bareA true (c :: l) = preA c (bareA true l) := by
        show preA c (bareA (c != 93) l) = _
        rw [show (c != 93) = true by simpa using hc]
      rcases ih with ⟨h1, h2⟩ | ⟨n, h1, h2, h3⟩
      · left
        refine ⟨?_, by rw [e2, h2]; rfl⟩
        unfold Lib.indexByte
        rw [e1, h1]
        rfl
      · right
        refine ⟨n + 1, ?_, by simpa using h2, ?_⟩
        · unfold Lib.indexByte
          rw [e1, h1, if_neg (by simp), if_neg (by simp)]
          rfl
        · rw [e2, h3]
          unfold preA
          rw [Option.map_map]
          rfl

inductive Tok where
  | sgn (c : UInt8)
  | wrd (w : List UInt8)
inductive Pc where
  | tok (t : Tok) (r : List UInt8)
  | fin (b : Bool)
/-- The piece at the beginning of a text. -/
def pcL : List UInt8 → Pc
  | [] => .fin true
  | c :: r =>
    if signB c then .tok (.sgn c) r
    else if c = 34 then (match unqL false [] r with | some (v, q) => .tok (.wrd v) q | none => .fin false)
    else (match bareA false (c :: r) with | some (w, q) => if w = [] then .fin false else .tok (.wrd w) q | none => .fin false)
def toksF : Nat → List UInt8 → List Tok × Bool
  | 0, _ => ([], false)
  | n + 1, l => match pcL (sk l) with
    | .tok t r => (t :: (toksF n r).1, (toksF n r).2)
    | .fin b => ([], b)
/-- A text's pieces; whether there is nothing left behind them. -/
def toksA (l : List UInt8) : List Tok × Bool := toksF (l.length + 1) l
def tokW : Tok → Nat
  | .sgn _ => 1
  | .wrd w => w.length + 1
def wt (ts : List Tok) : Nat := (ts.map tokW).sum
theorem wt_cons (t : Tok) (ts : List Tok) : wt (t :: ts) = tokW t + wt ts := by simp [wt]
theorem unqL_wt : ∀ (l acc : List UInt8) (e : Bool) (v r : List UInt8), unqL e acc l = some (v, r) → v.length + r.length + 1 ≤ acc.length + l.length := by
  intro l
  induction l with
  | nil => intro acc e v r h; cases e <;> simp [unqL] at h
  | cons c l ih =>
    intro acc e v r h
    cases e
    · unfold unqL at h
      split at h
      · cases h; simp; omega
      · split at h
        · have := ih _ _ _ _ h; simp; omega
        · have := ih _ _ _ _ h; simp at this; simp; omega
    · have := ih _ _ _ _ h; simp at this; simp; omega
theorem pcL_cons (c : UInt8) (r : List UInt8) : pcL (c :: r) = if signB c then .tok (.sgn c) r
    else if c = 34 then (match unqL false [] r with | some (v, q) => .tok (.wrd v) q | none => .fin false)
    else (match bareA false (c :: r) with | some (w, q) => if w = [] then .fin false else .tok (.wrd w) q | none => .fin false) := rfl
theorem pcL_wt {l r : List UInt8} {t : Tok} (h : pcL l = .tok t r) : tokW t + 2 * r.length ≤ 2 * l.length ∧ r.length < l.length := by
  cases l with
  | nil => cases h
  | cons c q =>
    rw [pcL_cons] at h
    rw [List.length_cons]
    by_cases hs : signB c = true
    · rw [if_pos hs] at h
      cases h
      simp only [tokW]
      omega
    · rw [if_neg hs] at h
      by_cases hc : c = 34
      · rw [if_pos hc] at h
        cases hu : unqL false [] q with
        | none => rw [hu] at h; cases h
        | some p =>
          obtain ⟨v, q'⟩ := p
          rw [hu] at h
          cases h
          have := unqL_wt _ _ _ _ _ hu
          simp only [List.length_nil] at this
          simp only [tokW]
          omega
      · rw [if_neg hc] at h
        cases hu : bareA false (c :: q) with
        | none => rw [hu] at h; cases h
        | some p =>
          obtain ⟨w, q'⟩ := p
          rw [hu] at h
          simp only at h
          by_cases hw : w = []
          · rw [if_pos hw] at h; cases h
          · rw [if_neg hw] at h
            cases h
            have e2 := bareA_app _ _ _ _ hu
            have h1 : (c :: q).length = w.length + r.length := by rw [e2]; simp
            have h2 : 0 < w.length := List.length_pos_iff.2 hw
            rw [List.length_cons] at h1
            simp only [tokW]
            omega
theorem sk_le (l : List UInt8) : (sk l).length ≤ l.length := skL_le l false 0
theorem toksF_same : ∀ (n m : Nat) (l : List UInt8), l.length < n → l.length < m → toksF n l = toksF m l := by
  intro n
  induction n with
  | zero => intro m l h; omega
  | succ n ih =>
    intro m l h1 h2
    cases m with
    | zero => omega
    | succ m =>
      unfold toksF
      have hs := sk_le l
      split
      · next t r e =>
        have := (pcL_wt e).2
        rw [ih m r (by omega) (by omega)]
      · rfl
theorem toksA_tok {l r : List UInt8} {t : Tok} (h : pcL (sk l) = .tok t r) : toksA l = (t :: (toksA r).1, (toksA r).2) := by
  have hs := sk_le l
  have := (pcL_wt h).2
  unfold toksA
  rw [show toksF (l.length + 1) l = (t :: (toksF l.length r).1, (toksF l.length r).2) by
    show (match pcL (sk l) with | .tok t r => (t :: (toksF l.length r).1, (toksF l.length r).2) | .fin b => ([], b)) = _
    rw [h], toksF_same l.length (r.length + 1) r (by omega) (by omega)]
theorem toksA_fin {l : List UInt8} {b : Bool} (h : pcL (sk l) = .fin b) : toksA l = ([], b) := by
  show (match pcL (sk l) with | .tok t r => (t :: (toksF l.length r).1, (toksF l.length r).2) | .fin b => ([], b)) = _
  rw [h]
theorem toksA_wt : ∀ (n : Nat) (l : List UInt8), l.length ≤ n → wt (toksA l).1 ≤ 2 * l.length := by
  intro n
  induction n with
  | zero =>
    intro l h
    have : l = [] := List.eq_nil_of_length_eq_zero (Nat.le_zero.1 h)
    subst this
    exact Nat.le_refl _
  | succ n ih =>
    intro l h
    have hs := sk_le l
    cases hp : pcL (sk l) with
    | tok t r =>
      have hw := pcL_wt hp
      rw [toksA_tok hp, wt_cons]
      have := ih r (by omega)
      omega
    | fin b =>
      rw [toksA_fin hp]
      exact Nat.zero_le _
theorem wt_len (ts : List Tok) : ts.length ≤ wt ts := by
  induction ts with
  | nil => exact Nat.le_refl _
  | cons t ts ih =>
    rw [wt_cons, List.length_cons]
    have : 1 ≤ tokW t := by cases t <;> simp [tokW]
    omega

/-! ### What pieces make -/
structure Adr where
  kind : Nat
  name : List UInt8
  loc : List UInt8
  host : List UInt8
  deriving DecidableEq
def takesT (c : UInt8) : List Tok → Bool × List Tok
  | [] => (false, [])
  | .wrd w :: ts => (false, .wrd w :: ts)
  | .sgn d :: ts => if d = c then (true, ts) else (false, .sgn d :: ts)
def wordT : List Tok → Option (List UInt8) × List Tok
  | [] => (none, [])
  | .wrd w :: ts => (some w, ts)
  | .sgn d :: ts => (none, .sgn d :: ts)
def wordsT : List Tok → List (List UInt8) × List Tok
  | [] => ([], [])
  | .wrd w :: ts => (w :: (wordsT ts).1, (wordsT ts).2)
  | .sgn d :: ts => ([], .sgn d :: ts)
/-- What is behind a way of which the first sign was read. -/
def wayL : Nat → List Tok → Bool × List Tok
  | 0, ts => (false, ts)
  | n + 1, ts => match wordT ts with
    | (none, t1) => (false, t1)
    | (some _, t1) => match takesT 64 (takesT 44 t1).2 with
      | (true, t2) => wayL n t2
      | (false, t2) => takesT 58 t2
def wayT (ts : List Tok) : Bool × List Tok :=
  match takesT 64 ts with
  | (false, t1) => (true, t1)
  | (true, t1) => wayL (t1.length + 1) t1
def hostT (ts : List Tok) : List UInt8 × Bool × List Tok :=
  match takesT 64 ts with
  | (false, t1) => ([], true, t1)
  | (true, t1) => match wordT t1 with
    | (some h, t2) => (h, true, t2)
    | (none, t2) => ([], false, t2)
abbrev Res := Bool × List Tok × List Adr
def placeT (name : List UInt8) (ws : List (List UInt8)) (ts : List Tok) : Res :=
  ((hostT ts).2.1 && !ws.isEmpty, (hostT ts).2.2, [⟨0, name, Lib.join ws [], (hostT ts).1⟩])
def boxT (ws : List (List UInt8)) (ts : List Tok) : Res :=
  match takesT 60 ts with
  | (false, t1) => if ws.isEmpty then (true, t1, []) else placeT [] ws t1
  | (true, t1) => match wayT t1 with
    | (false, t2) => (false, t2, [])
    | (true, t2) => match placeT (Lib.join ws [32]) (wordsT t2).1 (wordsT t2).2 with
      | (false, t3, l) => (false, t3, l)
      | (true, t3, l) => ((takesT 62 t3).1, (takesT 62 t3).2, l)
def wboxT (ts : List Tok) : Res := boxT (wordsT ts).1 (wordsT ts).2
def itemsT (item : List Tok → Res) : Nat → List Tok → Res
  | 0, ts => (false, ts, [])
  | n + 1, ts => match item ts with
    | (false, t1, l) => (false, t1, l)
    | (true, t1, l) => match takesT 44 t1 with
      | (false, t2) => (true, t2, l)
      | (true, t2) => ((itemsT item n t2).1, (itemsT item n t2).2.1, l ++ (itemsT item n t2).2.2)
def groupT (name : List (List UInt8)) (ts : List Tok) : Res :=
  match itemsT wboxT (ts.length + 1) ts with
  | (false, t1, l) => (false, t1, ⟨1, Lib.join name [32], [], []⟩ :: l ++ [⟨2, [], [], []⟩])
  | (true, t1, l) => ((takesT 59 t1).1, (takesT 59 t1).2, ⟨1, Lib.join name [32], [], []⟩ :: l ++ [⟨2, [], [], []⟩])
def itemT (ts : List Tok) : Res :=
  match takesT 58 (wordsT ts).2 with
  | (true, t1) => groupT (wordsT ts).1 t1
  | (false, t1) => boxT (wordsT ts).1 t1
/-- The addresses of a text. -/
def listT (p : List Tok × Bool) : Option (List Adr) :=
  match itemsT itemT (p.1.length + 1) p.1 with
  | (true, [], l) => if p.2 then some l else none
  | _ => none
def listA (l : List UInt8) : Option (List Adr) := listT (toksA l)

theorem takesT_len (c : UInt8) (ts : List Tok) : (takesT c ts).2.length + (if (takesT c ts).1 then 1 else 0) = ts.length := by
  cases ts with
  | nil => rfl
  | cons t ts =>
    cases t with
    | wrd w => rfl
    | sgn d => by_cases h : d = c <;> simp [takesT, h]
theorem takesT_le (c : UInt8) (ts : List Tok) : (takesT c ts).2.length ≤ ts.length := by have := takesT_len c ts; omega
theorem takesT_yes {c : UInt8} {ts r : List Tok} (h : takesT c ts = (true, r)) : r.length + 1 = ts.length := by
  have := takesT_len c ts
  rw [h] at this
  simpa using this
theorem takesT_no {c : UInt8} {ts r : List Tok} (h : takesT c ts = (false, r)) : r = ts := by
  cases ts with
  | nil => cases h; rfl
  | cons t ts =>
    cases t with
    | wrd w => cases h; rfl
    | sgn d =>
      by_cases h2 : d = c
      · simp [takesT, h2] at h
      · simp [takesT, h2] at h; exact h.symm
theorem wordT_len (ts : List Tok) : (wordT ts).2.length + (if (wordT ts).1.isSome then 1 else 0) = ts.length := by
  cases ts with
  | nil => rfl
  | cons t ts => cases t <;> rfl
theorem wordsT_len (ts : List Tok) : (wordsT ts).1.length + (wordsT ts).2.length = ts.length := by
  induction ts with
  | nil => rfl
  | cons t ts ih =>
    cases t with
    | wrd w =>
      show (wordsT ts).1.length + 1 + (wordsT ts).2.length = ts.length + 1
      omega
    | sgn d => exact Nat.zero_add _
def wsW (ws : List (List UInt8)) : Nat := (ws.map (fun w => w.length + 1)).sum
theorem wsW_cons (w : List UInt8) (ws : List (List UInt8)) : wsW (w :: ws) = w.length + 1 + wsW ws := by simp [wsW]
theorem wordsT_wt (ts : List Tok) : wsW (wordsT ts).1 + wt (wordsT ts).2 = wt ts := by
  induction ts with
  | nil => rfl
  | cons t ts ih =>
    cases t with
    | wrd w =>
      show wsW (w :: (wordsT ts).1) + wt (wordsT ts).2 = _
      rw [wsW_cons, wt_cons]
      show _ = w.length + 1 + _
      omega
    | sgn d => exact Nat.zero_add _
theorem join_len (ws : List (List UInt8)) (sep : List UInt8) (h : sep.length ≤ 1) : (Lib.join ws sep).length ≤ wsW ws := by
  unfold Lib.join
  induction ws with
  | nil => exact Nat.zero_le _
  | cons w ws ih =>
    cases ws with
    | nil =>
      rw [wsW_cons]
      simp [List.intercalate]
      omega
    | cons v r =>
      rw [wsW_cons]
      have e : sep.intercalate (w :: v :: r) = w ++ sep ++ sep.intercalate (v :: r) := by simp [List.intercalate]
      rw [e]
      simp only [List.length_append]
      omega
theorem wayL_le : ∀ (n : Nat) (ts : List Tok), (wayL n ts).2.length ≤ ts.length := by
  intro n
  induction n with
  | zero => intro ts; exact Nat.le_refl _
  | succ n ih =>
    intro ts
    have h0 := wordT_len ts
    unfold wayL
    split
    · next t1 e => rw [e] at h0; simp at h0; simp; omega
    · next v t1 e =>
      rw [e] at h0
      simp at h0
      have h1 := takesT_le 44 t1
      have h2 := takesT_le 64 (takesT 44 t1).2
      split
      · next t2 e2 =>
        rw [e2] at h2
        have := ih t2
        simp at h2
        omega
      · next t2 e2 =>
        rw [e2] at h2
        have := takesT_le 58 t2
        simp at h2
        omega
theorem wayT_le (ts : List Tok) : (wayT ts).2.length ≤ ts.length := by
  unfold wayT
  have h := takesT_le 64 ts
  split
  · next t1 e => rw [e] at h; exact h
  · next t1 e => rw [e] at h; exact Nat.le_trans (wayL_le _ _) h
theorem hostT_le (ts : List Tok) : (hostT ts).2.2.length ≤ ts.length := by
  unfold hostT
  have h := takesT_le 64 ts
  split
  · next t1 e => rw [e] at h; exact h
  · next t1 e =>
    rw [e] at h
    have h1 := wordT_len t1
    simp at h
    split
    · next v t2 e2 => rw [e2] at h1; simp at h1; simp; omega
    · next t2 e2 => rw [e2] at h1; simp at h1; simp; omega
theorem boxT_len (ws : List (List UInt8)) (ts : List Tok) : (boxT ws ts).2.2.length + (boxT ws ts).2.1.length ≤ ws.length + ts.length := by
  unfold boxT
  have h := takesT_len 60 ts
  split
  · next t1 e =>
    rw [e] at h
    simp at h
    cases ws with
    | nil => simp; omega
    | cons w ws =>
      have := hostT_le t1
      simp [placeT]
      omega
  · next t1 e =>
    rw [e] at h
    simp at h
    have h1 := wayT_le t1
    split
    · next t2 e2 => rw [e2] at h1; simp at h1; simp; omega
    · next t2 e2 =>
      rw [e2] at h1
      simp at h1
      have h2 := wordsT_len t2
      have h3 := hostT_le (wordsT t2).2
      split
      · next t3 l e3 =>
        simp only [placeT] at e3
        injection e3 with _ e3
        injection e3 with e3 e4
        subst e3 e4
        simp
        omega
      · next t3 l e3 =>
        simp only [placeT] at e3
        injection e3 with _ e3
        injection e3 with e3 e4
        subst e3 e4
        have := takesT_le 62 (hostT (wordsT t2).2).2.2
        simp
        omega
theorem wboxT_len (ts : List Tok) : (wboxT ts).2.2.length + (wboxT ts).2.1.length ≤ ts.length := by
  have h1 := boxT_len (wordsT ts).1 (wordsT ts).2
  have h2 := wordsT_len ts
  unfold wboxT
  omega
/-- An item that takes as many as it tells, if it goes; so many more if it doesn't. -/
def Fair (d : Nat) (item : List Tok → Res) : Prop := ∀ ts, (item ts).2.2.length + (item ts).2.1.length ≤ ts.length + (if (item ts).1 then 0 else d)
theorem itemsT_bad {item : List Tok → Res} {n : Nat} {ts t1 : List Tok} {l : List Adr} (h : item ts = (false, t1, l)) : itemsT item (n + 1) ts = (false, t1, l) := by
  show (match item ts with | (false, t1, l) => (false, t1, l) | (true, t1, l) => _) = _
  rw [h]
theorem itemsT_last {item : List Tok → Res} {n : Nat} {ts t1 t2 : List Tok} {l : List Adr} (h : item ts = (true, t1, l)) (h2 : takesT 44 t1 = (false, t2)) : itemsT item (n + 1) ts = (true, t2, l) := by
  unfold itemsT
  rw [h]
  simp only [h2]
theorem itemsT_more {item : List Tok → Res} {n : Nat} {ts t1 t2 : List Tok} {l : List Adr} (h : item ts = (true, t1, l)) (h2 : takesT 44 t1 = (true, t2)) :
    itemsT item (n + 1) ts = ((itemsT item n t2).1, (itemsT item n t2).2.1, l ++ (itemsT item n t2).2.2) := by
  rw [itemsT]
  rw [h]
  simp only [h2]
theorem itemsT_len {d : Nat} {item : List Tok → Res} (hf : Fair d item) : ∀ n, Fair d (itemsT item n) := by
  intro n
  induction n with
  | zero => intro ts; simp [itemsT]
  | succ n ih =>
    intro ts
    have h := hf ts
    rcases e : item ts with ⟨b, t1, l⟩
    rw [e] at h
    cases b
    · rw [itemsT_bad e]; exact h
    · simp at h
      have h2 := takesT_len 44 t1
      rcases e2 : takesT 44 t1 with ⟨b, t2⟩
      rw [e2] at h2
      cases b
      · rw [itemsT_last e e2]; simp at h2; simp; omega
      · rw [itemsT_more e e2]
        simp at h2
        have := ih t2
        simp only [List.length_append]
        omega
theorem wboxT_fair : Fair 0 wboxT := fun ts => by have := wboxT_len ts; split <;> omega
theorem groupT_len (name : List (List UInt8)) (ts : List Tok) : (groupT name ts).2.2.length + (groupT name ts).2.1.length ≤ ts.length + (if (groupT name ts).1 then 1 else 2) := by
  unfold groupT
  have h := itemsT_len wboxT_fair (ts.length + 1) ts
  split
  · next t1 l e => rw [e] at h; simp at h; simp; omega
  · next t1 l e =>
    rw [e] at h
    simp at h
    have h2 := takesT_len 59 t1
    simp
    split
    · next hb => rw [hb] at h2; simp at h2; omega
    · next hb => simp at hb; rw [hb] at h2; simp at h2; omega
theorem itemT_fair : Fair 1 itemT := fun ts => by
  have h0 := wordsT_len ts
  have h1 := takesT_len 58 (wordsT ts).2
  unfold itemT
  split
  · next t1 e =>
    rw [e] at h1
    simp at h1
    have := groupT_len (wordsT ts).1 t1
    split <;> (split at this <;> first | omega | (simp_all))
  · next t1 e =>
    rw [e] at h1
    simp at h1
    have := boxT_len (wordsT ts).1 t1
    split <;> omega
end Go.Proofs.YtjlcphofkepajaaGreat
