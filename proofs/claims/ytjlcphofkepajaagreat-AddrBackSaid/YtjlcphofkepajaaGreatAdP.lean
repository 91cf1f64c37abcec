/- Plain: two lists of addresses with a comma between. -/
import Derived.Test.YtjlcphofkepajaaGreatAdM
namespace Go.Proofs.YtjlcphofkepajaaGreat
open Go Go.RowKit

theorem toksA_sk {l l' : List UInt8} (h : sk l = sk l') : toksA l = toksA l' := by
  cases hp : pcL (sk l) with
  | tok t r =>
    have e := hp
    rw [h] at e
    rw [toksA_tok hp, toksA_tok e]
  | fin b =>
    have e := hp
    rw [h] at e
    rw [toksA_fin hp, toksA_fin e]
/-- No sign that opens something. -/
def shutL (a : List UInt8) : Prop := ∀ c ∈ a, c ≠ 40 ∧ c ≠ 34 ∧ c ≠ 91
/-- What ends a word. -/
def endsL (z : List UInt8) : Prop := ∀ c r, z = c :: r → wordB c = false ∧ c ≠ 91
theorem bareA_put (z : List UInt8) (hz : endsL z) : ∀ (l w r : List UInt8), (∀ c ∈ l, c ≠ 91) → bareA false l = some (w, r) → bareA false (l ++ z) = some (w, r ++ z) := by
  intro l
  induction l with
  | nil =>
    intro w r _ h
    cases h
    cases z with
    | nil => rfl
    | cons c r =>
      obtain ⟨h1, h2⟩ := hz c r rfl
      show (if c = 91 then _ else if wordB c = true then _ else _) = _
      rw [if_neg h2, if_neg (by rw [h1]; simp)]
      rfl
  | cons c l ih =>
    intro w r hn h
    have hc : c ≠ 91 := hn c List.mem_cons_self
    change (if c = 91 then _ else if wordB c = true then _ else _) = _ at h
    show (if c = 91 then _ else if wordB c = true then _ else _) = _
    rw [if_neg hc] at h ⊢
    by_cases hw : wordB c = true
    · rw [if_pos hw] at h ⊢
      cases hb : bareA false l with
      | none => rw [hb] at h; cases h
      | some p =>
        obtain ⟨w', r'⟩ := p
        rw [hb] at h
        unfold preA at h
        cases h
        have := ih w' r' (fun x hx => hn x (List.mem_cons_of_mem _ hx)) hb
        show preA c (bareA false (l ++ z)) = _
        rw [this]
        rfl
    · rw [if_neg hw] at h ⊢
      cases h
      rfl
theorem sk_blk (c : UInt8) (l : List UInt8) (h : blk c = true) : sk (c :: l) = sk l := by
  show (if blk c = true then _ else _) = _
  rw [if_pos h]
  rfl
theorem sk_not (c : UInt8) (l : List UInt8) (h : blk c = false) (h2 : c ≠ 40) : sk (c :: l) = c :: l := by
  show (if blk c = true then _ else if c = 40 then _ else _) = _
  rw [if_neg (by rw [h]; simp), if_neg h2]
theorem pcL_bare {c : UInt8} {l w r : List UInt8} (h1 : ¬ signB c = true) (h2 : c ≠ 34) (h : bareA false (c :: l) = some (w, r)) (hw : w ≠ []) : pcL (c :: l) = .tok (.wrd w) r := by
  rw [pcL_cons, if_neg h1, if_neg h2, h]
  simp only [if_neg hw]
theorem pcL_empty {c : UInt8} {l r : List UInt8} (h1 : ¬ signB c = true) (h2 : c ≠ 34) (h : bareA false (c :: l) = some ([], r)) : pcL (c :: l) = .fin false := by
  rw [pcL_cons, if_neg h1, if_neg h2, h]
  rfl
theorem pcL_none {c : UInt8} {l : List UInt8} (h1 : ¬ signB c = true) (h2 : c ≠ 34) (h : bareA false (c :: l) = none) : pcL (c :: l) = .fin false := by
  rw [pcL_cons, if_neg h1, if_neg h2, h]
theorem toksA_put (z : List UInt8) (hz : endsL z) : ∀ (n : Nat) (a : List UInt8) (ts : List Tok), a.length ≤ n → shutL a → toksA a = (ts, true) → toksA (a ++ z) = (ts ++ (toksA z).1, (toksA z).2) := by
  intro n
  induction n with
  | zero =>
    intro a ts hl _ h
    obtain rfl : a = [] := List.eq_nil_of_length_eq_zero (Nat.le_zero.1 hl)
    have e : toksA [] = ([], true) := rfl
    rw [e] at h
    cases h
    rfl
  | succ n ih =>
    intro a ts hl hs h
    cases a with
    | nil =>
      have e : toksA [] = ([], true) := rfl
      rw [e] at h
      cases h
      rfl
    | cons c a =>
      rw [List.length_cons] at hl
      obtain ⟨h40, h34, h91⟩ := hs c List.mem_cons_self
      have hs' : shutL a := fun x hx => hs x (List.mem_cons_of_mem _ hx)
      rcases Bool.eq_false_or_eq_true (blk c) with hb | hb
      · rw [toksA_sk (sk_blk c a hb)] at h
        rw [List.cons_append, toksA_sk (sk_blk c (a ++ z) hb)]
        exact ih a ts (by omega) hs' h
      · have hsk := sk_not c a hb h40
        have hskz := sk_not c (a ++ z) hb h40
        rcases Bool.eq_false_or_eq_true (signB c) with hg | hg
        · have hp : pcL (sk (c :: a)) = .tok (.sgn c) a := by rw [hsk, pcL_cons, if_pos hg]
          have hpz : pcL (sk (c :: (a ++ z))) = .tok (.sgn c) (a ++ z) := by rw [hskz, pcL_cons, if_pos hg]
          rw [toksA_tok hp] at h
          rw [List.cons_append, toksA_tok hpz]
          have h1 := (Prod.mk.inj h).1
          have h2 := (Prod.mk.inj h).2
          subst h1
          rw [ih a (toksA a).1 (by omega) hs' (Prod.ext rfl h2)]
          rfl
        · have hg' : ¬ signB c = true := by rw [hg]; simp
          cases hbr : bareA false (c :: a) with
          | none =>
            rw [toksA_fin (by rw [hsk]; exact pcL_none hg' h34 hbr)] at h
            cases h
          | some p =>
            obtain ⟨w, r⟩ := p
            by_cases hw : w = []
            · subst hw
              rw [toksA_fin (by rw [hsk]; exact pcL_empty hg' h34 hbr)] at h
              cases h
            · have hp0 : pcL (sk (c :: a)) = .tok (.wrd w) r := by rw [hsk]; exact pcL_bare hg' h34 hbr hw
              have hbz := bareA_put z hz (c :: a) w r (fun x hx => (hs x hx).2.2) hbr
              rw [List.cons_append] at hbz
              have hp1 : pcL (sk (c :: (a ++ z))) = .tok (.wrd w) (r ++ z) := by rw [hskz]; exact pcL_bare hg' h34 hbz hw
              rw [toksA_tok hp0] at h
              rw [List.cons_append, toksA_tok hp1]
              have h1 := (Prod.mk.inj h).1
              have h2 := (Prod.mk.inj h).2
              subst h1
              have hca := bareA_app _ _ _ _ hbr
              have hlr : r.length ≤ n := by
                have e1 : (c :: a).length = w.length + r.length := by rw [hca]; simp
                have e2 : 0 < w.length := List.length_pos_iff.2 hw
                rw [List.length_cons] at e1
                omega
              have hsr : shutL r := fun x hx => hs x (by rw [hca]; exact List.mem_append_right _ hx)
              rw [ih r (toksA r).1 hlr hsr (Prod.ext rfl h2)]
              rfl

/-! ### Pieces ahead of a comma -/
theorem wordT_put (u : List Tok) (ts : List Tok) : wordT (ts ++ .sgn 44 :: u) = ((wordT ts).1, (wordT ts).2 ++ .sgn 44 :: u) := by
  cases ts with
  | nil => rfl
  | cons t ts => cases t <;> rfl
theorem wordsT_put (u : List Tok) (ts : List Tok) : wordsT (ts ++ .sgn 44 :: u) = ((wordsT ts).1, (wordsT ts).2 ++ .sgn 44 :: u) := by
  induction ts with
  | nil => rfl
  | cons t ts ih =>
    cases t with
    | sgn d => rfl
    | wrd w =>
      show (w :: (wordsT (ts ++ .sgn 44 :: u)).1, (wordsT (ts ++ .sgn 44 :: u)).2) = _
      rw [ih]
      rfl
theorem takesT_cons {c : UInt8} (t : Tok) (ts u : List Tok) : takesT c (t :: ts ++ u) = ((takesT c (t :: ts)).1, (takesT c (t :: ts)).2 ++ u) := by
  cases t with
  | wrd w => rfl
  | sgn d =>
    by_cases h : d = c
    · simp [takesT, h]
    · simp [takesT, h]
theorem takesT_put {c : UInt8} (hc : (44 : UInt8) ≠ c) (u : List Tok) (ts : List Tok) : takesT c (ts ++ .sgn 44 :: u) = ((takesT c ts).1, (takesT c ts).2 ++ .sgn 44 :: u) := by
  cases ts with
  | nil => simp [takesT, hc]
  | cons t ts => exact takesT_cons t ts _
theorem takes44_put (u : List Tok) {ts : List Tok} (h : ts ≠ []) : takesT 44 (ts ++ .sgn 44 :: u) = ((takesT 44 ts).1, (takesT 44 ts).2 ++ .sgn 44 :: u) := by
  cases ts with
  | nil => exact absurd rfl h
  | cons t ts => exact takesT_cons t ts _
theorem wayL_more : ∀ (n m : Nat) (ts r : List Tok), n ≤ m → wayL n ts = (true, r) → wayL m ts = (true, r) := by
  intro n
  induction n with
  | zero => intro m ts r _ h; cases h
  | succ n ih =>
    intro m ts r hm h
    cases m with
    | zero => omega
    | succ m =>
      rw [wayL] at h ⊢
      rcases hw : wordT ts with ⟨o, t1⟩
      rw [hw] at h
      cases o with
      | none => simp only at h; cases h
      | some x =>
        simp only at h ⊢
        rcases hk : takesT 64 (takesT 44 t1).2 with ⟨b, t2⟩
        rw [hk] at h
        cases b with
        | false => exact h
        | true => exact ih m t2 r (by omega) h
theorem wayL_put (u : List Tok) : ∀ (n : Nat) (ts r : List Tok), wayL n ts = (true, r) → wayL n (ts ++ .sgn 44 :: u) = (true, r ++ .sgn 44 :: u) := by
  intro n
  induction n with
  | zero => intro ts r h; cases h
  | succ n ih =>
    intro ts r h
    rw [wayL] at h ⊢
    rw [wordT_put]
    rcases hw : wordT ts with ⟨o, t1⟩
    rw [hw] at h
    cases o with
    | none => simp only at h; cases h
    | some x =>
      simp only at h ⊢
      by_cases h1 : t1 = []
      · subst h1
        cases h
      · rw [takes44_put u h1, takesT_put (by decide)]
        rcases hk : takesT 64 (takesT 44 t1).2 with ⟨b, t2⟩
        rw [hk] at h
        cases b with
        | false =>
          simp only at h ⊢
          rw [takesT_put (by decide), h]
        | true => exact ih t2 r h
theorem wayT_put (u : List Tok) {ts r : List Tok} (h : wayT ts = (true, r)) : wayT (ts ++ .sgn 44 :: u) = (true, r ++ .sgn 44 :: u) := by
  unfold wayT at h ⊢
  rw [takesT_put (by decide)]
  rcases hk : takesT 64 ts with ⟨b, t1⟩
  rw [hk] at h
  cases b with
  | false => cases h; rfl
  | true =>
    simp only at h ⊢
    exact wayL_more _ _ _ _ (by simp) (wayL_put u _ _ _ h)
theorem hostT_put (u : List Tok) (ts : List Tok) : hostT (ts ++ .sgn 44 :: u) = ((hostT ts).1, (hostT ts).2.1, (hostT ts).2.2 ++ .sgn 44 :: u) := by
  unfold hostT
  rw [takesT_put (by decide)]
  rcases takesT 64 ts with ⟨b, t1⟩
  cases b with
  | false => rfl
  | true =>
    simp only [wordT_put]
    rcases wordT t1 with ⟨o, t2⟩
    cases o <;> rfl
theorem boxT_put (u : List Tok) {ws : List (List UInt8)} {ts r : List Tok} {l : List Adr} (h : boxT ws ts = (true, r, l)) : boxT ws (ts ++ .sgn 44 :: u) = (true, r ++ .sgn 44 :: u, l) := by
  unfold boxT at h ⊢
  rw [takesT_put (by decide)]
  rcases hk : takesT 60 ts with ⟨b, t1⟩
  rw [hk] at h
  cases b with
  | false =>
    simp only at h ⊢
    by_cases he : ws.isEmpty = true
    · rw [if_pos he] at h ⊢
      cases h
      rfl
    · rw [if_neg he] at h ⊢
      unfold placeT at h ⊢
      rw [hostT_put]
      have e1 := congrArg Prod.fst h
      have e2 := congrArg (fun x => x.2.1) h
      have e3 := congrArg (fun x => x.2.2) h
      simp only at e1 e2 e3
      simp only
      rw [e1, e2, e3]
  | true =>
    simp only at h ⊢
    rcases hw : wayT t1 with ⟨b2, t2⟩
    rw [hw] at h
    cases b2 with
    | false => simp only at h; cases h
    | true =>
      rw [wayT_put u hw]
      simp only at h ⊢
      rw [wordsT_put]
      simp only
      have hp : placeT (Lib.join ws [32]) (wordsT t2).1 ((wordsT t2).2 ++ .sgn 44 :: u) = ((placeT (Lib.join ws [32]) (wordsT t2).1 (wordsT t2).2).1, (placeT (Lib.join ws [32]) (wordsT t2).1 (wordsT t2).2).2.1 ++ .sgn 44 :: u, (placeT (Lib.join ws [32]) (wordsT t2).1 (wordsT t2).2).2.2) := by
        unfold placeT
        rw [hostT_put]
      rw [hp]
      rcases hpl : placeT (Lib.join ws [32]) (wordsT t2).1 (wordsT t2).2 with ⟨b3, t3, l3⟩
      rw [hpl] at h
      cases b3 with
      | false => cases h
      | true =>
        have e1 : (takesT 62 t3).1 = true := congrArg Prod.fst h
        have e2 : (takesT 62 t3).2 = r := congrArg (fun x => x.2.1) h
        have e3 : l3 = l := congrArg (fun x => x.2.2) h
        show ((takesT 62 (t3 ++ .sgn 44 :: u)).1, (takesT 62 (t3 ++ .sgn 44 :: u)).2, l3) = _
        rw [takesT_put (by decide)]
        show ((takesT 62 t3).1, (takesT 62 t3).2 ++ .sgn 44 :: u, l3) = _
        rw [e1, e2, e3]
theorem wboxT_put (u : List Tok) {ts r : List Tok} {l : List Adr} (h : wboxT ts = (true, r, l)) : wboxT (ts ++ .sgn 44 :: u) = (true, r ++ .sgn 44 :: u, l) := by
  unfold wboxT at h ⊢
  rw [wordsT_put]
  exact boxT_put u h
theorem itemsT_fuel {item : List Tok → Res} : ∀ (n m : Nat) (ts r : List Tok) (l : List Adr), n ≤ m → itemsT item n ts = (true, r, l) → itemsT item m ts = (true, r, l) := by
  intro n
  induction n with
  | zero => intro m ts r l _ h; cases h
  | succ n ih =>
    intro m ts r l hm h
    cases m with
    | zero => omega
    | succ m =>
      rcases hx : item ts with ⟨b, t1, l1⟩
      cases b with
      | false => rw [itemsT_bad hx] at h; cases h
      | true =>
        rcases hy : takesT 44 t1 with ⟨b2, t2⟩
        cases b2 with
        | false => rw [itemsT_last hx hy] at h ⊢; exact h
        | true =>
          rw [itemsT_more hx hy] at h ⊢
          rcases hz : itemsT item n t2 with ⟨b3, t3, l3⟩
          rw [hz] at h
          simp only at h
          injection h with e1 e2
          subst e1
          rw [ih m t2 t3 l3 (by omega) hz]
          simp only
          rw [e2]
theorem itemsW_put (u : List Tok) : ∀ (n : Nat) (ts r : List Tok) (l : List Adr), r ≠ [] → itemsT wboxT n ts = (true, r, l) → itemsT wboxT n (ts ++ .sgn 44 :: u) = (true, r ++ .sgn 44 :: u, l) := by
  intro n
  induction n with
  | zero => intro ts r l _ h; cases h
  | succ n ih =>
    intro ts r l hr h
    rcases hx : wboxT ts with ⟨b, t1, l1⟩
    cases b with
    | false => rw [itemsT_bad hx] at h; cases h
    | true =>
      have hxp := wboxT_put u hx
      rcases hy : takesT 44 t1 with ⟨b2, t2⟩
      cases b2 with
      | false =>
        rw [itemsT_last hx hy] at h
        cases h
        have e := takesT_no hy
        subst e
        have hyp : takesT 44 (r ++ .sgn 44 :: u) = (false, r ++ .sgn 44 :: u) := by rw [takes44_put u hr, hy]
        rw [itemsT_last hxp hyp]
      | true =>
        have h1 : t1 ≠ [] := by rintro rfl; cases hy
        have hyp : takesT 44 (t1 ++ .sgn 44 :: u) = (true, t2 ++ .sgn 44 :: u) := by rw [takes44_put u h1, hy]
        rw [itemsT_more hx hy] at h
        rw [itemsT_more hxp hyp]
        rcases hz : itemsT wboxT n t2 with ⟨b3, t3, l3⟩
        rw [hz] at h
        simp only at h
        injection h with e1 e2
        injection e2 with e2 e3
        subst e1 e2
        rw [ih t2 t3 l3 hr hz]
        simp only
        rw [e3]
theorem groupT_put (u : List Tok) {name : List (List UInt8)} {ts r : List Tok} {l : List Adr} (h : groupT name ts = (true, r, l)) : groupT name (ts ++ .sgn 44 :: u) = (true, r ++ .sgn 44 :: u, l) := by
  unfold groupT at h ⊢
  rcases hx : itemsT wboxT (ts.length + 1) ts with ⟨b, t1, l1⟩
  rw [hx] at h
  cases b with
  | false => simp only at h; cases h
  | true =>
    simp only at h
    injection h with e1 e2
    injection e2 with e2 e3
    have h1 : t1 ≠ [] := by rintro rfl; cases e1
    rw [itemsT_fuel _ ((ts ++ .sgn 44 :: u).length + 1) _ _ _ (by simp) (itemsW_put u _ _ _ _ h1 hx)]
    simp only
    rw [takesT_put (by decide), e1, e2, e3]
theorem itemT_put (u : List Tok) {ts r : List Tok} {l : List Adr} (h : itemT ts = (true, r, l)) : itemT (ts ++ .sgn 44 :: u) = (true, r ++ .sgn 44 :: u, l) := by
  unfold itemT at h ⊢
  rw [wordsT_put]
  simp only
  rw [takesT_put (by decide)]
  rcases hy : takesT 58 (wordsT ts).2 with ⟨b, t1⟩
  rw [hy] at h
  cases b with
  | false => exact boxT_put u h
  | true => exact groupT_put u h
theorem items_two (u : List Tok) (lb : List Adr) (m : Nat) (hu : itemsT itemT m u = (true, [], lb)) : ∀ (n : Nat) (ts : List Tok) (l : List Adr), itemsT itemT n ts = (true, [], l) → itemsT itemT (n + m) (ts ++ .sgn 44 :: u) = (true, [], l ++ lb) := by
  intro n
  induction n with
  | zero => intro ts l h; cases h
  | succ n ih =>
    intro ts l h
    rw [show n + 1 + m = (n + m) + 1 by omega]
    rcases hx : itemT ts with ⟨b, t1, l1⟩
    cases b with
    | false => rw [itemsT_bad hx] at h; cases h
    | true =>
      have hxp := itemT_put u hx
      rcases hy : takesT 44 t1 with ⟨b2, t2⟩
      cases b2 with
      | false =>
        rw [itemsT_last hx hy] at h
        have e := takesT_no hy
        subst e
        cases h
        have hyp : takesT 44 ([] ++ .sgn 44 :: u) = (true, u) := by simp [takesT]
        rw [itemsT_more hxp hyp, itemsT_fuel m (n + m) u [] lb (by omega) hu]
      | true =>
        have h1 : t1 ≠ [] := by rintro rfl; cases hy
        have hyp : takesT 44 (t1 ++ .sgn 44 :: u) = (true, t2 ++ .sgn 44 :: u) := by rw [takes44_put u h1, hy]
        rw [itemsT_more hx hy] at h
        rw [itemsT_more hxp hyp]
        rcases hz : itemsT itemT n t2 with ⟨b3, t3, l3⟩
        rw [hz] at h
        simp only at h
        injection h with e1 e2
        injection e2 with e2 e3
        subst e1 e2
        rw [ih t2 l3 hz, ← e3]
        simp
theorem listT_some {p : List Tok × Bool} {l : List Adr} (h : listT p = some l) : p.2 = true ∧ itemsT itemT (p.1.length + 1) p.1 = (true, [], l) := by
  unfold listT at h
  rcases hx : itemsT itemT (p.1.length + 1) p.1 with ⟨b, t1, l1⟩
  rw [hx] at h
  cases b with
  | false => cases h
  | true =>
    cases t1 with
    | cons _ _ => cases h
    | nil =>
      simp only at h
      by_cases hb : p.2 = true
      · rw [if_pos hb] at h
        cases h
        exact ⟨hb, rfl⟩
      · rw [if_neg hb] at h
        cases h
theorem listT_of {ts : List Tok} {l : List Adr} {n : Nat} (h : itemsT itemT n ts = (true, [], l)) (hn : n ≤ ts.length + 1) : listT (ts, true) = some l := by
  unfold listT
  simp only
  rw [itemsT_fuel _ _ _ _ _ hn h]
  rfl
theorem listA_comma {a b : List UInt8} {la lb : List Adr} (ha : listA a = some la) (hb : listA b = some lb) (hs : shutL a) : listA (a ++ 44 :: b) = some (la ++ lb) := by
  obtain ⟨pa, xa⟩ := listT_some ha
  obtain ⟨pb, xb⟩ := listT_some hb
  have e1 : toksA (44 :: b) = (.sgn 44 :: (toksA b).1, (toksA b).2) := toksA_tok (by rw [sk_not 44 b (by decide) (by decide)]; rfl)
  have e2 := toksA_put (44 :: b) (fun c r h => by cases h; exact ⟨by decide, by decide⟩) _ a (toksA a).1 (Nat.le_refl _) hs (Prod.ext rfl pa)
  unfold listA
  rw [e2, e1, pb]
  have h := items_two (toksA b).1 lb _ xb _ _ _ xa
  exact listT_of h (by simp; omega)
theorem listA_within {a : List UInt8} {la : List Adr} (ha : listA a = some la) (hs : shutL a) : listA ([32, 40, 99, 40, 100, 41, 41, 32] ++ a ++ [9, 40, 101, 41]) = some la := by
  obtain ⟨pa, xa⟩ := listT_some ha
  have e0 : toksA ([32, 40, 99, 40, 100, 41, 41, 32] ++ a ++ [9, 40, 101, 41]) = toksA (a ++ [9, 40, 101, 41]) := by
    rw [List.append_assoc]
    exact toksA_sk rfl
  have e1 : toksA [9, 40, 101, 41] = ([], true) := rfl
  have e2 := toksA_put [9, 40, 101, 41] (fun c r h => by cases h; exact ⟨by decide, by decide⟩) _ a (toksA a).1 (Nat.le_refl _) hs (Prod.ext rfl pa)
  unfold listA
  rw [e0, e2, e1, List.append_nil]
  exact listT_of xa (Nat.le_refl _)
end Go.Proofs.YtjlcphofkepajaaGreat
