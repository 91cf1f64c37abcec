/- Plain: what the program's way finds is a spec of that text, and each spec's text is found. -/
import Derived.Test.YthcleaflhljdlaaGreatDoorSeM
namespace Go.Proofs.YthcleaflhljdlaaGreatDoor
open Go Go.RowKit

/-- A byte that ends numbers and words. -/
def ends (l : List UInt8) : Prop := ∀ x, l.head? = some x → isDig x = false ∧ whatB x = false ∧ x ≠ 46
theorem ends_cons {x : UInt8} {l : List UInt8} (h : x = 32 ∨ x = 93) : ends (x :: l) := by
  intro y hy
  cases hy
  rcases h with rfl | rfl <;> decide
theorem take_digits {d r : List UInt8} {n : Nat} (h : numSpec d = some n) (hr : ∀ x, r.head? = some x → isDig x = false) : (d ++ r).takeWhile isDig = d ∧ (d ++ r).dropWhile isDig = r :=
  takeWhile_stop isDig d r (numSpec_digits h).1 hr
theorem numSpec_nil : numSpec [] = none := numSpec_short (by decide)
theorem askL_full : ∀ {A : List UInt8} {p : List Int} {k : Nat}, AskTx A p k → ∀ (n : Nat) (r : List UInt8) (acc : List Int), A.length < n → ends r → (acc ≠ [] → ¬ (p = [] ∧ k = 0)) → askL n (A ++ r) acc = some (acc ++ p, k, r) := by
  intro A p k h
  induction h with
  | word w k h =>
    intro n r acc hn hr hk
    obtain ⟨n, rfl⟩ : ∃ m, n = m + 1 := ⟨n - 1, by omega⟩
    have h1 : (w ++ r).takeWhile isDig = [] := by
      match w, h with
      | [], h =>
        match r, hr with
        | [], _ => rfl
        | x :: r, hr => simp [(hr x rfl).1]
      | x :: w, h => simp [(word_not (whatOf_bytes h x (List.mem_cons_self ..))).2]
    have h2 := takeWhile_stop whatB w r (whatOf_all h) (fun x hx => (hr x hx).2.1)
    unfold askL
    rw [h1, numSpec_nil]
    simp only
    rw [h2.1, h2.2, h]
    simp only
    rw [if_neg (fun e => hk e.2 ⟨rfl, e.1⟩), List.append_nil]
  | last d m h =>
    intro n r acc hn hr hk
    obtain ⟨n, rfl⟩ : ∃ m, n = m + 1 := ⟨n - 1, by omega⟩
    have h1 := take_digits h (fun x hx => (hr x hx).1)
    unfold askL
    rw [h1.1, h1.2, h]
    simp only
    have h2 : takeP [46] r = none := by
      match r, hr with
      | [], _ => rfl
      | x :: r, hr =>
        unfold takeP
        rw [if_neg (fun e => (hr x rfl).2.2 e.symm)]
    rw [h2]
  | more d m l p k h hl hk ih =>
    intro n r acc hn hr _
    obtain ⟨n, rfl⟩ : ∃ m, n = m + 1 := ⟨n - 1, by omega⟩
    have h1 := take_digits (r := 46 :: (l ++ r)) h (fun x hx => by cases hx; exact isDig_46)
    unfold askL
    rw [List.append_assoc, List.cons_append, h1.1, h1.2, h]
    simp only
    have h2 : takeP [46] (46 :: (l ++ r)) = some (l ++ r) := rfl
    rw [h2]
    simp only
    rw [ih n r (acc ++ [(m : Int)]) (by simp at hn; omega) hr (fun _ => hk), List.append_assoc]
    rfl
theorem askL_sound : ∀ (n : Nat) (l : List UInt8) (acc q : List Int) (k : Nat) (r : List UInt8), askL n l acc = some (q, k, r) → ∃ A p, l = A ++ r ∧ q = acc ++ p ∧ AskTx A p k ∧ (acc ≠ [] → ¬ (p = [] ∧ k = 0)) := by
  intro n
  induction n with
  | zero => intro l acc q k r h; cases h
  | succ n ih =>
    intro l acc q k r h
    have hl : l.takeWhile isDig ++ l.dropWhile isDig = l := List.takeWhile_append_dropWhile
    have hw : l.takeWhile whatB ++ l.dropWhile whatB = l := List.takeWhile_append_dropWhile
    unfold askL at h
    split at h
    · next m hm =>
      split at h
      · next r' hr' =>
        obtain ⟨A, p, e1, e2, e3, e4⟩ := ih _ _ _ _ _ h
        rw [takeP_iff] at hr'
        refine ⟨l.takeWhile isDig ++ 46 :: A, (m : Int) :: p, ?_, ?_, .more _ _ _ _ _ hm e3 (e4 (by simp)), fun _ h => by cases h.1⟩
        · rw [List.append_assoc, List.cons_append, ← e1]
          conv => lhs; rw [← hl, hr']
          rfl
        · rw [e2, List.append_assoc]
          rfl
      · cases h
        exact ⟨_, _, hl.symm, rfl, .last _ _ hm, fun _ h => by cases h.1⟩
    · split at h
      · next k' hk' =>
        split at h
        · cases h
        · next hne =>
          cases h
          exact ⟨_, [], hw.symm, by simp, .word _ _ hk', fun ha e => hne ⟨e.2, ha⟩⟩
      · cases h

theorem unqP_stroke (acc : List UInt8) (c : UInt8) (l : List UInt8) (h : hitB c = true) : unqP false acc (92 :: c :: l) = unqP false (acc ++ [c]) l := by
  show (if (92 : UInt8) = 34 then _ else if (92 : UInt8) = 92 then unqP true acc (c :: l) else _) = _
  rw [if_neg (by decide), if_pos rfl]
  show (if hitB c = true then unqP false (acc ++ [c]) l else none) = _
  rw [if_pos h]
theorem unqP_plain (acc : List UInt8) (c : UInt8) (l : List UInt8) (h : hitB c = false) : unqP false acc (c :: l) = unqP false (acc ++ [c]) l := by
  have h1 : c ≠ 34 := by rintro rfl; revert h; decide
  have h2 : c ≠ 92 := by rintro rfl; revert h; decide
  show (if c = 34 then _ else if c = 92 then _ else _) = _
  rw [if_neg h1, if_neg h2]
theorem unqP_full (a : List UInt8) : ∀ (acc r : List UInt8), unqP false acc (escL a ++ 34 :: r) = some (acc ++ a, r) := by
  induction a with
  | nil => intro acc r; simp [escL, unqP]
  | cons c a ih =>
    intro acc r
    have e : escL (c :: a) = escB c ++ escL a := by simp [escL]
    rw [e, List.append_assoc]
    rcases Bool.eq_false_or_eq_true (hitB c) with h | h
    · have hb : escB c = [92, c] := by unfold escB; rw [if_pos h]
      rw [hb]
      show unqP false acc (92 :: c :: (escL a ++ 34 :: r)) = _
      rw [unqP_stroke _ _ _ h, ih, List.append_assoc]
      rfl
    · have hb : escB c = [c] := by unfold escB; rw [if_neg (by simp [h])]
      rw [hb]
      show unqP false acc (c :: (escL a ++ 34 :: r)) = _
      rw [unqP_plain _ _ _ h, ih, List.append_assoc]
      rfl
theorem unqP_sound : ∀ (l acc a r : List UInt8), (unqP false acc l = some (a, r) → ∃ b, a = acc ++ b ∧ l = escL b ++ 34 :: r) ∧ (unqP true acc l = some (a, r) → ∃ c b, hitB c = true ∧ a = acc ++ c :: b ∧ l = c :: (escL b ++ 34 :: r)) := by
  intro l
  induction l with
  | nil =>
    intro acc a r
    constructor
    · intro h; simp [unqP] at h
    · intro h; simp [unqP] at h
  | cons c l ih =>
    intro acc a r
    constructor
    · intro h
      unfold unqP at h
      split at h
      · next e =>
        cases h
        exact ⟨[], by simp, by rw [e]; rfl⟩
      · next e =>
        split at h
        · next e2 =>
          obtain ⟨d, b, h1, h2, h3⟩ := (ih acc a r).2 h
          refine ⟨d :: b, h2, ?_⟩
          have hb : escL (d :: b) = [92, d] ++ escL b := by
            have : escB d = [92, d] := by unfold escB; rw [if_pos h1]
            simp [escL, this]
          rw [hb, h3, e2]
          rfl
        · next e2 =>
          obtain ⟨b, h2, h3⟩ := (ih (acc ++ [c]) a r).1 h
          refine ⟨c :: b, by rw [h2, List.append_assoc]; rfl, ?_⟩
          have hb : escL (c :: b) = [c] ++ escL b := by
            have : escB c = [c] := by
              unfold escB
              rw [if_neg (by simp [hitB, e, e2])]
            simp [escL, this]
          rw [hb, h3]
          rfl
    · intro h
      unfold unqP at h
      split at h
      · next e =>
        obtain ⟨b, h2, h3⟩ := (ih (acc ++ [c]) a r).1 h
        exact ⟨c, b, e, by rw [h2, List.append_assoc]; rfl, by rw [h3]⟩
      · cases h
theorem atomB_32 : atomB 32 = false := by decide
theorem atomB_41 : atomB 41 = false := by decide
theorem atomB_34 : atomB 34 = false := by decide
theorem takeP_none {c : UInt8} {l : List UInt8} (h : l.head? ≠ some c) : takeP [c] l = none := by
  match l, h with
  | [], _ => rfl
  | x :: r, h =>
    unfold takeP
    rw [if_neg (fun e => h (by rw [e]; rfl))]
theorem nameL_full {t a : List UInt8} (h : NameTx t a) (r : List UInt8) (hr : ∀ x, r.head? = some x → atomB x = false) : nameL (t ++ r) = some (a, r) := by
  cases h with
  | atom _ h ha =>
    have h2 := takeWhile_stop atomB t r ha hr
    have h3 : takeP [34] (t ++ r) = none := by
      apply takeP_none
      match t, h, ha with
      | x :: t, _, ha =>
        intro e
        rw [List.cons_append, List.head?_cons] at e
        cases e
        rw [List.all_cons, atomB_34] at ha
        cases ha
    unfold nameL
    rw [h3]
    simp only
    rw [h2.1, h2.2, if_neg h]
  | quo =>
    have h3 : takeP [34] (quoteL a ++ r) = some (escL a ++ 34 :: r) := by
      rw [takeP_iff]
      unfold quoteL
      simp
    unfold nameL
    rw [h3]
    simp only
    rw [unqP_full]
    rfl
theorem nameL_sound {l a r : List UInt8} (h : nameL l = some (a, r)) : ∃ t, l = t ++ r ∧ NameTx t a := by
  unfold nameL at h
  split at h
  · next r' hr =>
    rw [takeP_iff] at hr
    obtain ⟨b, h1, h2⟩ := (unqP_sound r' [] a r).1 h
    simp only [List.nil_append] at h1
    subst h1
    exact ⟨quoteL a, by rw [hr, h2]; unfold quoteL; simp, .quo a⟩
  · split at h
    · cases h
    · next hne =>
      cases h
      exact ⟨_, List.takeWhile_append_dropWhile.symm, .atom _ hne (takeWhile_all _ _)⟩
theorem nmsL_full : ∀ {t : List UInt8} {ns : List (List UInt8)}, NmsTx t ns → ∀ (n : Nat) (r : List UInt8) (acc : List (List UInt8)), t.length < n → nmsL n (t ++ 41 :: r) acc = some (acc ++ ns, r) := by
  intro t ns h
  induction h with
  | one t a h =>
    intro n r acc hn
    obtain ⟨n, rfl⟩ : ∃ m, n = m + 1 := ⟨n - 1, by omega⟩
    unfold nmsL
    rw [nameL_full h (41 :: r) (fun x hx => by cases hx; exact atomB_41)]
    rfl
  | more t a l as1 h hl ih =>
    intro n r acc hn
    obtain ⟨n, rfl⟩ : ∃ m, n = m + 1 := ⟨n - 1, by omega⟩
    unfold nmsL
    rw [List.append_assoc, nameL_full h ((32 :: l) ++ 41 :: r) (fun x hx => by cases hx; exact atomB_32)]
    simp only
    have h2 : takeP [32] (32 :: l ++ 41 :: r) = some (l ++ 41 :: r) := rfl
    rw [h2]
    simp only
    rw [ih n r (acc ++ [a]) (by simp at hn; omega), List.append_assoc]
    rfl
theorem nmsL_sound : ∀ (n : Nat) (l : List UInt8) (acc q : List (List UInt8)) (r : List UInt8), nmsL n l acc = some (q, r) → ∃ t ns, l = t ++ 41 :: r ∧ q = acc ++ ns ∧ NmsTx t ns := by
  intro n
  induction n with
  | zero => intro l acc q r h; cases h
  | succ n ih =>
    intro l acc q r h
    unfold nmsL at h
    split at h
    · cases h
    · next a r1 h1 =>
      obtain ⟨t, e1, e2⟩ := nameL_sound h1
      split at h
      · next r' hr =>
        rw [takeP_iff] at hr
        obtain ⟨t2, ns, f1, f2, f3⟩ := ih _ _ _ _ h
        refine ⟨t ++ 32 :: t2, a :: ns, ?_, by rw [f2, List.append_assoc]; rfl, .more _ _ _ _ e2 f3⟩
        rw [e1, hr, f1]
        simp
      · split at h
        · next r' hr =>
          rw [takeP_iff] at hr
          cases h
          exact ⟨t, [a], by rw [e1, hr]; rfl, rfl, .one _ _ e2⟩
        · cases h
theorem namesL_full {N : List UInt8} {ns : List (List UInt8)} (h : NOpt N ns) (C : List UInt8) : namesL (N ++ 93 :: C) = some (ns, 93 :: C) := by
  rcases h with ⟨rfl, rfl⟩ | ⟨t, rfl, ht⟩
  · rfl
  · have h2 : takeP [32, 40] (32 :: 40 :: (t ++ [41]) ++ 93 :: C) = some (t ++ 41 :: 93 :: C) := by
      rw [takeP_iff]
      simp
    unfold namesL
    rw [h2]
    simp only
    rw [nmsL_full ht _ _ _ (by simp; omega)]
    rfl
theorem namesL_sound {l r : List UInt8} {ns : List (List UInt8)} (h : namesL l = some (ns, r)) : ∃ N, l = N ++ r ∧ NOpt N ns := by
  unfold namesL at h
  split at h
  · cases h
    exact ⟨[], rfl, .inl ⟨rfl, rfl⟩⟩
  · next r' hr =>
    rw [takeP_iff] at hr
    obtain ⟨t, ns', f1, f2, f3⟩ := nmsL_sound _ _ _ _ _ h
    rw [List.nil_append] at f2
    subst f2
    exact ⟨32 :: 40 :: (t ++ [41]), by rw [hr, f1]; simp, .inr ⟨t, rfl, f3⟩⟩
theorem isDig_62 : isDig 62 = false := by decide
theorem cutL_full {C : List UInt8} {c : Bool} {a b : Int} (h : CutTx C c a b) : cutL C = some (c, a, b, []) := by
  rcases h with ⟨rfl, rfl, rfl, rfl⟩ | ⟨d1, d2, n1, n2, rfl, h1, h2, rfl, rfl, rfl⟩
  · rfl
  · have e1 := take_digits (r := 46 :: (d2 ++ [62])) h1 (fun x hx => by cases hx; exact isDig_46)
    have e2 := take_digits (r := [62]) h2 (fun x hx => by cases hx; exact isDig_62)
    have e3 : takeP [60] (60 :: (d1 ++ 46 :: (d2 ++ [62]))) = some (d1 ++ 46 :: (d2 ++ [62])) := rfl
    have e4 : takeP [46] (46 :: (d2 ++ [62])) = some (d2 ++ [62]) := rfl
    have e5 : takeP [62] [62] = some [] := rfl
    unfold cutL
    rw [e3]
    simp only
    rw [e1.1, e1.2, h1]
    simp only
    rw [e4]
    simp only
    rw [e2.1, e2.2, h2]
    simp only
    rw [e5]
theorem cutL_sound {l r : List UInt8} {c : Bool} {a b : Int} (h : cutL l = some (c, a, b, r)) : ∃ C, l = C ++ r ∧ CutTx C c a b := by
  unfold cutL at h
  split at h
  · cases h
    exact ⟨[], rfl, .inl ⟨rfl, rfl, rfl, rfl⟩⟩
  · next r1 hr1 =>
    rw [takeP_iff] at hr1
    split at h
    · cases h
    · next n1 h1 =>
      split at h
      · cases h
      · next r2 hr2 =>
        rw [takeP_iff] at hr2
        split at h
        · cases h
        · next n2 h2 =>
          split at h
          · cases h
          · next r3 hr3 =>
            rw [takeP_iff] at hr3
            cases h
            refine ⟨60 :: (r1.takeWhile isDig ++ 46 :: (r2.takeWhile isDig ++ [62])), ?_, .inr ⟨_, _, _, _, rfl, h1, h2, rfl, rfl, rfl⟩⟩
            have w1 : r1.takeWhile isDig ++ r1.dropWhile isDig = r1 := List.takeWhile_append_dropWhile
            have w2 : r2.takeWhile isDig ++ r2.dropWhile isDig = r2 := List.takeWhile_append_dropWhile
            rw [hr1]
            conv => lhs; rw [← w1, hr2, ← w2, hr3]
            simp
theorem specL_iff (l : List UInt8) (s : Spc) : specL l = some s ↔ TextOf l s := by
  constructor
  · intro h
    unfold specL at h
    split at h
    · cases h
    · next l1 h1 =>
      rw [takeP_iff] at h1
      split at h
      · cases h
      · next p k l2 h2 =>
        obtain ⟨A, p', e1, e2, e3, _⟩ := askL_sound _ _ _ _ _ _ h2
        rw [List.nil_append] at e2
        subst e2
        split at h
        · cases h
        · next ns l3 h3 =>
          obtain ⟨N, e4, e5⟩ := namesL_sound h3
          split at h
          · cases h
          · next l4 h4 =>
            rw [takeP_iff] at h4
            split at h
            · cases h
            · next c a b l5 h5 =>
              obtain ⟨C, e6, e7⟩ := cutL_sound h5
              split at h
              · next e8 =>
                cases h
                subst e8
                rw [List.append_nil] at e6
                exact ⟨A, N, C, k, by rw [h1, e1, e4, h4, e6]; rfl, e3, rfl, e5, e7⟩
              · cases h
  · rintro ⟨A, N, C, k, e1, e2, e3, e4, e5⟩
    have h1 : takeP [91] l = some (A ++ (N ++ 93 :: C)) := by rw [takeP_iff, e1]; rfl
    have h2 : askL ((A ++ (N ++ 93 :: C)).length + 1) (A ++ (N ++ 93 :: C)) [] = some ([] ++ s.path, k, N ++ 93 :: C) := by
      refine askL_full e2 _ _ _ (by simp; omega) ?_ (fun h => (h rfl).elim)
      rcases e4 with ⟨rfl, _⟩ | ⟨t, rfl, _⟩
      · exact ends_cons (.inr rfl)
      · exact ends_cons (.inl rfl)
    unfold specL
    rw [h1]
    simp only
    rw [h2]
    simp only
    rw [namesL_full e4]
    simp only
    have h4 : takeP [93] (93 :: C) = some C := rfl
    rw [h4]
    simp only
    rw [cutL_full e5]
    simp only [List.nil_append, if_true]
    rw [← e3]
end Go.Proofs.YthcleaflhljdlaaGreatDoor
