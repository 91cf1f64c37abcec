/- Plain: the document's way: it cuts a text, and finds a spec of just those texts that are a spec's. -/
import Derived.Test.YthcleaflhljdlaaGreatDoorSeN
namespace Go.Proofs.YthcleaflhljdlaaGreatDoor
open Go Go.RowKit

/-- What stands ahead of the last byte of a kind, and behind it. -/
def lastR (c : UInt8) : List UInt8 → Option (List UInt8 × List UInt8)
  | [] => none
  | x :: l =>
    match lastR c l with
    | some (a, b) => some (x :: a, b)
    | none => if x = c then some ([], l) else none
theorem lastR_not {c : UInt8} : ∀ {l : List UInt8}, c ∉ l → lastR c l = none
  | [], _ => rfl
  | x :: l, h => by
    unfold lastR
    rw [lastR_not (fun hm => h (List.mem_cons_of_mem _ hm))]
    simp only
    rw [if_neg (fun e => h (by rw [e]; exact List.mem_cons_self ..))]
theorem lastR_app (c : UInt8) : ∀ (a : List UInt8) {b : List UInt8}, c ∉ b → lastR c (a ++ c :: b) = some (a, b)
  | [], b, h => by
    show lastR c (c :: b) = _
    unfold lastR
    rw [lastR_not h]
    simp
  | x :: a, b, h => by
    show lastR c (x :: (a ++ c :: b)) = _
    unfold lastR
    rw [lastR_app c a h]
theorem lastR_sound {c : UInt8} : ∀ {l a b : List UInt8}, lastR c l = some (a, b) → l = a ++ c :: b ∧ c ∉ b
  | [], a, b, h => by cases h
  | x :: l, a, b, h => by
    unfold lastR at h
    split at h
    · next a' b' h' =>
      cases h
      obtain ⟨e1, e2⟩ := lastR_sound h'
      exact ⟨by rw [e1]; rfl, e2⟩
    · next h' =>
      split at h
      · next e =>
        cases h
        refine ⟨by rw [e]; rfl, fun hm => ?_⟩
        have : ∃ a b, l = a ++ c :: b ∧ c ∉ b := by
          clear h' e
          induction l with
          | nil => cases hm
          | cons y l ih =>
            by_cases hy : c ∈ l
            · obtain ⟨a, b, e1, e2⟩ := ih hy
              exact ⟨y :: a, b, by rw [e1]; rfl, e2⟩
            · have : c = y := by
                rcases List.mem_cons.1 hm with e | e
                · exact e
                · exact (hy e).elim
              exact ⟨[], l, by rw [this]; rfl, hy⟩
        obtain ⟨a, b, e1, e2⟩ := this
        rw [e1, lastR_app c a e2] at h'
        cases h'
      · cases h
/-- What stands ahead of the first byte of a kind, and behind it. -/
def headR (c : UInt8) : List UInt8 → List UInt8 × List UInt8 × Bool
  | [] => ([], [], false)
  | x :: l => if x = c then ([], l, true) else (x :: (headR c l).1, (headR c l).2.1, (headR c l).2.2)
theorem headR_yes (c : UInt8) : ∀ (a b : List UInt8), c ∉ a → headR c (a ++ c :: b) = (a, b, true)
  | [], b, _ => by
    show headR c (c :: b) = _
    unfold headR
    rw [if_pos rfl]
  | x :: a, b, h => by
    show headR c (x :: (a ++ c :: b)) = _
    unfold headR
    rw [if_neg (fun e => h (by rw [e]; exact List.mem_cons_self ..)), headR_yes c a b (fun hm => h (List.mem_cons_of_mem _ hm))]
theorem headR_no (c : UInt8) : ∀ (l : List UInt8), c ∉ l → headR c l = (l, [], false)
  | [], _ => rfl
  | x :: l, h => by
    unfold headR
    rw [if_neg (fun e => h (by rw [e]; exact List.mem_cons_self ..)), headR_no c l (fun hm => h (List.mem_cons_of_mem _ hm))]
theorem headR_sound (c : UInt8) : ∀ (l : List UInt8), ((headR c l).2.2 = true ∧ l = (headR c l).1 ++ c :: (headR c l).2.1 ∧ c ∉ (headR c l).1) ∨ (headR c l = (l, [], false) ∧ c ∉ l)
  | [] => .inr ⟨rfl, by simp⟩
  | x :: l => by
    by_cases e : x = c
    · left
      unfold headR
      rw [if_pos e]
      exact ⟨rfl, by rw [e]; rfl, by simp⟩
    · rcases headR_sound c l with ⟨h1, h2, h3⟩ | ⟨h1, h2⟩
      · left
        unfold headR
        rw [if_neg e]
        refine ⟨h1, ?_, ?_⟩
        · show x :: l = x :: ((headR c l).1 ++ c :: (headR c l).2.1)
          rw [← h2]
        · intro hm
          rcases List.mem_cons.1 hm with h | h
          · exact e h.symm
          · exact h3 h
      · right
        refine ⟨?_, ?_⟩
        · unfold headR
          rw [if_neg e, h1]
        · intro hm
          rcases List.mem_cons.1 hm with h | h
          · exact e h.symm
          · exact h2 h
theorem headR_len (c : UInt8) : ∀ (l : List UInt8), (headR c l).1.length ≤ l.length ∧ (headR c l).2.1.length ≤ l.length
  | [] => ⟨Nat.le_refl _, Nat.le_refl _⟩
  | x :: l => by
    have := headR_len c l
    unfold headR
    split
    · simp
    · simp
      omega
def askR : Nat → List UInt8 → List Int → Option (List Int × Nat)
  | 0, _, _ => none
  | n + 1, l, acc =>
    match l with
    | [] => some (acc, 0)
    | x :: _ =>
      if isDig x = true then
        match numSpec (headR 46 l).1 with
        | none => none
        | some m =>
          if (headR 46 l).2.2 = true then
            if (headR 46 l).2.1 = [] then none else askR n (headR 46 l).2.1 (acc ++ [(m : Int)])
          else some (acc ++ [(m : Int)], 0)
      else
        match whatOf l with
        | some k => some (acc, k)
        | none => none
theorem digits_no {d : List UInt8} {n : Nat} (h : numSpec d = some n) {c : UInt8} (hc : isDig c = false) : c ∉ d := by
  intro hm
  have := (List.all_eq_true.1 (numSpec_digits h).1) c hm
  rw [hc] at this
  cases this
theorem askTx_nil {p : List Int} {k : Nat} (h : AskTx [] p k) : p = [] ∧ k = 0 := by
  generalize hl : ([] : List UInt8) = l at h
  cases h with
  | word w k h => subst hl; rw [whatOf_nil] at h; cases h; exact ⟨rfl, rfl⟩
  | last d n h => subst hl; rw [numSpec_nil] at h; cases h
  | more d n l p k h hr hk => cases d <;> cases hl
theorem askTx_ne {l : List UInt8} {p : List Int} {k : Nat} (h : AskTx l p k) (hl : l ≠ []) : ¬ (p = [] ∧ k = 0) := by
  rintro ⟨rfl, rfl⟩
  cases h with
  | word w k h => exact hl (whatOf_zero h)
theorem askR_full : ∀ {l : List UInt8} {p : List Int} {k : Nat}, AskTx l p k → ∀ (n : Nat) (acc : List Int), l.length < n → askR n l acc = some (acc ++ p, k) := by
  intro l p k h
  induction h with
  | word w k h =>
    intro n acc hn
    obtain ⟨n, rfl⟩ : ∃ m, n = m + 1 := ⟨n - 1, by omega⟩
    match w, h with
    | [], h =>
      rw [whatOf_nil] at h
      cases h
      simp [askR]
    | x :: w, h =>
      unfold askR
      simp only
      rw [if_neg (by rw [(word_not (whatOf_bytes h x (List.mem_cons_self ..))).2]; simp), h]
      simp
  | last d m h =>
    intro n acc hn
    obtain ⟨n, rfl⟩ : ∃ m, n = m + 1 := ⟨n - 1, by omega⟩
    obtain ⟨hd, hne, _⟩ := numSpec_digits h
    match d, hd, hne, h with
    | x :: d, hd, _, h =>
      have hx : isDig x = true := by rw [List.all_cons, Bool.and_eq_true] at hd; exact hd.1
      unfold askR
      simp only
      rw [if_pos hx, headR_no 46 _ (digits_no h isDig_46), h]
      simp
  | more d m l p k h hl hk ih =>
    intro n acc hn
    obtain ⟨n, rfl⟩ : ∃ m, n = m + 1 := ⟨n - 1, by omega⟩
    obtain ⟨hd, hne, _⟩ := numSpec_digits h
    have hlne : l ≠ [] := by
      rintro rfl
      exact hk (askTx_nil hl)
    have hh := headR_yes 46 d l (digits_no h isDig_46)
    match d, hd, hne, h, hh, hn with
    | x :: d, hd, _, h, hh, hn =>
      have hx : isDig x = true := by rw [List.all_cons, Bool.and_eq_true] at hd; exact hd.1
      rw [List.cons_append] at hh
      unfold askR
      simp only [List.cons_append]
      rw [if_pos hx, hh]
      simp only
      rw [h]
      simp only [if_true]
      rw [if_neg hlne, ih n _ (by simp at hn; omega), List.append_assoc]
      rfl
theorem askR_sound : ∀ (n : Nat) (l : List UInt8) (acc q : List Int) (k : Nat), askR n l acc = some (q, k) → ∃ p, q = acc ++ p ∧ AskTx l p k := by
  intro n
  induction n with
  | zero => intro l acc q k h; cases h
  | succ n ih =>
    intro l acc q k h
    unfold askR at h
    split at h
    · cases h
      exact ⟨[], by simp, .word _ _ whatOf_nil⟩
    · next x r =>
      split at h
      · split at h
        · cases h
        · next m hm =>
          split at h
          · next hf =>
            split at h
            · cases h
            · next hne =>
              obtain ⟨p, e1, e2⟩ := ih _ _ _ _ h
              rcases headR_sound 46 (x :: r) with ⟨_, h2, _⟩ | ⟨h1, _⟩
              · refine ⟨(m : Int) :: p, by rw [e1, List.append_assoc]; rfl, ?_⟩
                rw [h2]
                exact .more _ _ _ _ _ hm e2 (askTx_ne e2 hne)
              · rw [h1] at hf
                cases hf
          · next hf =>
            cases h
            rcases headR_sound 46 (x :: r) with ⟨h1, _⟩ | ⟨h1, _⟩
            · exact (hf h1).elim
            · rw [h1] at hm
              exact ⟨_, rfl, .last _ _ hm⟩
      · split at h
        · next k' hk =>
          cases h
          exact ⟨[], by simp, .word _ _ hk⟩
        · cases h
def nameR (l : List UInt8) : Option (List UInt8 × List UInt8) :=
  match l with
  | [] => none
  | x :: r =>
    if x = 34 then
      match unqL false [] r with
      | none => none
      | some (a, r') => if quoteL a ++ r' = x :: r then some (a, r') else none
    else if (x :: r).takeWhile (· != 32) ≠ [] ∧ ((x :: r).takeWhile (· != 32)).all atomB = true then some ((x :: r).takeWhile (· != 32), (x :: r).dropWhile (· != 32)) else none
def nmsR : Nat → List UInt8 → List (List UInt8) → Option (List (List UInt8))
  | 0, _, _ => none
  | n + 1, l, acc =>
    match nameR l with
    | none => none
    | some (a, []) => some (acc ++ [a])
    | some (a, y :: r) => if y = 32 then nmsR n r (acc ++ [a]) else none
theorem nameR_sound {l a r : List UInt8} (h : nameR l = some (a, r)) : ∃ t, l = t ++ r ∧ NameTx t a := by
  unfold nameR at h
  split at h
  · cases h
  · next x r0 =>
    split at h
    · next e =>
      split at h
      · cases h
      · next a' r' h' =>
        split at h
        · next e2 =>
          cases h
          exact ⟨quoteL a, e2.symm, .quo a⟩
        · cases h
    · next e =>
      split at h
      · next e2 =>
        cases h
        exact ⟨_, List.takeWhile_append_dropWhile.symm, .atom _ e2.1 e2.2⟩
      · cases h
theorem unqL_quote (a r : List UInt8) : unqL false [] (escL a ++ 34 :: r) = some (a, r) := by
  have := unqL_esc r a []
  have e : escL a = a.flatMap (fun c => if c == 34 || c == 92 then [92, c] else [c]) := rfl
  rw [e]
  simpa using this
theorem quoteL_cons (a r : List UInt8) : quoteL a ++ r = 34 :: (escL a ++ 34 :: r) := by unfold quoteL; simp
theorem nameR_full {t a : List UInt8} (h : NameTx t a) (r : List UInt8) (hr : r = [] ∨ ∃ r', r = 32 :: r') : nameR (t ++ r) = some (a, r) := by
  cases h with
  | atom _ h ha =>
    have hs : ∀ x, r.head? = some x → (x != 32) = false := by
      rcases hr with rfl | ⟨r', rfl⟩
      · intro x hx; cases hx
      · intro x hx; cases hx; rfl
    have hb : t.all (· != 32) = true := by
      rw [List.all_eq_true]
      intro c hc
      have := (List.all_eq_true.1 ha) c hc
      have hc2 : c ≠ 32 := by rintro rfl; rw [atomB_32] at this; cases this
      simpa using hc2
    have h2 := takeWhile_stop (· != 32) t r hb hs
    match t, h, ha, h2 with
    | x :: t, h, ha, h2 =>
      have hx : x ≠ 34 := by
        rintro rfl
        rw [List.all_cons, atomB_34] at ha
        cases ha
      unfold nameR
      simp only [List.cons_append] at h2 ⊢
      rw [if_neg hx, h2.1, h2.2, if_pos ⟨h, ha⟩]
  | quo =>
    rw [quoteL_cons]
    unfold nameR
    simp only [if_true]
    rw [unqL_quote]
    simp only
    rw [if_pos (quoteL_cons a r)]
theorem nmsR_full : ∀ {t : List UInt8} {ns : List (List UInt8)}, NmsTx t ns → ∀ (n : Nat) (acc : List (List UInt8)), t.length < n → nmsR n t acc = some (acc ++ ns) := by
  intro t ns h
  induction h with
  | one t a h =>
    intro n acc hn
    obtain ⟨n, rfl⟩ : ∃ m, n = m + 1 := ⟨n - 1, by omega⟩
    have := nameR_full h [] (.inl rfl)
    rw [List.append_nil] at this
    unfold nmsR
    rw [this]
  | more t a l as1 h hl ih =>
    intro n acc hn
    obtain ⟨n, rfl⟩ : ∃ m, n = m + 1 := ⟨n - 1, by omega⟩
    unfold nmsR
    rw [nameR_full h (32 :: l) (.inr ⟨l, rfl⟩)]
    simp only [if_true]
    rw [ih n _ (by simp at hn; omega), List.append_assoc]
    rfl
theorem nmsR_sound : ∀ (n : Nat) (l : List UInt8) (acc q : List (List UInt8)), nmsR n l acc = some q → ∃ ns, q = acc ++ ns ∧ NmsTx l ns := by
  intro n
  induction n with
  | zero => intro l acc q h; cases h
  | succ n ih =>
    intro l acc q h
    unfold nmsR at h
    split at h
    · cases h
    · next a h1 =>
      cases h
      obtain ⟨t, e1, e2⟩ := nameR_sound h1
      rw [List.append_nil] at e1
      subst e1
      exact ⟨[a], rfl, .one _ _ e2⟩
    · next a y r h1 =>
      obtain ⟨t, e1, e2⟩ := nameR_sound h1
      split at h
      · next e =>
        obtain ⟨ns, f1, f2⟩ := ih _ _ _ h
        refine ⟨a :: ns, by rw [f1, List.append_assoc]; rfl, ?_⟩
        rw [e1, e]
        exact .more _ _ _ _ e2 f2
      · cases h
/-- What stands between two bytes at the ends. -/
def midOf (c d : UInt8) (l : List UInt8) : Option (List UInt8) :=
  if 2 ≤ l.length ∧ l.head? = some c ∧ l.getLast? = some d then some ((l.drop 1).take (l.length - 2)) else none
theorem midOf_full (c d : UInt8) (t : List UInt8) : midOf c d (c :: (t ++ [d])) = some t := by
  unfold midOf
  rw [if_pos ⟨by simp, rfl, by rw [← List.cons_append, List.getLast?_append]; rfl⟩]
  simp
theorem midOf_sound {c d : UInt8} {l t : List UInt8} (h : midOf c d l = some t) : l = c :: (t ++ [d]) := by
  unfold midOf at h
  split at h
  · next hc =>
    cases h
    obtain ⟨h1, h2, h3⟩ := hc
    match l, h1, h2, h3 with
    | x :: r, h1, h2, h3 =>
      have hx : x = c := Option.some.inj h2
      rcases List.eq_nil_or_concat r with rfl | ⟨L, b, hr⟩
      · simp at h1
      · rw [List.concat_eq_append] at hr
        subst hr
        rw [← List.cons_append, List.getLast?_append] at h3
        have hb : b = d := Option.some.inj h3
        rw [hx, hb]
        simp
  · cases h
def nOptR (inside : List UInt8) : Option (List (List UInt8)) :=
  if (headR 32 inside).2.2 = true then
    match midOf 40 41 (headR 32 inside).2.1 with
    | none => none
    | some t => nmsR (t.length + 1) t []
  else some []
def cutR (tail : List UInt8) : Option (Bool × Int × Int) :=
  if tail = [] then some (false, 0, 0) else
  match midOf 60 62 tail with
  | none => none
  | some t =>
    match numSpec (headR 46 t).1, numSpec (headR 46 t).2.1 with
    | some a, some b => if (headR 46 t).2.2 = true then some (true, (a : Int), (b : Int)) else none
    | _, _ => none
def specR (l : List UInt8) : Option Spc :=
  if l.head? = some 91 then
    match lastR 93 l with
    | none => none
    | some (f, tail) =>
      match askR (l.length + 1) (headR 32 (f.drop 1)).1 [] with
      | none => none
      | some (p, k) =>
        match nOptR (f.drop 1) with
        | none => none
        | some ns =>
          match cutR tail with
          | none => none
          | some (c, a, b) => some ⟨p, (k : Int), ns, c, a, b⟩
  else none
theorem cutR_sound {tail : List UInt8} {c : Bool} {a b : Int} (h : cutR tail = some (c, a, b)) : CutTx tail c a b := by
  unfold cutR at h
  split at h
  · next e =>
    cases h
    exact .inl ⟨e, rfl, rfl, rfl⟩
  · split at h
    · cases h
    · next t ht =>
      have e := midOf_sound ht
      split at h
      · next n1 n2 h1 h2 =>
        split at h
        · next hf =>
          cases h
          rcases headR_sound 46 t with ⟨_, g2, _⟩ | ⟨g1, _⟩
          · refine .inr ⟨_, _, n1, n2, ?_, h1, h2, rfl, rfl, rfl⟩
            rw [e]
            conv => lhs; rw [g2]
            simp
          · rw [g1] at hf
            cases hf
        · cases h
      · cases h
theorem cutR_full {tail : List UInt8} {c : Bool} {a b : Int} (h : CutTx tail c a b) : cutR tail = some (c, a, b) := by
  rcases h with ⟨rfl, rfl, rfl, rfl⟩ | ⟨d1, d2, n1, n2, rfl, h1, h2, rfl, rfl, rfl⟩
  · rfl
  · have e : 60 :: (d1 ++ 46 :: (d2 ++ [62])) = 60 :: ((d1 ++ 46 :: d2) ++ [62]) := by simp
    unfold cutR
    rw [if_neg (by simp), e, midOf_full]
    simp only
    rw [headR_yes 46 d1 d2 (digits_no h1 isDig_46)]
    simp only
    rw [h1, h2]
    simp
theorem cutTx_no {tail : List UInt8} {c : Bool} {a b : Int} (h : CutTx tail c a b) : (93 : UInt8) ∉ tail := by
  rcases h with ⟨rfl, _⟩ | ⟨d1, d2, n1, n2, rfl, h1, h2, _⟩
  · simp
  · have g1 := digits_no (c := 93) h1 (by decide)
    have g2 := digits_no (c := 93) h2 (by decide)
    simp [g1, g2]
theorem askTx_no {l : List UInt8} {p : List Int} {k : Nat} (h : AskTx l p k) : (32 : UInt8) ∉ l := by
  induction h with
  | word w k h =>
    intro hm
    have := (word_not (whatOf_bytes h 32 hm)).1
    revert this
    decide
  | last d n h => exact digits_no h (by decide)
  | more d n l p k h hr hk ih =>
    have g1 := digits_no (c := 32) h (by decide)
    simp [g1, ih]
theorem specR_iff (l : List UInt8) (s : Spc) : specR l = some s ↔ TextOf l s := by
  constructor
  · intro h
    unfold specR at h
    split at h
    · next h91 =>
      split at h
      · cases h
      · next f tail hl =>
        obtain ⟨e1, e2⟩ := lastR_sound hl
        have hf : f = 91 :: f.drop 1 := by
          match f, e1 with
          | [], e1 =>
            rw [e1] at h91
            cases h91
          | x :: f, e1 =>
            rw [e1] at h91
            rw [List.cons_append] at h91
            have := Option.some.inj h91
            rw [this]
            rfl
        split at h
        · cases h
        · next p k hk =>
          obtain ⟨p', f1, f2⟩ := askR_sound _ _ _ _ _ hk
          rw [List.nil_append] at f1
          subst f1
          split at h
          · cases h
          · next ns hns =>
            split at h
            · cases h
            · next c a b hc =>
              cases h
              have hC := cutR_sound hc
              unfold nOptR at hns
              rcases headR_sound 32 (f.drop 1) with ⟨g1, g2, _⟩ | ⟨g1, _⟩
              · rw [if_pos g1] at hns
                split at hns
                · cases hns
                · next t ht =>
                  have g3 := midOf_sound ht
                  obtain ⟨ns', q1, q2⟩ := nmsR_sound _ _ _ _ hns
                  rw [List.nil_append] at q1
                  subst q1
                  refine ⟨_, 32 :: 40 :: (t ++ [41]), tail, k, ?_, f2, rfl, .inr ⟨t, rfl, q2⟩, hC⟩
                  rw [e1]
                  conv => lhs; rw [hf, g2, g3]
                  simp
              · rw [g1] at hns f2
                simp only at hns f2
                cases hns
                refine ⟨_, [], tail, k, ?_, f2, rfl, .inl ⟨rfl, rfl⟩, hC⟩
                rw [e1]
                conv => lhs; rw [hf]
                simp
    · cases h
  · rintro ⟨A, N, C, k, e1, e2, e3, e4, e5⟩
    have h1 : l.head? = some 91 := by rw [e1]; rfl
    have h2 : lastR 93 l = some (91 :: (A ++ N), C) := by
      have := lastR_app 93 (91 :: (A ++ N)) (cutTx_no e5)
      rw [e1, ← this]
      simp
    unfold specR
    rw [if_pos h1, h2]
    simp only [List.drop_succ_cons, List.drop_zero]
    have hA : (headR 32 (A ++ N)).1 = A ∧ nOptR (A ++ N) = some s.names := by
      rcases e4 with ⟨rfl, hn⟩ | ⟨t, rfl, ht⟩
      · rw [List.append_nil]
        have g := headR_no 32 A (askTx_no e2)
        refine ⟨by rw [g], ?_⟩
        unfold nOptR
        rw [g, hn]
        simp
      · have g := headR_yes 32 A (40 :: (t ++ [41])) (askTx_no e2)
        refine ⟨by rw [g], ?_⟩
        unfold nOptR
        rw [g]
        simp only [if_true]
        rw [midOf_full]
        simp only
        rw [nmsR_full ht _ _ (by omega)]
        rfl
    rw [hA.1, hA.2, askR_full e2 _ _ (by rw [e1]; simp; omega)]
    simp only [List.nil_append]
    rw [cutR_full e5]
    simp only
    rw [← e3]
theorem spec_same (l : List UInt8) : specR l = specL l := by
  cases h : specL l with
  | some s => exact (specR_iff l s).2 ((specL_iff l s).1 h)
  | none =>
    cases h2 : specR l with
    | none => rfl
    | some s =>
      rw [(specL_iff l s).2 ((specR_iff l s).1 h2)] at h
      cases h
end Go.Proofs.YthcleaflhljdlaaGreatDoor
