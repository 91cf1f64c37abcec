/- Plain: the addresses of a text that was made of them. -/
import Derived.Test.YtjlcphofkepajaaGreatAdZ
import Derived.Test.YtjlcphofkepajaaGreatAdP
namespace Go.Proofs.YtjlcphofkepajaaGreat
open Go Go.RowKit

def toX (a : Adr) : Adx := ⟨(a.kind : Int), a.name, a.loc, a.host⟩
def hostB (c : UInt8) : Bool := (decide (97 ≤ c.toNat) && decide (c.toNat ≤ 122)) || (c == 46 || c == 45)
def hostL (l : List UInt8) : List UInt8 := 104 :: l.filter hostB
theorem host_word {c : UInt8} (h : hostB c = true) : wordB c = true ∧ c ≠ 91 := by
  unfold hostB at h
  simp only [Bool.or_eq_true, Bool.and_eq_true, decide_eq_true_eq, beq_iff_eq] at h
  have hs : ∀ d : UInt8, c ≠ d → (c == d) = false := fun d hd => by simpa using hd
  have key : ∀ n : Nat, n < 256 → c.toNat = n → c = UInt8.ofNat n := fun n hn e => toNat_eq (by rw [e, UInt8.toNat_ofNat']; omega)
  have ne : ∀ d : UInt8, c.toNat ≠ d.toNat → c ≠ d := fun d hd e => hd (by rw [e])
  rcases h with ⟨h1, h2⟩ | rfl | rfl
  · refine ⟨?_, ne 91 (by show c.toNat ≠ 91; omega)⟩
    unfold wordB signB partB
    rw [hs 60 (ne 60 (by show c.toNat ≠ 60; omega)), hs 62 (ne 62 (by show c.toNat ≠ 62; omega)), hs 58 (ne 58 (by show c.toNat ≠ 58; omega)), hs 59 (ne 59 (by show c.toNat ≠ 59; omega)), hs 44 (ne 44 (by show c.toNat ≠ 44; omega)), hs 64 (ne 64 (by show c.toNat ≠ 64; omega)),
      hs 40 (ne 40 (by show c.toNat ≠ 40; omega)), hs 41 (ne 41 (by show c.toNat ≠ 41; omega)), hs 34 (ne 34 (by show c.toNat ≠ 34; omega)), decide_eq_true (p := 32 < c.toNat) (by omega), decide_eq_true (p := c.toNat ≠ 127) (by omega)]
    rfl
  · exact ⟨by decide, by decide⟩
  · exact ⟨by decide, by decide⟩
theorem bareA_all (y : List UInt8) (hy : endsL y) : ∀ l : List UInt8, (∀ c ∈ l, wordB c = true ∧ c ≠ 91) → bareA false (l ++ y) = some (l, y)
  | [], _ => by
    cases y with
    | nil => rfl
    | cons c r =>
      obtain ⟨h1, h2⟩ := hy c r rfl
      show (if c = 91 then _ else if wordB c = true then _ else _) = _
      rw [if_neg h2, if_neg (by rw [h1]; simp)]
  | c :: l, h => by
    obtain ⟨h1, h2⟩ := h c List.mem_cons_self
    show (if c = 91 then _ else if wordB c = true then preA c (bareA false (l ++ y)) else _) = _
    rw [if_neg h2, if_pos h1, bareA_all y hy l (fun x hx => h x (List.mem_cons_of_mem _ hx))]
    rfl
theorem hostL_word (l : List UInt8) : ∀ c ∈ hostL l, wordB c = true ∧ c ≠ 91 := by
  intro c hc
  rcases List.mem_cons.1 hc with rfl | hc
  · exact ⟨by decide, by decide⟩
  · exact host_word (List.mem_filter.1 hc).2
theorem toksA_host (l y : List UInt8) : toksA (hostL l ++ 62 :: y) = (.wrd (hostL l) :: (toksA (62 :: y)).1, (toksA (62 :: y)).2) := by
  have hb := bareA_all (62 :: y) (fun c r h => by cases h; exact ⟨by decide, by decide⟩) (hostL l) (hostL_word l)
  have hp : pcL (sk (hostL l ++ 62 :: y)) = .tok (.wrd (hostL l)) (62 :: y) := by
    show pcL (104 :: (l.filter hostB ++ 62 :: y)) = _
    exact pcL_bare (by decide) (by decide) hb (by unfold hostL; simp)
  exact toksA_tok hp
theorem toksA_quote (n y : List UInt8) : toksA (quoteL n ++ y) = (.wrd n :: (toksA y).1, (toksA y).2) := by
  have hu := unqL_esc y n []
  rw [List.nil_append] at hu
  have e : quoteL n ++ y = 34 :: (n.flatMap (fun c => if c == 34 || c == 92 then [92, c] else [c]) ++ 34 :: y) := by
    unfold quoteL escL
    simp only [List.append_assoc, List.cons_append, List.nil_append]
    rfl
  have hp : pcL (sk (quoteL n ++ y)) = .tok (.wrd n) y := by
    rw [e, sk_not 34 _ (by decide) (by decide), pcL_cons, if_neg (by decide), if_pos rfl, hu]
  exact toksA_tok hp
theorem toksA_sign (c : UInt8) (y : List UInt8) (h1 : blk c = false) (h2 : c ≠ 40) (h3 : signB c = true) : toksA (c :: y) = (.sgn c :: (toksA y).1, (toksA y).2) :=
  toksA_tok (by rw [sk_not c y h1 h2, pcL_cons, if_pos h3])
def boxTk (nm lo h : List UInt8) : List Tok := (if nm = [] then [] else [.wrd nm]) ++ [.sgn 60, .wrd lo, .sgn 64, .wrd h, .sgn 62]
theorem toksA_box (nm lo l y : List UInt8) : toksA (boxL nm lo (hostL l) ++ y) = (boxTk nm lo (hostL l) ++ (toksA y).1, (toksA y).2) := by
  have e1 : toksA ([60] ++ quoteL lo ++ 64 :: hostL l ++ [62] ++ y) = ([.sgn 60, .wrd lo, .sgn 64, .wrd (hostL l), .sgn 62] ++ (toksA y).1, (toksA y).2) := by
    simp only [List.append_assoc, List.cons_append, List.nil_append]
    rw [toksA_sign 60 _ (by decide) (by decide) (by decide), toksA_quote, toksA_sign 64 _ (by decide) (by decide) (by decide), toksA_host, toksA_sign 62 _ (by decide) (by decide) (by decide)]
  have hne : ¬ hostL l = [] := by unfold hostL; simp
  unfold boxL boxTk
  rw [if_neg hne]
  by_cases hn : nm = []
  · rw [if_pos hn, if_pos hn, List.nil_append]
    exact e1
  · rw [if_neg hn, if_neg hn]
    have e2 : quoteL nm ++ [32] ++ [60] ++ quoteL lo ++ 64 :: hostL l ++ [62] ++ y = quoteL nm ++ (32 :: ([60] ++ quoteL lo ++ 64 :: hostL l ++ [62] ++ y)) := by simp
    rw [e2, toksA_quote, toksA_sk (sk_blk 32 _ rfl), e1]
    rfl
abbrev Bx := List UInt8 × List UInt8
def bxA (h : List UInt8) (b : Bx) : Adr := ⟨0, b.1, b.2, h⟩
def tailTk (h : List UInt8) (bs : List Bx) : List Tok := bs.flatMap (fun b => .sgn 44 :: boxTk b.1 b.2 h)
theorem toksA_tail (l y : List UInt8) : ∀ bs : List Bx, toksA (textA (some 0) (bs.map (fun b => toX (bxA (hostL l) b))) ++ y) = (tailTk (hostL l) bs ++ (toksA y).1, (toksA y).2)
  | [] => rfl
  | b :: bs => by
    have ih := toksA_tail l y bs
    show toksA ([44, 32] ++ boxL b.1 b.2 (hostL l) ++ textA (some 0) (bs.map (fun b => toX (bxA (hostL l) b))) ++ y) = _
    simp only [List.append_assoc, List.cons_append, List.nil_append]
    rw [toksA_sign 44 _ (by decide) (by decide) (by decide), toksA_sk (sk_blk 32 _ rfl), toksA_box, ih]
    simp [tailTk]
def seqTk (h : List UInt8) : List Bx → List Tok
  | [] => []
  | b :: bs => boxTk b.1 b.2 h ++ tailTk h bs
theorem toksA_seq (l y : List UInt8) (p : Option Int) (hp : sepL p 0 = []) (bs : List Bx) : toksA (textA p (bs.map (fun b => toX (bxA (hostL l) b))) ++ y) = (seqTk (hostL l) bs ++ (toksA y).1, (toksA y).2) := by
  cases bs with
  | nil => rfl
  | cons b bs =>
    show toksA (sepL p 0 ++ boxL b.1 b.2 (hostL l) ++ textA (some 0) (bs.map (fun b => toX (bxA (hostL l) b))) ++ y) = _
    rw [hp, List.nil_append, List.append_assoc, toksA_box, toksA_tail]
    simp [seqTk]
theorem wboxT_box (nm lo h : List UInt8) (u : List Tok) : wboxT (boxTk nm lo h ++ u) = (true, u, [⟨0, nm, lo, h⟩]) := by
  unfold boxTk
  by_cases hn : nm = []
  · subst hn
    simp [wboxT, wordsT, boxT, takesT, wayT, placeT, hostT, wordT, Lib.join, List.intercalate]
  · rw [if_neg hn]
    simp [wboxT, wordsT, boxT, takesT, wayT, placeT, hostT, wordT, Lib.join, List.intercalate]
theorem itemT_box (nm lo h : List UInt8) (u : List Tok) : itemT (boxTk nm lo h ++ u) = (true, u, [⟨0, nm, lo, h⟩]) := by
  unfold boxTk
  by_cases hn : nm = []
  · subst hn
    simp [itemT, wordsT, boxT, takesT, wayT, placeT, hostT, wordT, Lib.join, List.intercalate]
  · rw [if_neg hn]
    simp [itemT, wordsT, boxT, takesT, wayT, placeT, hostT, wordT, Lib.join, List.intercalate]
theorem items_tail {item : List Tok → Res} (h : List UInt8) (hi : ∀ nm lo u, item (boxTk nm lo h ++ u) = (true, u, [⟨0, nm, lo, h⟩])) (u : List Tok) (hu : takesT 44 u = (false, u)) :
    ∀ (bs : List Bx) (b : Bx), itemsT item (bs.length + 1) (boxTk b.1 b.2 h ++ tailTk h bs ++ u) = (true, u, bxA h b :: bs.map (bxA h))
  | [], b => by
    show itemsT item 1 (boxTk b.1 b.2 h ++ [] ++ u) = _
    rw [List.append_nil]
    exact itemsT_last (hi b.1 b.2 u) hu
  | b' :: bs, b => by
    have e : boxTk b.1 b.2 h ++ tailTk h (b' :: bs) ++ u = boxTk b.1 b.2 h ++ (.sgn 44 :: (boxTk b'.1 b'.2 h ++ tailTk h bs ++ u)) := by simp [tailTk]
    rw [e]
    have h2 : takesT 44 (.sgn 44 :: (boxTk b'.1 b'.2 h ++ tailTk h bs ++ u)) = (true, boxTk b'.1 b'.2 h ++ tailTk h bs ++ u) := by simp [takesT]
    show itemsT item (bs.length + 1 + 1) _ = _
    rw [itemsT_more (hi b.1 b.2 _) h2, items_tail h hi u hu bs b']
    rfl
theorem items_seq {item : List Tok → Res} (h : List UInt8) (hi : ∀ nm lo u, item (boxTk nm lo h ++ u) = (true, u, [⟨0, nm, lo, h⟩])) (u : List Tok) (hu : takesT 44 u = (false, u)) (h0 : item u = (true, u, [])) (bs : List Bx) :
    itemsT item (bs.length + 1) (seqTk h bs ++ u) = (true, u, bs.map (bxA h)) := by
  cases bs with
  | nil => exact itemsT_last h0 hu
  | cons b bs =>
    show itemsT item (bs.length + 1 + 1) (boxTk b.1 b.2 h ++ tailTk h bs ++ u) = _
    exact itemsT_fuel _ _ _ _ _ (by omega) (items_tail h hi u hu bs b)
theorem seqTk_len (h : List UInt8) (bs : List Bx) : bs.length ≤ (seqTk h bs).length := by
  have ht : ∀ bs : List Bx, bs.length ≤ (tailTk h bs).length := by
    intro bs
    induction bs with
    | nil => exact Nat.le_refl _
    | cons b bs ih =>
      show bs.length + 1 ≤ ((.sgn 44 :: boxTk b.1 b.2 h) ++ tailTk h bs).length
      rw [List.length_append, List.length_cons]
      omega
  cases bs with
  | nil => exact Nat.le_refl _
  | cons b bs =>
    have := ht bs
    show bs.length + 1 ≤ (boxTk b.1 b.2 h ++ tailTk h bs).length
    rw [List.length_append]
    have : 1 ≤ (boxTk b.1 b.2 h).length := by unfold boxTk; simp
    omega
/-- Boxes alone. -/
theorem back_boxes (l : List UInt8) (bs : List Bx) : listA (textA none ((bs.map (bxA (hostL l))).map toX)) = some (bs.map (bxA (hostL l))) := by
  have e := toksA_seq l [] none rfl bs
  rw [List.append_nil] at e
  have e0 : toksA [] = ([], true) := rfl
  rw [e0, List.append_nil] at e
  unfold listA
  rw [List.map_map]
  show listT (toksA (textA none (bs.map (fun b => toX (bxA (hostL l) b))))) = _
  rw [e]
  have h := items_seq (hostL l) (fun nm lo u => itemT_box nm lo (hostL l) u) [] rfl rfl bs
  rw [List.append_nil] at h
  exact listT_of h (by have := seqTk_len (hostL l) bs; omega)
abbrev begA : Adr := ⟨1, [103], [], []⟩
abbrev endA : Adr := ⟨2, [], [], []⟩
/-- Boxes in a group. -/
theorem back_group (l : List UInt8) (bs : List Bx) : listA (textA none ((begA :: bs.map (bxA (hostL l)) ++ [endA]).map toX)) = some (begA :: bs.map (bxA (hostL l)) ++ [endA]) := by
  have hm : textA none ((begA :: bs.map (bxA (hostL l)) ++ [endA]).map toX) = quoteL [103] ++ (58 :: (textA (some 1) (bs.map (fun b => toX (bxA (hostL l) b))) ++ [59])) := by
    have e1 : (begA :: bs.map (bxA (hostL l)) ++ [endA]).map toX = toX begA :: (bs.map (fun b => toX (bxA (hostL l) b)) ++ [toX endA]) := by simp
    rw [e1]
    show [] ++ (quoteL [103] ++ [58]) ++ textA (some 1) (bs.map (fun b => toX (bxA (hostL l) b)) ++ [toX endA]) = _
    rw [textA_snoc]
    have e2 : sepL (lastK (some 1) (bs.map (fun b => toX (bxA (hostL l) b)))) (toX endA).kind = [] := by
      cases lastK (some 1) (bs.map (fun b => toX (bxA (hostL l) b))) with
      | none => rfl
      | some p => exact if_neg (fun h => h.2 rfl)
    rw [e2]
    simp [itemX, toX]
  have e0 : toksA [59] = ([.sgn 59], true) := rfl
  have ht : toksA (quoteL [103] ++ (58 :: (textA (some 1) (bs.map (fun b => toX (bxA (hostL l) b))) ++ [59]))) = (.wrd [103] :: .sgn 58 :: (seqTk (hostL l) bs ++ [.sgn 59]), true) := by
    rw [toksA_quote, toksA_sign 58 _ (by decide) (by decide) (by decide), toksA_seq l [59] (some 1) (by decide) bs, e0]
  unfold listA
  rw [hm, ht]
  have hi := items_seq (hostL l) (fun nm lo u => wboxT_box nm lo (hostL l) u) [.sgn 59] rfl rfl bs
  have hi2 := itemsT_fuel _ ((seqTk (hostL l) bs ++ [Tok.sgn 59]).length + 1) _ _ _ (by have := seqTk_len (hostL l) bs; simp; omega) hi
  have hg := groupT_good (name := [[103]]) hi2
  have hit : itemT (.wrd [103] :: .sgn 58 :: (seqTk (hostL l) bs ++ [.sgn 59])) = (true, [], begA :: bs.map (bxA (hostL l)) ++ [endA]) := by
    show groupT [[103]] (seqTk (hostL l) bs ++ [.sgn 59]) = _
    rw [hg]
    rfl
  exact listT_of (n := 1) (itemsT_last hit rfl) (by simp)
end Go.Proofs.YtjlcphofkepajaaGreat
