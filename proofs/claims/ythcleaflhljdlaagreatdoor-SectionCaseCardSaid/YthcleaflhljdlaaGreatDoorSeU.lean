/- Plain: SectionCase. -/
import Derived.Test.YthcleaflhljdlaaGreatDoorSeT
namespace Go.Proofs.YthcleaflhljdlaaGreatDoor
open Go Go.RowKit

def digB (c : UInt8) : UInt8 := byteN (49 + c.toNat % 9)
def digI (c : UInt8) : Int := ((1 + c.toNat % 9 : Nat) : Int)
def flatT (l : List UInt8) : List UInt8 := l.flatMap fun c => [digB c, 46]
theorem flatT_cons (c : UInt8) (l : List UInt8) : flatT (c :: l) = [digB c] ++ 46 :: flatT l := by simp [flatT]
theorem flatT_snoc (c : UInt8) (l : List UInt8) : flatT (l ++ [c]) = flatT l ++ [digB c, 46] := by simp [flatT]
theorem flatT_len (l : List UInt8) : (flatT l).length = 2 * l.length := by
  induction l with
  | nil => rfl
  | cons c l ih => rw [flatT_cons]; simp [ih]; omega
theorem digB_num (c : UInt8) : numSpec [digB c] = some (1 + c.toNat % 9) := by
  have h : c.toNat % 9 < 9 := Nat.mod_lt _ (by decide)
  unfold digB
  generalize c.toNat % 9 = n at h
  rcases (by omega : n = 0 ∨ n = 1 ∨ n = 2 ∨ n = 3 ∨ n = 4 ∨ n = 5 ∨ n = 6 ∨ n = 7 ∨ n = 8) with rfl | rfl | rfl | rfl | rfl | rfl | rfl | rfl | rfl <;> decide
theorem askTx_flat {w : List UInt8} {k : Nat} (h : whatOf w = some k) (hk : k ≠ 0) : ∀ l : List UInt8, AskTx (flatT l ++ w) (l.map digI) k
  | [] => .word w k h
  | c :: l => by
    rw [flatT_cons, List.append_assoc]
    exact .more [digB c] _ _ _ _ (digB_num c) (askTx_flat h hk l) (fun e => hk e.2)
/-- What is asked for, of a path of these. -/
def caseS (l : List UInt8) (k : Nat) (ns : List (List UInt8)) : Spc := ⟨l.map digI, (k : Int), ns, false, 0, 0⟩
theorem case_text {w N : List UInt8} {k : Nat} {ns : List (List UInt8)} (l : List UInt8) (h : whatOf w = some k) (hk : k ≠ 0) (hN : NOpt N ns) : TextOf (91 :: (flatT l ++ (w ++ (N ++ [93])))) (caseS l k ns) :=
  ⟨flatT l ++ w, N, [], k, by simp, askTx_flat h hk l, rfl, hN, .inl ⟨rfl, rfl, rfl, rfl⟩⟩
theorem case_path (l : List UInt8) (hl : l.length ≤ 10) : pathOk (l.map digI) = true := by
  unfold pathOk
  rw [Bool.and_eq_true, decide_eq_true_eq, List.length_map, List.all_eq_true]
  refine ⟨by omega, fun n hn => ?_⟩
  obtain ⟨c, _, rfl⟩ := List.mem_map.1 hn
  rw [numOk_iff]
  have h : c.toNat % 9 < 9 := Nat.mod_lt _ (by decide)
  unfold digI
  omega
/-- The five words, their names, and what they ask for. -/
def csW : Nat → List UInt8
  | 0 => wordL 1
  | 1 => wordL 4
  | 2 => wordL 5
  | 3 => wordL 2
  | _ => wordL 3
def csN : Nat → List UInt8
  | 0 => []
  | 1 => []
  | 2 => []
  | 3 => [32, 40, 97, 41]
  | _ => [32, 40, 98, 32, 99, 41]
def csK : Nat → Nat
  | 0 => 1
  | 1 => 4
  | 2 => 5
  | 3 => 2
  | _ => 3
def csM : Nat → List (List UInt8)
  | 0 => []
  | 1 => []
  | 2 => []
  | 3 => [[97]]
  | _ => [[98], [99]]
theorem five {kk : Nat} (h : kk < 5) : kk = 0 ∨ kk = 1 ∨ kk = 2 ∨ kk = 3 ∨ kk = 4 := by omega
theorem cs_nopt {kk : Nat} (h : kk < 5) : NOpt (csN kk) (csM kk) := by
  rcases five h with rfl | rfl | rfl | rfl | rfl
  · exact .inl ⟨rfl, rfl⟩
  · exact .inl ⟨rfl, rfl⟩
  · exact .inl ⟨rfl, rfl⟩
  · exact .inr ⟨[97], rfl, .one _ _ (.atom _ (by decide) (by decide))⟩
  · exact .inr ⟨[98] ++ 32 :: [99], rfl, .more _ _ _ _ (.atom _ (by decide) (by decide)) (.one _ _ (.atom _ (by decide) (by decide)))⟩
theorem cs_k {kk : Nat} (h : kk < 5) : csK kk ≠ 0 := by
  rcases five h with rfl | rfl | rfl | rfl | rfl <;> decide
theorem cs_what {kk : Nat} (h : kk < 5) (w : List UInt8) (hw : foldS w = foldS (csW kk)) : whatOf w = some (csK kk) := by
  unfold whatOf isWord
  rw [hw]
  rcases five h with rfl | rfl | rfl | rfl | rfl <;> decide
theorem cs_check {kk : Nat} (h : kk < 5) (l : List UInt8) (hl : l.length ≤ 10) (hl0 : l ≠ []) : checkS (caseS l (csK kk) (csM kk)) = true := by
  unfold checkS
  have h1 : pathOk (caseS l (csK kk) (csM kk)).path = true := case_path l hl
  have h2 : whatOk (caseS l (csK kk) (csM kk)) = true := by
    rcases five h with rfl | rfl | rfl | rfl | rfl
    · rfl
    · rfl
    · match l, hl0 with
      | c :: l, _ => rfl
    · rfl
    · rfl
  rw [h1, h2]
  rfl
/-- With small letters in its word. -/
theorem case_good {kk : Nat} (h : kk < 5) (l w : List UInt8) (hl : l.length ≤ 10) (hl0 : l ≠ []) (hw : foldS w = foldS (csW kk)) : specC (91 :: (flatT l ++ (w ++ (csN kk ++ [93])))) = some (caseS l (csK kk) (csM kk)) := by
  unfold specC
  rw [(specL_iff _ _).2 (case_text l (cs_what h w hw) (cs_k h) (cs_nopt h))]
  simp only
  rw [if_pos (cs_check h l hl hl0)]
theorem specC_none {l : List UInt8} (h : specL l = none) : specC l = none := by
  unfold specC
  rw [h]
theorem flatT_bytes (l : List UInt8) : ∀ c ∈ flatT l, c = 46 ∨ (49 ≤ c.toNat ∧ c.toNat ≤ 57) := by
  intro c hc
  obtain ⟨d, _, hd⟩ := List.mem_flatMap.1 hc
  have h : d.toNat % 9 < 9 := Nat.mod_lt _ (by decide)
  simp only [List.mem_cons, List.not_mem_nil, or_false] at hd
  rcases hd with rfl | rfl
  · right
    unfold digB
    rw [byteN_toNat _ (by omega)]
    omega
  · left; rfl
theorem textOf_93 {l : List UInt8} {s : Spc} (h : TextOf l s) : (93 : UInt8) ∈ l := by
  obtain ⟨A, N, C, k, e, _⟩ := h
  rw [e]
  simp
theorem cutTx_last {C : List UInt8} {c : Bool} {a b : Int} (h : CutTx C c a b) : C = [] ∨ ∃ r, C = r ++ [62] := by
  rcases h with ⟨rfl, _⟩ | ⟨d1, d2, n1, n2, rfl, _⟩
  · exact .inl rfl
  · exact .inr ⟨60 :: (d1 ++ 46 :: d2), by simp⟩
theorem textOf_last {l : List UInt8} {s : Spc} (h : TextOf l s) : l.getLast? = some 93 ∨ l.getLast? = some 62 := by
  obtain ⟨A, N, C, k, e, _, _, _, hC⟩ := h
  rcases cutTx_last hC with rfl | ⟨r, rfl⟩
  · left
    have : l = (91 :: (A ++ N)) ++ [93] := by rw [e]; simp
    rw [this, List.getLast?_append]
    rfl
  · right
    have : l = (91 :: (A ++ (N ++ 93 :: r))) ++ [62] := by rw [e]; simp
    rw [this, List.getLast?_append]
    rfl
theorem none_of {l : List UInt8} (h : ∀ s, ¬ TextOf l s) : specC l = none := by
  apply specC_none
  cases hs : specL l with
  | none => rfl
  | some s => exact (h s ((specL_iff _ _).1 hs)).elim
theorem case_open {kk : Nat} (h : kk < 5) (l : List UInt8) : specC (91 :: (flatT l ++ (csW kk ++ csN kk))) = none := by
  refine none_of fun s hs => ?_
  have h1 := textOf_93 hs
  rcases List.mem_cons.1 h1 with e | e
  · revert e; decide
  · rcases List.mem_append.1 e with e | e
    · have := flatT_bytes l _ e
      revert this
      decide
    · revert e
      rcases five h with rfl | rfl | rfl | rfl | rfl <;> decide
theorem case_more {kk : Nat} (l : List UInt8) : specC (91 :: (flatT l ++ (csW kk ++ (csN kk ++ [93, 120])))) = none := by
  refine none_of fun s hs => ?_
  have h1 := textOf_last hs
  have e : 91 :: (flatT l ++ (csW kk ++ (csN kk ++ [93, 120]))) = (91 :: (flatT l ++ (csW kk ++ (csN kk ++ [93])))) ++ [120] := by simp
  rw [e, List.getLast?_append] at h1
  revert h1
  simp only [List.getLast?_singleton, Option.some_or]
  decide
theorem askL_flat (r : List UInt8) : ∀ (l : List UInt8) (n : Nat) (acc : List Int), askL (n + l.length) (flatT l ++ r) acc = askL n r (acc ++ l.map digI)
  | [], n, acc => by simp [flatT]
  | c :: l, n, acc => by
    have e1 : flatT (c :: l) ++ r = [digB c] ++ 46 :: (flatT l ++ r) := by rw [flatT_cons]; simp
    have e2 := take_digits (r := 46 :: (flatT l ++ r)) (digB_num c) (fun x hx => by cases hx; exact isDig_46)
    rw [e1, List.length_cons, ← Nat.add_assoc, askL_more (m := 1 + c.toNat % 9) (r := flatT l ++ r) (by rw [e2.1]; exact digB_num c) (by rw [e2.2]; rfl), askL_flat r l]
    rw [List.append_assoc]
    rfl
theorem case_x {kk : Nat} (h : kk < 5) (l : List UInt8) : specC (91 :: (flatT l ++ (88 :: (csW kk ++ (csN kk ++ [93]))))) = none := by
  apply specC_none
  have h1 : takeP [91] (91 :: (flatT l ++ (88 :: (csW kk ++ (csN kk ++ [93]))))) = some (flatT l ++ (88 :: (csW kk ++ (csN kk ++ [93])))) := rfl
  have h2 : askL ((flatT l ++ (88 :: (csW kk ++ (csN kk ++ [93])))).length + 1) (flatT l ++ (88 :: (csW kk ++ (csN kk ++ [93])))) [] = none := by
    obtain ⟨n, hn⟩ : ∃ n, (flatT l ++ (88 :: (csW kk ++ (csN kk ++ [93])))).length + 1 = (n + 1) + l.length := ⟨(flatT l ++ (88 :: (csW kk ++ (csN kk ++ [93])))).length - l.length, by
      rw [List.length_append, flatT_len]
      omega⟩
    rw [hn, askL_flat]
    refine askL_bad ?_ ?_
    · rw [List.takeWhile_cons_of_neg (by decide)]
      exact numSpec_nil
    · rcases five h with rfl | rfl | rfl | rfl | rfl <;> decide
  unfold specL
  rw [h1]
  simp only
  rw [h2]

/-- A word whose letters were turned, one by one. -/
structure Turned (w wl cur : List UInt8) (n : Nat) : Prop where
  len : cur.length = w.length
  fold : foldS (cur.take wl.length) = foldS wl
  rest : cur.drop wl.length = w.drop wl.length
  tail : cur.drop n = w.drop n
theorem Turned.refl {wl r : List UInt8} : Turned (wl ++ r) wl (wl ++ r) 0 := ⟨rfl, by simp, rfl, rfl⟩
theorem Turned.get {w wl cur : List UInt8} {n : Nat} (h : Turned w wl cur n) (hn : n < w.length) : ∃ h2 : n < cur.length, cur[n] = w[n] := by
  have h2 : n < cur.length := by rw [h.len]; exact hn
  refine ⟨h2, ?_⟩
  have := h.tail
  rw [List.drop_eq_getElem_cons h2, List.drop_eq_getElem_cons hn] at this
  exact (List.cons.inj this).1
theorem Turned.next {w wl cur : List UInt8} {n : Nat} (h : Turned w wl cur n) : Turned w wl cur (n + 1) :=
  ⟨h.len, h.fold, h.rest, by
    have := congrArg (List.drop 1) h.tail
    rw [List.drop_drop, List.drop_drop] at this
    exact this⟩
theorem Turned.turn {w wl cur : List UInt8} {n : Nat} (h : Turned w wl cur n) (hn : n < w.length) (hw : n < wl.length) {x : UInt8} (hx : lowB x = lowB w[n]) : Turned w wl (cur.set n x) (n + 1) := by
  obtain ⟨h2, hg⟩ := h.get hn
  refine ⟨by rw [List.length_set]; exact h.len, ?_, ?_, ?_⟩
  · have e : foldS ((cur.set n x).take wl.length) = foldS (cur.take wl.length) := by
      unfold foldS
      apply List.ext_getElem?
      intro j
      simp only [List.getElem?_map, List.getElem?_take, List.getElem?_set]
      by_cases hj : j < wl.length
      · simp only [hj, if_true]
        by_cases e : n = j
        · subst e
          simp [h2, hg, hx]
        · simp [e]
      · simp [hj]
    rw [e]
    exact h.fold
  · rw [List.drop_set_of_lt hw]
    exact h.rest
  · rw [List.drop_set_of_lt (Nat.lt_succ_self n)]
    exact h.next.tail
end Go.Proofs.YthcleaflhljdlaaGreatDoor
