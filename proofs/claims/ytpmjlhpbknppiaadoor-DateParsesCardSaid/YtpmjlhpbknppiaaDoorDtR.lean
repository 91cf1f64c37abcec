/- Plain words of layer 11: rows of pieces, step by step. -/
import Derived.Test.YtpmjlhpbknppiaaDoorDtO
namespace Go.Proofs.YtpmjlhpbknppiaaDoor

/-- A piece: how many bytes it takes, when it is there, and what it writes then. -/
structure St where
  f : Pf
  n : List UInt8 → Nat
  c : List UInt8 → Bool
  u : Sg → List UInt8 → Sg
def IsSt (s : St) : Prop := ∀ σ l, (s.f σ l).1 = (if s.c l = true then some (l.drop (s.n l)) else none) ∧ (s.c l = true → (s.f σ l).2 = s.u σ l)
def allC : List St → List UInt8 → Bool
  | [], _ => true
  | s :: r, l => s.c l && allC r (l.drop (s.n l))
def endS : List St → Sg → List UInt8 → Sg
  | [], σ, _ => σ
  | s :: r, σ, l => endS r (s.u σ l) (l.drop (s.n l))
def endL : List St → List UInt8 → List UInt8
  | [], l => l
  | s :: r, l => endL r (l.drop (s.n l))
theorem row_steps : ∀ (fs : List St), (∀ s ∈ fs, IsSt s) → ∀ σ l, (rowF (fs.map (·.f)) σ l).1 = (if allC fs l = true then some (endL fs l) else none) ∧ (allC fs l = true → (rowF (fs.map (·.f)) σ l).2 = endS fs σ l)
  | [], _, σ, l => ⟨rfl, fun _ => rfl⟩
  | s :: r, h, σ, l => by
    obtain ⟨h1, h2⟩ := h s (by simp) σ l
    rw [List.map_cons, rowF]
    rcases hf : s.f σ l with ⟨o, σ1⟩
    rw [hf] at h1 h2
    simp only at h1 h2
    unfold allC
    by_cases hc : s.c l = true
    · rw [if_pos hc] at h1
      subst h1
      have h3 := h2 hc
      subst h3
      simp only [hc, Bool.true_and]
      exact row_steps r (fun x hx => h x (by simp [hx])) _ _
    · rw [if_neg hc] at h1
      subst h1
      have hc' : s.c l = false := by simpa using hc
      simp [hc']
theorem whole_steps (fs : List St) (h : ∀ s ∈ fs, IsSt s) (σ : Sg) (l : List UInt8) : (wholeF (fs.map (·.f)) σ l).1 = (allC fs l && decide (endL fs l = [])) ∧ (allC fs l = true → (wholeF (fs.map (·.f)) σ l).2 = endS fs σ l) := by
  obtain ⟨h1, h2⟩ := row_steps fs h σ l
  unfold wholeF
  refine ⟨?_, h2⟩
  simp only
  rw [h1]
  cases hc : allC fs l with
  | true => simp
  | false => simp
def markS (c : UInt8) : St := ⟨markF [c], fun _ => 1, fun l => decide (l.head? = some c), fun σ _ => σ⟩
theorem markS_is (c : UInt8) : IsSt (markS c) := by
  intro σ l
  show (markF [c] σ l).1 = _ ∧ (_ → (markF [c] σ l).2 = σ)
  rw [markF_one]
  simp [markS]
def digS (n : Nat) (a : Nat × Nat) : St := ⟨digF n a, fun _ => n, fun l => decide (digOk n l), fun σ l => upd σ a (numOf (l.take n) : Int)⟩
theorem digS_is (n : Nat) (a : Nat × Nat) : IsSt (digS n a) := by
  intro σ l
  show (digF n a σ l).1 = _ ∧ (_ → (digF n a σ l).2 = _)
  unfold digF digS
  by_cases h : digOk n l
  · simp [h]
  · simp [h]
def monS (a : Nat × Nat) : St := ⟨monF a, fun _ => 3, fun l => decide (monI l < 12), fun σ l => upd σ a (monI l : Int)⟩
theorem monS_is (a : Nat × Nat) : IsSt (monS a) := by
  intro σ l
  show (monF a σ l).1 = _ ∧ (_ → (monF a σ l).2 = _)
  unfold monF monS
  by_cases h : monI l < 12
  · simp [h]
  · simp [h]
def nD (l : List UInt8) : Nat := if digOk 2 l then 2 else 1
/-- A day of one digit or two. -/
def daySt (a : Nat × Nat) : St := ⟨eitherF [digF 2 a, digF 1 a], nD, fun l => decide (digOk 2 l ∨ digOk 1 l), fun σ l => upd σ a (numOf (l.take (nD l)) : Int)⟩
theorem daySt_is (a : Nat × Nat) : IsSt (daySt a) := by
  intro σ l
  show (eitherF [digF 2 a, digF 1 a] σ l).1 = _ ∧ (_ → (eitherF [digF 2 a, digF 1 a] σ l).2 = _)
  unfold daySt nD
  by_cases h : digOk 2 l
  · rw [eitherF_yes (t := l.drop 2) (σ1 := upd σ a (numOf (l.take 2) : Int)) (by unfold digF; rw [if_pos h])]
    simp [h]
  · rw [eitherF_no (σ1 := σ) (by unfold digF; rw [if_neg h]), eitherF_one]
    unfold digF
    by_cases h1 : digOk 1 l
    · simp [h, h1]
    · simp [h, h1]
/-- A day of two bytes: two digits, or a blank and one. -/
def twoD (l : List UInt8) : Option Nat := if digOk 2 l then some (numOf (l.take 2)) else if l.head? = some 32 ∧ digOk 1 (l.drop 1) then some (numOf ((l.drop 1).take 1)) else none
def twoS (a : Nat × Nat) : St := ⟨eitherF [digF 2 a, rowF [markF [32], digF 1 a]], fun _ => 2, fun l => (twoD l).isSome, fun σ l => upd σ a ((twoD l).getD 0 : Int)⟩
theorem twoS_is (a : Nat × Nat) : IsSt (twoS a) := by
  intro σ l
  show (eitherF [digF 2 a, rowF [markF [32], digF 1 a]] σ l).1 = _ ∧ (_ → (eitherF [digF 2 a, rowF [markF [32], digF 1 a]] σ l).2 = _)
  unfold twoS twoD
  by_cases h : digOk 2 l
  · rw [eitherF_yes (t := l.drop 2) (σ1 := upd σ a (numOf (l.take 2) : Int)) (by unfold digF; rw [if_pos h])]
    simp [h]
  · rw [eitherF_no (σ1 := σ) (by unfold digF; rw [if_neg h]), eitherF_one, rowF, markF_one]
    by_cases h1 : l.head? = some 32
    · simp only [if_pos h1]
      rw [rowF_one]
      unfold digF
      by_cases h2 : digOk 1 (l.drop 1)
      · have h2' : digOk 1 l.tail := by simpa using h2
        simp [h, h1, h2']
      · have h2' : ¬ digOk 1 l.tail := by simpa using h2
        simp [h, h1, h2']
    · simp [h, h1]
/-- The minutes of a zone that may be. -/
def zonK (l : List UInt8) : Option Int := match awayK l with
  | some (h, m) => if h ≤ 23 ∧ m ≤ 59 then some (awayM l h m) else none
  | none => none
def awayS (a : Nat × Nat) : St := ⟨awayF a, fun _ => 5, fun l => (zonK l).isSome, fun σ l => upd σ a ((zonK l).getD 0)⟩
theorem awayS_is (a : Nat × Nat) : IsSt (awayS a) := by
  intro σ l
  show (awayF a σ l).1 = _ ∧ (_ → (awayF a σ l).2 = _)
  rcases hk : awayK l with _ | ⟨h, m⟩
  · have hz : zonK l = none := by unfold zonK; rw [hk]
    have hf : awayF a σ l = (none, σ) := by unfold awayF; rw [hk]
    rw [hf]
    simp [awayS, hz]
  · by_cases hg : h ≤ 23 ∧ m ≤ 59
    · have hz : zonK l = some (awayM l h m) := by unfold zonK; rw [hk]; exact if_pos hg
      have hf : awayF a σ l = (some (l.drop 5), upd σ a (awayM l h m)) := by unfold awayF; rw [hk]; exact if_pos hg
      rw [hf]
      simp [awayS, hz]
    · have hz : zonK l = none := by unfold zonK; rw [hk]; exact if_neg hg
      have hf : awayF a σ l = (none, σ) := by unfold awayF; rw [hk]; exact if_neg hg
      rw [hf]
      simp [awayS, hz]

/-! ### A day -/
def bareS (P : Nat) : List St := [daySt (P, 2), markS 45, monS (P, 1), markS 45, digS 4 (P, 0)]
def bareP (P : Nat) : List Pf := [eitherF [digF 2 (P, 2), digF 1 (P, 2)], markF [45], monF (P, 1), markF [45], digF 4 (P, 0)]
theorem bareS_is (P : Nat) : ∀ s ∈ bareS P, IsSt s := by
  intro s hs
  simp only [bareS, List.mem_cons, List.not_mem_nil, or_false] at hs
  rcases hs with rfl | rfl | rfl | rfl | rfl
  · exact daySt_is _
  · exact markS_is _
  · exact monS_is _
  · exact markS_is _
  · exact digS_is _ _
def bareT (P : Nat) : St := ⟨rowF (bareP P), fun l => l.length - (endL (bareS P) l).length, fun l => allC (bareS P) l, fun σ l => endS (bareS P) σ l⟩
theorem endL_drop : ∀ (fs : List St) (l : List UInt8), endL fs l = l.drop (l.length - (endL fs l).length)
  | [], l => by simp [endL]
  | s :: r, l => by
    rw [endL]
    have h := endL_drop r (l.drop (s.n l))
    have h2 : (endL r (l.drop (s.n l))).length ≤ (l.drop (s.n l)).length := by
      rw [h, List.length_drop]
      omega
    rw [List.length_drop] at h2 h
    rw [List.drop_drop] at h
    by_cases hn : s.n l ≤ l.length
    · conv => lhs; rw [h]
      congr 1
      omega
    · have h3 : endL r (l.drop (s.n l)) = [] := List.eq_nil_of_length_eq_zero (by omega)
      rw [h3]
      simp
theorem bareT_is (P : Nat) : IsSt (bareT P) := by
  intro σ l
  obtain ⟨h1, h2⟩ := row_steps (bareS P) (bareS_is P) σ l
  refine ⟨?_, h2⟩
  show (rowF (bareP P) σ l).1 = if allC (bareS P) l = true then some (l.drop (l.length - (endL (bareS P) l).length)) else none
  rw [← endL_drop]
  exact h1
/-- A day's parts. -/
def dayK (l : List UInt8) : Option (Nat × Nat × Nat) :=
  if (digOk 2 l ∨ digOk 1 l) ∧ (l.drop (nD l)).head? = some 45 ∧ monI (l.drop (nD l + 1)) < 12 ∧ (l.drop (nD l + 4)).head? = some 45 ∧ digOk 4 (l.drop (nD l + 5)) ∧ l.length = nD l + 9 then
    some (numOf ((l.drop (nD l + 5)).take 4), monI (l.drop (nD l + 1)), numOf (l.take (nD l))) else none
theorem bare_all (P : Nat) (l : List UInt8) : allC (bareS P) l = decide ((digOk 2 l ∨ digOk 1 l) ∧ (l.drop (nD l)).head? = some 45 ∧ monI (l.drop (nD l + 1)) < 12 ∧ (l.drop (nD l + 4)).head? = some 45 ∧ digOk 4 (l.drop (nD l + 5))) := by
  unfold bareS
  simp only [allC, daySt, markS, monS, digS, List.drop_drop, Bool.and_true]
  rw [← Bool.decide_and, ← Bool.decide_and, ← Bool.decide_and, ← Bool.decide_and]
theorem bare_endL (P : Nat) (l : List UInt8) : endL (bareS P) l = l.drop (nD l + 9) := by
  unfold bareS
  simp only [endL, daySt, markS, monS, digS, List.drop_drop]
theorem bare_endS (P : Nat) (σ : Sg) (l : List UInt8) : endS (bareS P) σ l (P, 0) = (numOf ((l.drop (nD l + 5)).take 4) : Int) ∧ endS (bareS P) σ l (P, 1) = (monI (l.drop (nD l + 1)) : Int) ∧ endS (bareS P) σ l (P, 2) = (numOf (l.take (nD l)) : Int) := by
  unfold bareS
  simp only [endS, daySt, markS, monS, digS, List.drop_drop]
  refine ⟨?_, ?_, ?_⟩ <;> simp [upd]
theorem nD_le (l : List UInt8) (h : digOk 2 l ∨ digOk 1 l) : numOf (l.take (nD l)) ≤ 99 := by
  unfold nD
  by_cases h2 : digOk 2 l
  · rw [if_pos h2]
    exact numOf_two h2
  · rw [if_neg h2]
    have h1 : digOk 1 l := h.resolve_left h2
    have n2 := numOf_lt _ h1.2
    rw [List.length_take, Nat.min_eq_left h1.1] at n2
    omega
theorem four_le {l : List UInt8} (h : digOk 4 l) : numOf (l.take 4) ≤ 9999 := by
  have n1 := numOf_lt _ h.2
  rw [List.length_take, Nat.min_eq_left h.1] at n1
  omega
theorem dayK_le {l : List UInt8} {p : Nat × Nat × Nat} (h : dayK l = some p) : p.1 ≤ 9999 ∧ p.2.1 < 12 ∧ p.2.2 ≤ 99 := by
  unfold dayK at h
  split at h
  · next hc =>
    have e := Option.some.inj h
    rw [← e]
    exact ⟨four_le hc.2.2.2.2.1, hc.2.2.1, nD_le l hc.1⟩
  · cases h
end Go.Proofs.YtpmjlhpbknppiaaDoor
