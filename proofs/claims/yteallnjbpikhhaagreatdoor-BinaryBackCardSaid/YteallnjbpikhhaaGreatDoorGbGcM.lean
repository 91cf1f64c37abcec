/- TreeMany in plain words: the tree of many alike parts. No program. -/
import Derived.Test.YteallnjbpikhhaaGreatDoorGbTiM
import Derived.Test.YteallnjbpikhhaaGreatDoorGbFeN
namespace Go.Proofs.YteallnjbpikhhaaGreatDoor
open Go Go.RowKit

def eL (cr : Bool) : List UInt8 := if cr then [13, 10] else [10]
def eK (cr : Bool) : Nat := if cr then 2 else 1
theorem eL_len (cr : Bool) : (eL cr).length = eK cr := by cases cr <;> rfl
theorem eK_two (cr : Bool) : eK cr ≤ 2 ∧ 1 ≤ eK cr := by cases cr <;> decide
def qQ : List UInt8 := [45, 45, 113]
def clQ : List UInt8 := [45, 45, 113, 45, 45]
def partQ (cr : Bool) (tx : List UInt8) : List UInt8 := qQ ++ (eL cr ++ (eL cr ++ (tx ++ eL cr)))
def repQ (cr : Bool) (tx : List UInt8) : Nat → List UInt8
  | 0 => []
  | k + 1 => partQ cr tx ++ repQ cr tx k
def partN (cr : Bool) (tx : List UInt8) : Nat := 3 + 3 * eK cr + tx.length
theorem partQ_len (cr : Bool) (tx : List UInt8) : (partQ cr tx).length = partN cr tx := by
  unfold partQ partN
  simp only [List.length_append, eL_len]
  show 3 + _ = _
  omega
theorem repQ_len (cr : Bool) (tx : List UInt8) : ∀ k, (repQ cr tx k).length = k * partN cr tx
  | 0 => by simp [repQ]
  | k + 1 => by
    simp only [repQ, List.length_append, partQ_len, repQ_len cr tx k]
    rw [Nat.succ_mul]
    omega
def cutsQ (cr : Bool) (tx : List UInt8) : Nat → Nat → Nat → List Sp
  | 0, _, _ => []
  | k + 1, fr, p => (fr, p + 3 + eK cr) :: cutsQ cr tx k (p + 3 + eK cr + eK cr + tx.length) (p + partN cr tx)
def endQ (cr : Bool) (tx : List UInt8) : Nat → Nat → Nat → Nat → Sp
  | 0, fr, _, n => (fr, n)
  | k + 1, _, p, n => endQ cr tx k (p + 3 + eK cr + eK cr + tx.length) (p + partN cr tx) n
def kidsQ (cr : Bool) (tx : List UInt8) : Nat → Nat → List Sp
  | 0, _ => []
  | k + 1, p => (p + 3 + eK cr, p + 3 + eK cr + eK cr + tx.length) :: kidsQ cr tx k (p + partN cr tx)
def leavesQ (cr : Bool) (tx : List UInt8) : Nat → Nat → List Tr
  | 0, _ => []
  | k + 1, p => leafT (p + 3 + eK cr) (p + 3 + eK cr + eK cr) (p + 3 + eK cr + eK cr + tx.length) :: leavesQ cr tx k (p + partN cr tx)
/-- Small letters. -/
def letQ (tx : List UInt8) : Prop := ∀ c ∈ tx, 97 ≤ c.toNat ∧ c.toNat ≤ 122
theorem letQ_plain {tx : List UInt8} (h : letQ tx) : ∀ c ∈ tx, plainB c = true := fun c hc => by
  have := h c hc
  rw [plainB_iff]
  refine ⟨?_, ?_⟩ <;> (intro e; subst e; revert this; decide)
theorem lk_tx {tx : List UInt8} (h : letQ tx) : lkS qQ tx = 0 := by
  unfold lkS
  cases tx with
  | nil => rfl
  | cons c r =>
    have hc : c ≠ 45 := fun e => by
      have := h c (List.mem_cons_self ..)
      subst e
      revert this
      decide
    have : qQ.isPrefixOf (c :: r) = false := by
      show ((45 : UInt8) == c && _) = false
      have hb : ((45 : UInt8) == c) = false := beq_eq_false_iff_ne.2 fun e => hc e.symm
      rw [hb]
      rfl
    rw [this]
    rfl
theorem line_q (cr : Bool) (p t s l : List UInt8) (ht : ∀ c ∈ t, plainB c = true) (hl : l = p ++ (t ++ (eL cr ++ s))) :
    linesS l p.length l.length = ⟨p.length, p.length + t.length, p.length + t.length + eK cr⟩ :: linesS l (p.length + t.length + eK cr) l.length ∧ textOf l ⟨p.length, p.length + t.length, p.length + t.length + eK cr⟩ = t := by
  have e : l = p ++ (t ++ (if cr then [13, 10] else [10]) ++ s) := by rw [hl, List.append_assoc]; rfl
  refine ⟨?_, ?_⟩
  · have h := line_here p t s cr ht
    rw [← e] at h
    exact h
  · rw [hl]
    exact partS_mid p t _
theorem many_cuts (cr : Bool) (tx : List UInt8) (htx : letQ tx) : ∀ (k : Nat) (P : List UInt8) (fr : Nat) (l : List UInt8), l = P ++ (repQ cr tx k ++ clQ) →
    cutsS l qQ l.length fr (linesS l P.length l.length) = (cutsQ cr tx k fr P.length, endQ cr tx k fr P.length l.length)
  | 0, P, fr, l, hl => by
    have hl' : l = P ++ clQ := hl
    have hlt : P.length < l.length := by rw [hl', List.length_append]; show _ < _ + 5; omega
    have hF : firstS l P.length l.length = ⟨P.length, l.length, l.length⟩ := by
      unfold firstS
      have hp : partS l P.length l.length = clQ := by rw [hl']; exact partS_behind P clQ
      rw [hp, show feedI clQ = 5 by decide, if_neg (by rw [hl', List.length_append]; show ¬ 5 < _ + 5 - _; omega)]
    rw [linesS_step l hlt (Nat.le_refl _), hF, linesS_nil l (Nat.lt_irrefl _)]
    have ht : textOf l ⟨P.length, l.length, l.length⟩ = clQ := by
      show partS l P.length l.length = clQ
      rw [hl']
      exact partS_behind P clQ
    rw [cutsS_close (by rw [ht]; decide)]
    rfl
  | k + 1, P, fr, l, hl => by
    have hl' : l = P ++ (qQ ++ (eL cr ++ (eL cr ++ (tx ++ (eL cr ++ (repQ cr tx k ++ clQ)))))) := by rw [hl]; simp only [repQ, partQ, List.append_assoc]
    obtain ⟨h1, t1⟩ := line_q cr P qQ _ l (by decide) hl'
    rw [h1, cutsS_open (by rw [t1]; decide)]
    have h2' : l = (P ++ (qQ ++ eL cr)) ++ ([] ++ (eL cr ++ (tx ++ (eL cr ++ (repQ cr tx k ++ clQ))))) := by rw [hl']; simp only [List.append_assoc, List.nil_append]
    have e2 : (P ++ (qQ ++ eL cr)).length = P.length + 3 + eK cr := by simp only [List.length_append, eL_len]; show P.length + (3 + _) = _; omega
    obtain ⟨h2, t2⟩ := line_q cr (P ++ (qQ ++ eL cr)) [] _ l (fun c hc => by cases hc) h2'
    rw [e2] at h2 t2
    simp only [List.length_nil, Nat.add_zero] at h2 t2
    have eq3 : P.length + qQ.length + eK cr = P.length + 3 + eK cr := rfl
    rw [eq3, h2, cutsS_other (by rw [t2]; decide) (by rw [t2]; decide)]
    have h3' : l = (P ++ (qQ ++ (eL cr ++ eL cr))) ++ (tx ++ (eL cr ++ (repQ cr tx k ++ clQ))) := by rw [hl']; simp only [List.append_assoc]
    have e3 : (P ++ (qQ ++ (eL cr ++ eL cr))).length = P.length + 3 + eK cr + eK cr := by simp only [List.length_append, eL_len]; show P.length + (3 + _) = _; omega
    obtain ⟨h3, t3⟩ := line_q cr (P ++ (qQ ++ (eL cr ++ eL cr))) tx _ l (letQ_plain htx) h3'
    rw [e3] at h3 t3
    rw [h3, cutsS_other (by rw [t3, lk_tx htx]; decide) (by rw [t3, lk_tx htx]; decide)]
    have h4' : l = (P ++ partQ cr tx) ++ (repQ cr tx k ++ clQ) := by rw [hl]; simp only [repQ, List.append_assoc]
    have e4 : (P ++ partQ cr tx).length = P.length + partN cr tx := by rw [List.length_append, partQ_len]
    have ih := many_cuts cr tx htx k (P ++ partQ cr tx) (P.length + 3 + eK cr + eK cr + tx.length) l h4'
    rw [e4] at ih
    have e5 : P.length + 3 + eK cr + eK cr + tx.length + eK cr = P.length + partN cr tx := by unfold partN; omega
    rw [e5, ih]
    rfl
theorem endQ_first (cr : Bool) (tx : List UInt8) : ∀ (k fr p n : Nat), (endQ cr tx k fr p n).2 = n
  | 0, _, _, _ => rfl
  | k + 1, _, _, n => endQ_first cr tx k _ _ n
theorem many_kids (cr : Bool) (tx : List UInt8) : ∀ (k fr p n : Nat), kidsS (cutsQ cr tx k fr p) (endQ cr tx k fr p n) = kidsQ cr tx k p
  | 0, _, _, _ => rfl
  | 1, _, _, _ => rfl
  | k + 2, fr, p, n => by
    have ih := many_kids cr tx (k + 1) (p + 3 + eK cr + eK cr + tx.length) (p + partN cr tx) n
    show (p + 3 + eK cr, p + 3 + eK cr + eK cr + tx.length) :: kidsS (cutsQ cr tx (k + 1) (p + 3 + eK cr + eK cr + tx.length) (p + partN cr tx)) (endQ cr tx (k + 1) (p + 3 + eK cr + eK cr + tx.length) (p + partN cr tx) n) = _
    rw [ih]
    rfl
theorem kid_first (cr : Bool) (tx P s l : List UInt8) (hl : l = P ++ ((eL cr ++ tx) ++ s)) : firstS l P.length (P.length + eK cr + tx.length) = ⟨P.length, P.length, P.length + eK cr⟩ := by
  have hp : partS l P.length (P.length + eK cr + tx.length) = eL cr ++ tx := by
    have h := partS_mid P (eL cr ++ tx) s
    rw [← hl, List.length_append, eL_len, ← Nat.add_assoc] at h
    exact h
  unfold firstS
  rw [hp]
  cases cr with
  | false =>
    have hf : feedI (eL false ++ tx) = 0 := rfl
    have he : eK false = 1 := rfl
    rw [hf, he, if_pos (by omega)]
    unfold endA
    rw [if_neg (by omega)]
    rfl
  | true =>
    have hf : feedI (eL true ++ tx) = 1 := rfl
    have he : eK true = 2 := rfl
    rw [hf, he, if_pos (by omega)]
    unfold endA
    have h13 : l.getD (P.length + 1 - 1) 0 = 13 := by
      rw [hl, show P.length + 1 - 1 = P.length + 0 by omega, getD_mid]
      rfl
    rw [if_pos ⟨by omega, h13⟩]
    rfl
theorem kid_lines (cr : Bool) (tx P s l : List UInt8) (hl : l = P ++ ((eL cr ++ tx) ++ s)) : ∃ r, linesS l P.length (P.length + eK cr + tx.length) = ⟨P.length, P.length, P.length + eK cr⟩ :: r := by
  have hle : P.length + eK cr + tx.length ≤ l.length := by rw [hl]; simp only [List.length_append, eL_len]; omega
  have he := eK_two cr
  rw [linesS_step l (by omega) hle, kid_first cr tx P s l hl]
  exact ⟨_, rfl⟩
theorem kid_ei {ls : List Ln} {a n : Nat} {r : List Ln} (h : ls = ⟨a, a, n⟩ :: r) : eI ls = 0 := by
  rw [h]
  unfold eI
  rw [List.findIdx_cons]
  simp
theorem kid_hd (cr : Bool) (tx P s l : List UInt8) (hl : l = P ++ ((eL cr ++ tx) ++ s)) : hdOf l P.length (P.length + eK cr + tx.length) = P.length + eK cr := by
  obtain ⟨r, hr⟩ := kid_lines cr tx P s l hl
  have hei := kid_ei hr
  unfold hdOf behindN
  rw [dif_pos (by rw [hei, hr]; simp)]
  simp only [hei]
  simp only [hr]
  rfl
theorem kid_fs (cr : Bool) (tx P s l : List UInt8) (hl : l = P ++ ((eL cr ++ tx) ++ s)) : fsOf l P.length (P.length + eK cr + tx.length) = [] := by
  obtain ⟨r, hr⟩ := kid_lines cr tx P s l hl
  unfold fsOf
  rw [kid_ei hr, List.take_zero]
  rfl
theorem kid_type (l : List UInt8) : typeS l [] false = ⟨txtN, plnN, []⟩ := by
  have hv : valueS l [] ctyN = [] := by unfold valueS; rw [dif_neg (by show ¬ 0 < 0; omega)]
  unfold typeS
  rw [hv]
  have hp : parseL [] true = none := by kernel_rfl
  rw [hp]
  rfl
theorem kid_ent (cr : Bool) (tx P s l : List UInt8) (hl : l = P ++ ((eL cr ++ tx) ++ s)) (d c : Nat) :
    entS l d (P.length, P.length + eK cr + tx.length) false c = (leafT P.length (P.length + eK cr) (P.length + eK cr + tx.length), c) := by
  have hh := kid_hd cr tx P s l hl
  cases d with
  | zero =>
    show (leafT _ (hdOf _ _ _) _, c) = _
    simp only [hh]
  | succ d =>
    rw [entS_leaf (.inl (by
      simp only [kid_fs cr tx P s l hl, kid_type l]
      unfold pdS
      rw [if_neg (by decide), if_neg (by rintro ⟨h1, _⟩; revert h1; decide)]
      rfl))]
    simp only [hh]
theorem many_run (cr : Bool) (tx : List UInt8) (d : Nat) : ∀ (k : Nat) (P l : List UInt8) (c : Nat), l = P ++ (repQ cr tx k ++ clQ) →
    kidsRun (fun s' c' => entS l d s' false c') (kidsQ cr tx k P.length) c = (leavesQ cr tx k P.length, c)
  | 0, _, _, _, _ => rfl
  | k + 1, P, l, c, hl => by
    have h1 : l = (P ++ (qQ ++ eL cr)) ++ ((eL cr ++ tx) ++ (eL cr ++ (repQ cr tx k ++ clQ))) := by rw [hl]; simp only [repQ, partQ, List.append_assoc]
    have e1 : (P ++ (qQ ++ eL cr)).length = P.length + 3 + eK cr := by simp only [List.length_append, eL_len]; show P.length + (3 + _) = _; omega
    have hk := kid_ent cr tx (P ++ (qQ ++ eL cr)) _ l h1 d c
    rw [e1] at hk
    have h4' : l = (P ++ partQ cr tx) ++ (repQ cr tx k ++ clQ) := by rw [hl]; simp only [repQ, List.append_assoc]
    have e4 : (P ++ partQ cr tx).length = P.length + partN cr tx := by rw [List.length_append, partQ_len]
    have ih := many_run cr tx d k (P ++ partQ cr tx) l c h4'
    rw [e4] at ih
    show ((entS l d (P.length + 3 + eK cr, P.length + 3 + eK cr + eK cr + tx.length) false c).1 :: (kidsRun _ (kidsQ cr tx k (P.length + partN cr tx)) (entS l d (P.length + 3 + eK cr, P.length + 3 + eK cr + eK cr + tx.length) false c).2).1, (kidsRun _ (kidsQ cr tx k (P.length + partN cr tx)) (entS l d (P.length + 3 + eK cr, P.length + 3 + eK cr + eK cr + tx.length) false c).2).2) = _
    rw [hk]
    simp only
    rw [ih]
    rfl
def mhT : List UInt8 := [99, 111, 110, 116, 101, 110, 116, 45, 116, 121, 112, 101, 58, 32, 109, 117, 108, 116, 105, 112, 97, 114, 116, 47, 120, 59, 32, 98, 111, 117, 110, 100, 97, 114, 121, 61, 34, 113, 34]
def mhH (cr : Bool) : List UInt8 := mhT ++ (eL cr ++ eL cr)
theorem mhH_len (cr : Bool) : (mhH cr).length = 39 + 2 * eK cr := by cases cr <;> rfl
set_option maxRecDepth 100000 in
theorem mh_hd (cr : Bool) (b : List UInt8) : hdOf (mhH cr ++ b) 0 (mhH cr ++ b).length = 39 + 2 * eK cr := by
  cases cr
  · kernel_rfl
  · kernel_rfl
set_option maxRecDepth 100000 in
theorem mh_fs (cr : Bool) (b : List UInt8) : fsOf (mhH cr ++ b) 0 (mhH cr ++ b).length = [⟨nameS mhT, 0, 13, 39 + eK cr⟩] := by
  cases cr
  · kernel_rfl
  · kernel_rfl
def mhV : List UInt8 := [109, 117, 108, 116, 105, 112, 97, 114, 116, 47, 120, 59, 32, 98, 111, 117, 110, 100, 97, 114, 121, 61, 34, 113, 34]
theorem mh_lines (cr : Bool) (b : List UInt8) : textsL (mhH cr ++ b) (linesS (mhH cr ++ b) 13 (39 + eK cr)) = 32 :: mhV := by
  cases cr
  · kernel_rfl
  · kernel_rfl
theorem mh_body (cr : Bool) (b : List UInt8) : bodyS (mhH cr ++ b) ((13 : Nat) : Int) ((39 + eK cr : Nat) : Int) = mhV := by
  have he := eK_two cr
  have hw : withinB ((13 : Nat) : Int) ((39 + eK cr : Nat) : Int) (mhH cr ++ b).length = true := by
    have : (mhH cr ++ b).length = 39 + 2 * eK cr + b.length := by rw [List.length_append, mhH_len]
    unfold withinB
    exact decide_eq_true ⟨by omega, by omega, by omega⟩
  unfold bodyS linesZ
  rw [if_pos hw]
  show trimS (textsL (mhH cr ++ b) (linesS (mhH cr ++ b) 13 (39 + eK cr))) = _
  rw [mh_lines]
  decide
theorem mh_parse : (parseL mhV true).map (fun V => (V.type, V.sub, boundS V.params)) = some (mulN, [120], some [113]) := by kernel_rfl
theorem mh_type (cr : Bool) (b : List UInt8) : ∃ V, typeS (mhH cr ++ b) (fsOf (mhH cr ++ b) 0 (mhH cr ++ b).length) false = V ∧ V.type = mulN ∧ V.sub = [120] ∧ boundS V.params = some [113] := by
  rw [mh_fs]
  have hv : valueS (mhH cr ++ b) [⟨nameS mhT, 0, 13, 39 + eK cr⟩] ctyN = mhV := by
    unfold valueS
    have hfi : fI ctyN [(⟨nameS mhT, 0, 13, 39 + eK cr⟩ : Fld)] = 0 := by
      unfold fI
      rw [List.findIdx_cons]
      have h1 : sameB (nameS mhT) ctyN = true := by decide
      simp [h1]
    rw [dif_pos (by rw [hfi]; simp)]
    simp only [hfi]
    exact mh_body cr b
  have hp := mh_parse
  unfold typeS
  rw [hv]
  cases hq : parseL mhV true with
  | none => rw [hq] at hp; cases hp
  | some V =>
    rw [hq] at hp
    have := Option.some.inj hp
    simp only [Prod.mk.injEq] at this
    exact ⟨V, rfl, this.1, this.2.1, this.2.2⟩
theorem many_pd (cr : Bool) (tx : List UInt8) (htx : letQ tx) (k : Nat) (l : List UInt8) (hl : l = mhH cr ++ (repQ cr tx k ++ clQ)) (V : Val) (h1 : V.type = mulN) (h3 : boundS V.params = some [113]) (fs : List Fld) :
    pdS l fs (39 + 2 * eK cr) l.length V = ⟨1, cutsQ cr tx k (39 + 2 * eK cr) (39 + 2 * eK cr), endQ cr tx k (39 + 2 * eK cr) (39 + 2 * eK cr) l.length, kidsQ cr tx k (39 + 2 * eK cr)⟩ := by
  have hc := many_cuts cr tx htx k (mhH cr) (39 + 2 * eK cr) l hl
  rw [mhH_len] at hc
  unfold pdS
  rw [if_pos h1, h3]
  simp only
  have hq : (45 :: 45 :: [113] : List UInt8) = qQ := rfl
  rw [hq, hc]
  simp only
  rw [many_kids]
theorem kidsQ_len (cr : Bool) (tx : List UInt8) : ∀ k p, (kidsQ cr tx k p).length = k
  | 0, _ => rfl
  | k + 1, p => by simp only [kidsQ, List.length_cons, kidsQ_len cr tx k]
theorem leavesQ_len (cr : Bool) (tx : List UInt8) : ∀ k p, (leavesQ cr tx k p).length = k
  | 0, _ => rfl
  | k + 1, p => by simp only [leavesQ, List.length_cons, leavesQ_len cr tx k]
theorem leavesQ_count (cr : Bool) (tx : List UInt8) : ∀ k p, countK (leavesQ cr tx k p) = k
  | 0, _ => rfl
  | k + 1, p => by
    have := leavesQ_count cr tx k (p + partN cr tx)
    show countT (leafT _ _ _) + countK (leavesQ cr tx k (p + partN cr tx)) = k + 1
    rw [this]
    show 1 + k = k + 1
    omega
/-- The tree of many parts. -/
theorem many_tree (cr : Bool) (tx : List UInt8) (htx : letQ tx) (k : Nat) (hk : 0 < k) (l : List UInt8) (hl : l = mhH cr ++ (repQ cr tx k ++ clQ)) :
    treeS l = if 999 < k then leafT 0 (39 + 2 * eK cr) l.length else .mk 1 (0, 39 + 2 * eK cr) (39 + 2 * eK cr, l.length) (leavesQ cr tx k (39 + 2 * eK cr)) (cutsQ cr tx k (39 + 2 * eK cr) (39 + 2 * eK cr)) (endQ cr tx k (39 + 2 * eK cr) (39 + 2 * eK cr) l.length) := by
  have hh := mh_hd cr (repQ cr tx k ++ clQ)
  obtain ⟨V, hV, v1, v2, v3⟩ := mh_type cr (repQ cr tx k ++ clQ)
  rw [← hl] at hh hV
  have hp := many_pd cr tx htx k l hl V v1 v3 (fsOf l 0 l.length)
  have hlen := kidsQ_len cr tx k (39 + 2 * eK cr)
  unfold treeS
  by_cases h9 : 999 < k
  · rw [if_pos h9, entS_leaf (.inr (by simp only [hh, hV, hp, hlen]; omega))]
    simp only [hh]
  · rw [if_neg h9]
    have hn : ¬ ((⟨1, cutsQ cr tx k (39 + 2 * eK cr) (39 + 2 * eK cr), endQ cr tx k (39 + 2 * eK cr) (39 + 2 * eK cr) l.length, kidsQ cr tx k (39 + 2 * eK cr)⟩ : Pd).kids = [] ∨ 1000 < 1 + (⟨1, cutsQ cr tx k (39 + 2 * eK cr) (39 + 2 * eK cr), endQ cr tx k (39 + 2 * eK cr) (39 + 2 * eK cr) l.length, kidsQ cr tx k (39 + 2 * eK cr)⟩ : Pd).kids.length) := by
      simp only [hlen]
      rintro (h | h)
      · rw [h] at hlen
        simp at hlen
        omega
      · omega
    rw [entS_kids (s := (0, l.length)) hV.symm (by simp only [hh]; exact hp.symm) hn]
    have hd : digS V = false := by unfold digS; rw [v2]; simp; intro _; decide
    have hr := many_run cr tx 31 k (mhH cr) l (1 + k) hl
    rw [mhH_len] at hr
    simp only [hh, hd, hlen, hr]
theorem many_kid (cr : Bool) (tx : List UInt8) : ∀ (k : Nat) (P l : List UInt8) (i : Nat), l = P ++ (repQ cr tx k ++ clQ) → (hi : i < (leavesQ cr tx k P.length).length) →
    ∃ b, (leavesQ cr tx k P.length)[i].bd = (b, b + tx.length) ∧ b + tx.length ≤ l.length ∧ partS l b (b + tx.length) = tx
  | 0, _, _, i, _, hi => by simp [leavesQ] at hi
  | k + 1, P, l, 0, hl, hi => by
    have h1 : l = (P ++ (qQ ++ (eL cr ++ eL cr))) ++ (tx ++ (eL cr ++ (repQ cr tx k ++ clQ))) := by rw [hl]; simp only [repQ, partQ, List.append_assoc]
    have e1 : (P ++ (qQ ++ (eL cr ++ eL cr))).length = P.length + 3 + eK cr + eK cr := by simp only [List.length_append, eL_len]; show P.length + (3 + _) = _; omega
    have hp := partS_mid (P ++ (qQ ++ (eL cr ++ eL cr))) tx (eL cr ++ (repQ cr tx k ++ clQ))
    rw [← h1, e1] at hp
    refine ⟨P.length + 3 + eK cr + eK cr, rfl, ?_, hp⟩
    rw [h1, List.length_append, e1, List.length_append]
    omega
  | k + 1, P, l, i + 1, hl, hi => by
    have h4' : l = (P ++ partQ cr tx) ++ (repQ cr tx k ++ clQ) := by rw [hl]; simp only [repQ, List.append_assoc]
    have e4 : (P ++ partQ cr tx).length = P.length + partN cr tx := by rw [List.length_append, partQ_len]
    have ih := many_kid cr tx k (P ++ partQ cr tx) l i h4'
    rw [e4] at ih
    exact ih (by simpa [leavesQ] using hi)
end Go.Proofs.YteallnjbpikhhaaGreatDoor

/- FetchInner in plain words: a digest of one message, whatever that is. No program. -/
namespace Go.Proofs.YteallnjbpikhhaaGreatDoor
open Go Go.RowKit

def igH : List UInt8 := [67, 111, 110, 116, 101, 110, 116, 45, 84, 121, 112, 101, 58, 32, 109, 117, 108, 116, 105, 112, 97, 114, 116, 47, 100, 105, 103, 101, 115, 116, 59, 32, 98, 111, 117, 110, 100, 97, 114, 121, 61, 122, 122, 122, 122, 122]
def igF : List UInt8 := [67, 111, 110, 116, 101, 110, 116, 45, 84, 121, 112, 101, 58, 32, 109, 117, 108, 116, 105, 112, 97, 114, 116, 47, 100, 105, 103, 101, 115, 116, 59, 32, 98, 111, 117, 110, 100, 97, 114, 121, 61, 122, 122, 122, 122, 122, 13, 10, 13, 10]
def igZ : List UInt8 := [122, 122, 122, 122, 122]
def igD : List UInt8 := [45, 45, 122, 122, 122, 122, 122]
def igC : List UInt8 := [45, 45, 122, 122, 122, 122, 122, 45, 45]
def igV : List UInt8 := [109, 117, 108, 116, 105, 112, 97, 114, 116, 47, 100, 105, 103, 101, 115, 116, 59, 32, 98, 111, 117, 110, 100, 97, 114, 121, 61, 122, 122, 122, 122, 122]
theorem part_mid (P b S : List UInt8) {a t : Nat} (h : t ≤ b.length) : partS (P ++ (b ++ S)) (P.length + a) (P.length + t) = partS b a t := by
  unfold partS
  rw [show P.length + t - (P.length + a) = t - a by omega, List.drop_append, List.drop_eq_nil_of_le (by omega), List.nil_append, Nat.add_sub_cancel_left]
  rcases Nat.lt_or_ge b.length a with h1 | h1
  · rw [show t - a = 0 by omega]
    simp
  · rw [List.drop_append_of_le_length h1, List.take_append_of_le_length (by rw [List.length_drop]; omega)]
theorem getD_in (P b S : List UInt8) {i : Nat} : (P ++ (b ++ S)).getD (P.length + b.length + i) 0 = S.getD i 0 := by
  rw [List.getD_eq_getElem?_getD, List.getD_eq_getElem?_getD, List.getElem?_append_right (by omega), List.getElem?_append_right (by omega), show P.length + b.length + i - P.length - b.length = i by omega]

/-! The head. -/
set_option maxRecDepth 100000 in
theorem ig_hd (B : List UInt8) : hdOf (igF ++ B) 0 (igF ++ B).length = 50 := by kernel_rfl
set_option maxRecDepth 100000 in
theorem ig_fs (B : List UInt8) : fsOf (igF ++ B) 0 (igF ++ B).length = [⟨nameS igH, 0, 13, 48⟩] := by kernel_rfl
theorem ig_lines (B : List UInt8) : textsL (igF ++ B) (linesS (igF ++ B) 13 48) = 32 :: igV := by kernel_rfl
theorem ig_body (B : List UInt8) : bodyS (igF ++ B) ((13 : Nat) : Int) ((48 : Nat) : Int) = igV := by
  have hw : withinB ((13 : Nat) : Int) ((48 : Nat) : Int) (igF ++ B).length = true := by
    have : (igF ++ B).length = 50 + B.length := by rw [List.length_append]; rfl
    unfold withinB
    exact decide_eq_true ⟨by omega, by omega, by omega⟩
  unfold bodyS linesZ
  rw [if_pos hw]
  show trimS (textsL (igF ++ B) (linesS (igF ++ B) 13 48)) = _
  rw [ig_lines]
  decide
theorem ig_parse : (parseL igV true).map (fun V => (V.type, V.sub, boundS V.params)) = some (mulN, digN, some igZ) := by kernel_rfl
theorem ig_type (B : List UInt8) : ∃ V, typeS (igF ++ B) (fsOf (igF ++ B) 0 (igF ++ B).length) false = V ∧ V.type = mulN ∧ V.sub = digN ∧ boundS V.params = some igZ := by
  rw [ig_fs]
  have hv : valueS (igF ++ B) [⟨nameS igH, 0, 13, 48⟩] ctyN = igV := by
    unfold valueS
    have hfi : fI ctyN [(⟨nameS igH, 0, 13, 48⟩ : Fld)] = 0 := by
      unfold fI
      rw [List.findIdx_cons]
      have h1 : sameB (nameS igH) ctyN = true := by decide
      simp [h1]
    rw [dif_pos (by rw [hfi]; simp)]
    simp only [hfi]
    exact ig_body B
  have hp := ig_parse
  unfold typeS
  rw [hv]
  cases hq : parseL igV true with
  | none => rw [hq] at hp; cases hp
  | some V =>
    rw [hq] at hp
    have := Option.some.inj hp
    simp only [Prod.mk.injEq] at this
    exact ⟨V, rfl, this.1, this.2.1, this.2.2⟩

/-! The lines behind it. -/
def noZ (b : List UInt8) : Prop := ∀ i, i + 5 ≤ b.length → partS b i (i + 5) ≠ igZ
theorem lk_none {b : List UInt8} (hz : noZ b) {a t : Nat} (ht : t ≤ b.length) : lkS igD (partS b a t) = 0 := by
  unfold lkS
  rcases Bool.eq_false_or_eq_true (igD.isPrefixOf (partS b a t)) with h | h
  · exfalso
    obtain ⟨r, hr⟩ := List.isPrefixOf_iff_prefix.1 h
    have hlen := congrArg List.length hr
    rw [partS_len b ht, List.length_append] at hlen
    have h7 : igD.length = 7 := rfl
    refine hz (a + 2) (by omega) ?_
    have e : partS b (a + 2) (a + 2 + 5) = ((partS b a t).drop 2).take 5 := by
      unfold partS
      rw [List.drop_take, List.take_take, List.drop_drop]
      congr 1
      omega
    rw [e, ← hr]
    rfl
  · rw [h]
    rfl
theorem ig_first {P b l : List UInt8} (hl : l = P ++ (b ++ 13 :: 10 :: igC)) {a : Nat} (ha : a ≤ b.length) :
    (∃ t n, firstS l (P.length + a) l.length = ⟨P.length + a, P.length + t, P.length + n⟩ ∧ t ≤ b.length ∧ a < n ∧ n ≤ b.length) ∨
    firstS l (P.length + a) l.length = ⟨P.length + a, P.length + b.length, P.length + b.length + 2⟩ := by
  have hlen : l.length = P.length + b.length + 11 := by rw [hl, List.length_append, List.length_append]; show _ + (_ + 11) = _; omega
  have h13 : l.getD (P.length + b.length + 0) 0 = 13 := by rw [hl, getD_in]; rfl
  have h10 : l.getD (P.length + b.length + 1) 0 = 10 := by rw [hl, getD_in]; rfl
  have hb := firstS_bounds l (a := P.length + a) (b := l.length) (by omega)
  have hk10 : feedI (partS l (P.length + a) l.length) ≤ b.length + 1 - a := by
    rcases Nat.lt_or_ge (b.length + 1 - a) (feedI (partS l (P.length + a) l.length)) with h | h
    · exfalso
      have hlt : b.length + 1 - a < (partS l (P.length + a) l.length).length := by rw [partS_len l (Nat.le_refl _)]; omega
      have h2 := List.not_of_lt_findIdx (p := (· == (10 : UInt8))) (xs := partS l (P.length + a) l.length) h
      have h3 := partS_at l (a := P.length + a) (b := l.length) (j := b.length + 1 - a) (by omega)
      rw [show P.length + a + (b.length + 1 - a) = P.length + b.length + 1 by omega, h10, List.getD_eq_getElem?_getD, List.getElem?_eq_getElem hlt] at h3
      simp only [Option.getD_some] at h3
      rw [h3] at h2
      revert h2
      decide
    · exact h
  have hkn : feedI (partS l (P.length + a) l.length) ≠ b.length - a := by
    intro h
    have hlt : feedI (partS l (P.length + a) l.length) < (partS l (P.length + a) l.length).length := by rw [partS_len l (Nat.le_refl _)]; omega
    have h2 := List.findIdx_getElem (p := (· == (10 : UInt8))) (w := hlt)
    have h3 := partS_at l (a := P.length + a) (b := l.length) (j := b.length - a) (by omega)
    rw [show P.length + a + (b.length - a) = P.length + b.length + 0 by omega, h13, ← h, List.getD_eq_getElem?_getD, List.getElem?_eq_getElem hlt] at h3
    simp only [Option.getD_some] at h3
    have h4 : (partS l (P.length + a) l.length)[feedI (partS l (P.length + a) l.length)] = 10 := eq_of_beq h2
    rw [h4] at h3
    revert h3
    decide
  have hd : firstS l (P.length + a) l.length = ⟨P.length + a, endA l (P.length + a) (P.length + a + feedI (partS l (P.length + a) l.length)), P.length + a + feedI (partS l (P.length + a) l.length) + 1⟩ := by
    unfold firstS
    rw [if_pos (by omega)]
  generalize feedI (partS l (P.length + a) l.length) = k at hk10 hkn hd
  rcases Nat.lt_or_ge k (b.length - a) with h | h
  · left
    rw [hd] at hb
    simp only at hb
    refine ⟨endA l (P.length + a) (P.length + a + k) - P.length, a + k + 1, ?_, ?_, by omega, by omega⟩
    · rw [hd]
      congr 1
      · omega
      · omega
    · omega
  · right
    obtain rfl : k = b.length + 1 - a := by omega
    rw [hd]
    have e : endA l (P.length + a) (P.length + a + (b.length + 1 - a)) = P.length + b.length := by
      unfold endA
      rw [if_pos ⟨by omega, by rw [show P.length + a + (b.length + 1 - a) - 1 = P.length + b.length + 0 by omega]; exact h13⟩]
      omega
    rw [e]
    congr 1
    omega
theorem ig_rest {P b l : List UInt8} (hl : l = P ++ (b ++ 13 :: 10 :: igC)) (hz : noZ b) : ∀ (q a fr : Nat), b.length - a ≤ q → a ≤ b.length → cutsS l igD l.length fr (linesS l (P.length + a) l.length) = ([], (P.length + b.length, l.length))
  | q, a, fr, hq, ha => by
    have hlen : l.length = P.length + b.length + 11 := by rw [hl, List.length_append, List.length_append]; show _ + (_ + 11) = _; omega
    rw [linesS_step l (by omega) (Nat.le_refl _)]
    have htx : ∀ t n, t ≤ b.length → lkS igD (textOf l ⟨P.length + a, P.length + t, n⟩) = 0 := fun t n h => by
      show lkS igD (partS l (P.length + a) (P.length + t)) = 0
      rw [hl, part_mid P b _ h]
      exact lk_none hz h
    rcases ig_first hl ha with ⟨t, n, hf, ht, hn1, hn2⟩ | hf
    · rw [hf, cutsS_other (by rw [htx t _ ht]; decide) (by rw [htx t _ ht]; decide)]
      cases q with
      | zero => omega
      | succ q => exact ig_rest hl hz q n _ (by omega) hn2
    · rw [hf, cutsS_other (by rw [htx b.length _ (Nat.le_refl _)]; decide) (by rw [htx b.length _ (Nat.le_refl _)]; decide)]
      simp only
      have hP : l = (P ++ (b ++ [13, 10])) ++ igC := by rw [hl]; simp
      have hPl : (P ++ (b ++ [13, 10])).length = P.length + b.length + 2 := by simp; omega
      have hp : partS l (P.length + b.length + 2) l.length = igC := by
        have := partS_behind (P ++ (b ++ [13, 10])) igC
        rw [hPl, ← hP] at this
        exact this
      have hF : firstS l (P.length + b.length + 2) l.length = ⟨P.length + b.length + 2, l.length, l.length⟩ := by
        unfold firstS
        rw [hp, show feedI igC = 9 by decide, if_neg (by omega)]
      rw [linesS_step l (by omega) (Nat.le_refl _), hF, linesS_nil l (Nat.lt_irrefl _)]
      have ht : textOf l ⟨P.length + b.length + 2, l.length, l.length⟩ = igC := hp
      rw [cutsS_close (by rw [ht]; decide)]
def igL (b : List UInt8) : List UInt8 := igF ++ (igD ++ 13 :: 10 :: 13 :: 10 :: (b ++ 13 :: 10 :: igC))
theorem igL_len (b : List UInt8) : (igL b).length = 72 + b.length := by
  unfold igL
  simp only [List.length_append, List.length_cons]
  show 50 + (7 + (_ + (9 + 1 + 1) + 1 + 1 + 1 + 1)) = _
  omega
def igP : List UInt8 := igF ++ (igD ++ [13, 10])
def igQ : List UInt8 := igF ++ (igD ++ [13, 10, 13, 10])
theorem igL_Q (b : List UInt8) : igL b = igQ ++ (b ++ 13 :: 10 :: igC) := by unfold igL igQ; simp
theorem igL_P (b : List UInt8) : igL b = igP ++ ((eL true ++ b) ++ 13 :: 10 :: igC) := by unfold igL igP eL; simp
theorem ig_cuts {b : List UInt8} (hz : noZ b) : cutsS (igL b) igD (igL b).length 50 (linesS (igL b) 50 (igL b).length) = ([(50, 59)], (61 + b.length, (igL b).length)) := by
  obtain ⟨l, hl⟩ : ∃ l, l = igL b := ⟨_, rfl⟩
  rw [← hl]
  have h1' : l = igF ++ (igD ++ (eL true ++ (13 :: 10 :: (b ++ 13 :: 10 :: igC)))) := by rw [hl]; rfl
  obtain ⟨h1, t1⟩ := line_q true igF igD _ l (by decide) h1'
  have e1 : igF.length + igD.length + eK true = 59 := rfl
  have e0 : igF.length = 50 := rfl
  have e5 : 50 + igD.length = 57 := rfl
  rw [e1, e0, e5] at h1 t1
  rw [h1, cutsS_open (by rw [t1]; decide)]
  have h2' : l = igP ++ ([] ++ (eL true ++ (b ++ 13 :: 10 :: igC))) := by rw [hl, igL_P]; simp
  obtain ⟨h2, t2⟩ := line_q true igP [] _ l (fun c hc => by cases hc) h2'
  have e2 : igP.length = 59 := rfl
  have e3 : igP.length + ([] : List UInt8).length + eK true = 61 := rfl
  have e4 : igP.length + ([] : List UInt8).length = 59 := rfl
  rw [e3, e4, e2] at h2 t2
  simp only
  rw [h2, cutsS_other (by rw [t2]; decide) (by rw [t2]; decide)]
  have h3 := ig_rest (P := igQ) (b := b) (l := l) (by rw [hl]; exact igL_Q b) hz b.length 0 59 (by omega) (Nat.zero_le _)
  have e6 : igQ.length + 0 = 61 := rfl
  have e7 : igQ.length = 61 := rfl
  rw [e6, e7] at h3
  simp only
  rw [h3]
theorem dg_type (l : List UInt8) : typeS l [] true = ⟨msgN, rfcN, []⟩ := by
  have hv : valueS l [] ctyN = [] := by unfold valueS; rw [dif_neg (by show ¬ 0 < 0; omega)]
  unfold typeS
  rw [hv]
  have hp : parseL [] true = none := by kernel_rfl
  rw [hp]
  rfl
theorem dg_pd (l : List UInt8) (h t : Nat) : pdS l [] h t ⟨msgN, rfcN, []⟩ = ⟨2, [], (0, 0), [(h, t)]⟩ := by
  have hb : bareS l [] = true := by
    have hv : valueS l [] cteN = [] := by unfold valueS; rw [dif_neg (by show ¬ 0 < 0; omega)]
    unfold bareS
    rw [hv]
    rfl
  unfold pdS
  rw [if_neg (by decide), if_pos ⟨rfl, rfl, hb⟩]
theorem dg_ent (b l : List UInt8) (hl : l = igL b) : (entS l 31 (59, 61 + b.length) true 2).1 = .mk 2 (59, 61) (61, 61 + b.length) [(entS l 30 (61, 61 + b.length) false 3).1] [] (0, 0) := by
  have h := kid_hd true b igP _ l (by rw [hl]; exact igL_P b)
  have hf := kid_fs true b igP _ l (by rw [hl]; exact igL_P b)
  have e1 : igP.length + eK true + b.length = 61 + b.length := rfl
  have e2 : igP.length + eK true = 61 := rfl
  have e3 : igP.length = 59 := rfl
  rw [e1, e2, e3] at h
  rw [e1, e3] at hf
  clear hl
  have hk : (⟨msgN, rfcN, []⟩ : Val) = typeS l (fsOf l 59 (61 + b.length)) true := by rw [hf, dg_type]
  have hp : (⟨2, [], (0, 0), [(61, 61 + b.length)]⟩ : Pd) = pdS l (fsOf l 59 (61 + b.length)) 61 (61 + b.length) ⟨msgN, rfcN, []⟩ := by rw [hf, dg_pd]
  have hn : ¬ ((⟨2, [], (0, 0), [(61, 61 + b.length)]⟩ : Pd).kids = [] ∨ 1000 < 2 + (⟨2, [], (0, 0), [(61, 61 + b.length)]⟩ : Pd).kids.length) := by
    rintro (h | h)
    · cases h
    · have h' : 1000 < 2 + 1 := h
      omega
  rw [entS_kids (d := 30) (s := (59, 61 + b.length)) hk (by simp only [h]; exact hp) hn]
  simp only [h]
  rfl
/-- The digest's tree. -/
theorem ig_tree {b : List UInt8} (hz : noZ b) : treeS (igL b) = .mk 1 (0, 50) (50, 72 + b.length) [.mk 2 (59, 61) (61, 61 + b.length) [(entS (igL b) 30 (61, 61 + b.length) false 3).1] [] (0, 0)] [(50, 59)] (61 + b.length, 72 + b.length) := by
  have hc := ig_cuts hz
  have hlen := igL_len b
  have hh := ig_hd (igD ++ 13 :: 10 :: 13 :: 10 :: (b ++ 13 :: 10 :: igC))
  obtain ⟨V, hV, v1, v2, v3⟩ := ig_type (igD ++ 13 :: 10 :: 13 :: 10 :: (b ++ 13 :: 10 :: igC))
  have hd := dg_ent b (igL b) rfl
  obtain ⟨l, hl⟩ : ∃ l, l = igL b := ⟨_, rfl⟩
  have hl' : igF ++ (igD ++ 13 :: 10 :: 13 :: 10 :: (b ++ 13 :: 10 :: igC)) = l := hl.symm
  rw [hl'] at hh hV
  rw [← hl] at hc hlen hd ⊢
  have hp : pdS l (fsOf l 0 l.length) 50 l.length V = ⟨1, [(50, 59)], (61 + b.length, l.length), [(59, 61 + b.length)]⟩ := by
    unfold pdS
    rw [if_pos v1, v3]
    simp only
    have hq : (45 :: 45 :: igZ : List UInt8) = igD := rfl
    rw [hq, hc]
    rfl
  have hg : digS V = true := by unfold digS; rw [v1, v2]; decide
  have hn : ¬ ((⟨1, [(50, 59)], (61 + b.length, l.length), [(59, 61 + b.length)]⟩ : Pd).kids = [] ∨ 1000 < 1 + (⟨1, [(50, 59)], (61 + b.length, l.length), [(59, 61 + b.length)]⟩ : Pd).kids.length) := by
    rintro (h | h)
    · cases h
    · have h' : 1000 < 1 + 1 := h
      omega
  unfold treeS
  rw [entS_kids (s := (0, l.length)) hV.symm (by simp only [hh]; exact hp.symm) hn]
  simp only [hh, hg]
  show Tr.mk 1 (0, 50) (50, l.length) [(entS l 31 (59, 61 + b.length) true 2).1] [(50, 59)] (61 + b.length, l.length) = _
  rw [hd, hlen]
/-- What is told of the one message in it. -/
theorem ig_law {b : List UInt8} (hz : noZ b) : ∃ (q : Tr) (x y : List UInt8), treeS (igL b) = .mk 1 (0, 50) (50, 72 + b.length) [.mk 2 (59, 61) (61, 61 + b.length) [q] [] (0, 0)] [(50, 59)] (61 + b.length, 72 + b.length) ∧
    getL (igL b) (treeS (igL b)) ⟨[1], 0, [], false, 0, 0⟩ = b ∧ getL (igL b) (treeS (igL b)) ⟨[1], 1, [], false, 0, 0⟩ = x ∧ getL (igL b) (treeS (igL b)) ⟨[1], 4, [], false, 0, 0⟩ = y ∧ x ++ y = b ∧
    getL (igL b) (treeS (igL b)) ⟨[1], 5, [], false, 0, 0⟩ = [13, 10] := by
  have hlen := igL_len b
  have hQ := entS_Q (igL b) 30 (61, 61 + b.length) false 3 (by simp) (by simp only; omega)
  have hO := entS_okT (igL b) 30 (61, 61 + b.length) false 3 (by simp) (by simp only; omega)
  rw [ig_tree hz]
  obtain ⟨q, hq⟩ : ∃ q, q = (entS (igL b) 30 (61, 61 + b.length) false 3).1 := ⟨_, rfl⟩
  rw [← hq] at hQ hO ⊢
  obtain ⟨⟨o1, o2, o3, o4⟩, _⟩ := okT_open hO
  obtain ⟨_, q1, q2, _⟩ := hQ
  have hb : partS (igL b) 61 (61 + b.length) = b := by
    have h := part_mid igQ b (13 :: 10 :: igC) (a := 0) (t := b.length) (Nat.le_refl _)
    rw [← igL_Q] at h
    have e : igQ.length = 61 := rfl
    rw [e] at h
    rw [h]
    exact part_whole b
  have hm : partS (igL b) 59 61 = [13, 10] := by
    have h := partS_mid igP [13, 10] (b ++ 13 :: 10 :: igC)
    have e : igP ++ ([13, 10] ++ (b ++ 13 :: 10 :: igC)) = igL b := by rw [igL_P]; rfl
    rw [e] at h
    exact h
  have hnth : ∀ ks : List Tr, nthT (partsM (.mk 1 (0, 50) (50, 72 + b.length) [.mk 2 (59, 61) (61, 61 + b.length) ks [] (0, 0)] [(50, 59)] (61 + b.length, 72 + b.length))) 1 = some (.mk 2 (59, 61) (61, 61 + b.length) ks [] (0, 0)) := fun ks => rfl
  have hw := fun w hw => get_at (igL b) _ _ (n := 1) (by decide) (by decide) w hw (hnth [q])
  refine ⟨q, partS (igL b) q.hd.1 q.hd.2, partS (igL b) q.bd.1 q.bd.2, rfl, ?_, ?_, ?_, ?_, ?_⟩
  · rw [hw 0 (.inl rfl)]
    exact hb
  · rw [hw 1 (.inr (.inl rfl))]
    rfl
  · rw [hw 4 (.inr (.inr (.inl rfl)))]
    rfl
  · rw [← o2, part_two (igL b) o1 (by omega), q1, q2]
    exact hb
  · rw [hw 5 (.inr (.inr (.inr rfl)))]
    exact hm
end Go.Proofs.YteallnjbpikhhaaGreatDoor

/- Layer 17 in plain words: messages whose one field names an encoding. No program. -/
namespace Go.Proofs.YteallnjbpikhhaaGreatDoor
open Go Go.RowKit

/-- A front whose field names an encoding: what stands behind it is a leaf's text. -/
structure Frt (F : List UInt8) (K : Nat) (L : List UInt8) : Prop where
  len : F.length = K
  tree : ∀ B, treeS (F ++ B) = leafT 0 K (K + B.length)
  enc : ∀ B, foldS (valueS (F ++ B) (fsOf (F ++ B) 0 K) cteN) = L
def ctH : List UInt8 := [67, 111, 110, 116, 101, 110, 116, 45, 84, 114, 97, 110, 115, 102, 101, 114, 45, 69, 110, 99, 111, 100, 105, 110, 103]
def frtBF : List UInt8 := [67, 111, 110, 116, 101, 110, 116, 45, 84, 114, 97, 110, 115, 102, 101, 114, 45, 69, 110, 99, 111, 100, 105, 110, 103, 58, 32, 98, 97, 115, 101, 54, 52, 13, 10, 13, 10]
def encBF : List UInt8 := [98, 97, 115, 101, 54, 52]
theorem frtB_hd (B : List UInt8) : hdOf (frtBF ++ B) 0 (frtBF ++ B).length = 37 := by kernel_rfl
theorem frtB_fs (B : List UInt8) : fsOf (frtBF ++ B) 0 (frtBF ++ B).length = [⟨ctH, 0, 26, 35⟩] := by kernel_rfl
theorem frtB_fk (B : List UInt8) : fsOf (frtBF ++ B) 0 37 = [⟨ctH, 0, 26, 35⟩] := by kernel_rfl
theorem frtB_lines (B : List UInt8) : foldS (trimS (textsL (frtBF ++ B) (linesS (frtBF ++ B) 26 35))) = encBF := by kernel_rfl
theorem frtB_len (B : List UInt8) : (frtBF ++ B).length = 37 + B.length := by rw [List.length_append]; rfl
theorem frtB : Frt frtBF 37 encBF := by
  refine ⟨rfl, fun B => ?_, fun B => ?_⟩
  · have hty : typeS (frtBF ++ B) (fsOf (frtBF ++ B) 0 (frtBF ++ B).length) false = ⟨txtN, plnN, []⟩ := by
      have hv : valueS (frtBF ++ B) (fsOf (frtBF ++ B) 0 (frtBF ++ B).length) ctyN = [] := by
        unfold valueS
        rw [dif_neg]
        rw [frtB_fs]
        have : fI ctyN [(⟨ctH, 0, 26, 35⟩ : Fld)] = 1 := by
          unfold fI
          rw [List.findIdx_cons]
          have h1 : sameB ctH ctyN = false := by decide
          simp [h1]
        rw [this]
        simp
      unfold typeS
      rw [hv]
      rfl
    have hpd : (pdS (frtBF ++ B) (fsOf (frtBF ++ B) 0 (frtBF ++ B).length) (hdOf (frtBF ++ B) 0 (frtBF ++ B).length) (frtBF ++ B).length (typeS (frtBF ++ B) (fsOf (frtBF ++ B) 0 (frtBF ++ B).length) false)).kids = [] := by
      rw [hty]
      unfold pdS
      rw [if_neg (by decide), if_neg (by rintro ⟨h1, _⟩; revert h1; decide)]
      rfl
    have := entS_leaf (l := frtBF ++ B) (d := 31) (s := (0, (frtBF ++ B).length)) (g := false) (c := 1) (.inl hpd)
    unfold treeS
    rw [this]
    simp only
    rw [frtB_hd, frtB_len]
  · rw [frtB_fk]
    have hfi : fI cteN [(⟨ctH, 0, 26, 35⟩ : Fld)] = 0 := by
      unfold fI
      rw [List.findIdx_cons]
      have h1 : sameB ctH cteN = true := by decide
      simp [h1]
    have hw : withinB ((26 : Nat) : Int) ((35 : Nat) : Int) (frtBF ++ B).length = true := by
      have := frtB_len B
      unfold withinB
      exact decide_eq_true ⟨by omega, by omega, by omega⟩
    unfold valueS
    rw [dif_pos (by rw [hfi]; simp)]
    simp only [hfi]
    show foldS (bodyS (frtBF ++ B) ((26 : Nat) : Int) ((35 : Nat) : Int)) = _
    unfold bodyS linesZ
    rw [if_pos hw]
    exact frtB_lines B
def frtQF : List UInt8 := [67, 111, 110, 116, 101, 110, 116, 45, 84, 114, 97, 110, 115, 102, 101, 114, 45, 69, 110, 99, 111, 100, 105, 110, 103, 58, 32, 81, 117, 111, 116, 101, 100, 45, 80, 114, 105, 110, 116, 97, 98, 108, 101, 13, 10, 13, 10]
def encQF : List UInt8 := [113, 117, 111, 116, 101, 100, 45, 112, 114, 105, 110, 116, 97, 98, 108, 101]
theorem frtQ_hd (B : List UInt8) : hdOf (frtQF ++ B) 0 (frtQF ++ B).length = 47 := by kernel_rfl
theorem frtQ_fs (B : List UInt8) : fsOf (frtQF ++ B) 0 (frtQF ++ B).length = [⟨ctH, 0, 26, 45⟩] := by kernel_rfl
theorem frtQ_fk (B : List UInt8) : fsOf (frtQF ++ B) 0 47 = [⟨ctH, 0, 26, 45⟩] := by kernel_rfl
theorem frtQ_lines (B : List UInt8) : foldS (trimS (textsL (frtQF ++ B) (linesS (frtQF ++ B) 26 45))) = encQF := by kernel_rfl
theorem frtQ_len (B : List UInt8) : (frtQF ++ B).length = 47 + B.length := by rw [List.length_append]; rfl
theorem frtQ : Frt frtQF 47 encQF := by
  refine ⟨rfl, fun B => ?_, fun B => ?_⟩
  · have hty : typeS (frtQF ++ B) (fsOf (frtQF ++ B) 0 (frtQF ++ B).length) false = ⟨txtN, plnN, []⟩ := by
      have hv : valueS (frtQF ++ B) (fsOf (frtQF ++ B) 0 (frtQF ++ B).length) ctyN = [] := by
        unfold valueS
        rw [dif_neg]
        rw [frtQ_fs]
        have : fI ctyN [(⟨ctH, 0, 26, 45⟩ : Fld)] = 1 := by
          unfold fI
          rw [List.findIdx_cons]
          have h1 : sameB ctH ctyN = false := by decide
          simp [h1]
        rw [this]
        simp
      unfold typeS
      rw [hv]
      rfl
    have hpd : (pdS (frtQF ++ B) (fsOf (frtQF ++ B) 0 (frtQF ++ B).length) (hdOf (frtQF ++ B) 0 (frtQF ++ B).length) (frtQF ++ B).length (typeS (frtQF ++ B) (fsOf (frtQF ++ B) 0 (frtQF ++ B).length) false)).kids = [] := by
      rw [hty]
      unfold pdS
      rw [if_neg (by decide), if_neg (by rintro ⟨h1, _⟩; revert h1; decide)]
      rfl
    have := entS_leaf (l := frtQF ++ B) (d := 31) (s := (0, (frtQF ++ B).length)) (g := false) (c := 1) (.inl hpd)
    unfold treeS
    rw [this]
    simp only
    rw [frtQ_hd, frtQ_len]
  · rw [frtQ_fk]
    have hfi : fI cteN [(⟨ctH, 0, 26, 45⟩ : Fld)] = 0 := by
      unfold fI
      rw [List.findIdx_cons]
      have h1 : sameB ctH cteN = true := by decide
      simp [h1]
    have hw : withinB ((26 : Nat) : Int) ((45 : Nat) : Int) (frtQF ++ B).length = true := by
      have := frtQ_len B
      unfold withinB
      exact decide_eq_true ⟨by omega, by omega, by omega⟩
    unfold valueS
    rw [dif_pos (by rw [hfi]; simp)]
    simp only [hfi]
    show foldS (bodyS (frtQF ++ B) ((26 : Nat) : Int) ((45 : Nat) : Int)) = _
    unfold bodyS linesZ
    rw [if_pos hw]
    exact frtQ_lines B
def frtEF : List UInt8 := [67, 111, 110, 116, 101, 110, 116, 45, 84, 114, 97, 110, 115, 102, 101, 114, 45, 69, 110, 99, 111, 100, 105, 110, 103, 58, 32, 56, 98, 105, 116, 13, 10, 13, 10]
def encEF : List UInt8 := [56, 98, 105, 116]
theorem frtE_hd (B : List UInt8) : hdOf (frtEF ++ B) 0 (frtEF ++ B).length = 35 := by kernel_rfl
theorem frtE_fs (B : List UInt8) : fsOf (frtEF ++ B) 0 (frtEF ++ B).length = [⟨ctH, 0, 26, 33⟩] := by kernel_rfl
theorem frtE_fk (B : List UInt8) : fsOf (frtEF ++ B) 0 35 = [⟨ctH, 0, 26, 33⟩] := by kernel_rfl
theorem frtE_lines (B : List UInt8) : foldS (trimS (textsL (frtEF ++ B) (linesS (frtEF ++ B) 26 33))) = encEF := by kernel_rfl
theorem frtE_len (B : List UInt8) : (frtEF ++ B).length = 35 + B.length := by rw [List.length_append]; rfl
theorem frtE : Frt frtEF 35 encEF := by
  refine ⟨rfl, fun B => ?_, fun B => ?_⟩
  · have hty : typeS (frtEF ++ B) (fsOf (frtEF ++ B) 0 (frtEF ++ B).length) false = ⟨txtN, plnN, []⟩ := by
      have hv : valueS (frtEF ++ B) (fsOf (frtEF ++ B) 0 (frtEF ++ B).length) ctyN = [] := by
        unfold valueS
        rw [dif_neg]
        rw [frtE_fs]
        have : fI ctyN [(⟨ctH, 0, 26, 33⟩ : Fld)] = 1 := by
          unfold fI
          rw [List.findIdx_cons]
          have h1 : sameB ctH ctyN = false := by decide
          simp [h1]
        rw [this]
        simp
      unfold typeS
      rw [hv]
      rfl
    have hpd : (pdS (frtEF ++ B) (fsOf (frtEF ++ B) 0 (frtEF ++ B).length) (hdOf (frtEF ++ B) 0 (frtEF ++ B).length) (frtEF ++ B).length (typeS (frtEF ++ B) (fsOf (frtEF ++ B) 0 (frtEF ++ B).length) false)).kids = [] := by
      rw [hty]
      unfold pdS
      rw [if_neg (by decide), if_neg (by rintro ⟨h1, _⟩; revert h1; decide)]
      rfl
    have := entS_leaf (l := frtEF ++ B) (d := 31) (s := (0, (frtEF ++ B).length)) (g := false) (c := 1) (.inl hpd)
    unfold treeS
    rw [this]
    simp only
    rw [frtE_hd, frtE_len]
  · rw [frtE_fk]
    have hfi : fI cteN [(⟨ctH, 0, 26, 33⟩ : Fld)] = 0 := by
      unfold fI
      rw [List.findIdx_cons]
      have h1 : sameB ctH cteN = true := by decide
      simp [h1]
    have hw : withinB ((26 : Nat) : Int) ((33 : Nat) : Int) (frtEF ++ B).length = true := by
      have := frtE_len B
      unfold withinB
      exact decide_eq_true ⟨by omega, by omega, by omega⟩
    unfold valueS
    rw [dif_pos (by rw [hfi]; simp)]
    simp only [hfi]
    show foldS (bodyS (frtEF ++ B) ((26 : Nat) : Int) ((33 : Nat) : Int)) = _
    unfold bodyS linesZ
    rw [if_pos hw]
    exact frtE_lines B
def frtXF : List UInt8 := [67, 111, 110, 116, 101, 110, 116, 45, 84, 114, 97, 110, 115, 102, 101, 114, 45, 69, 110, 99, 111, 100, 105, 110, 103, 58, 32, 120, 45, 110, 111, 110, 101, 13, 10, 13, 10]
def encXF : List UInt8 := [120, 45, 110, 111, 110, 101]
theorem frtX_hd (B : List UInt8) : hdOf (frtXF ++ B) 0 (frtXF ++ B).length = 37 := by kernel_rfl
theorem frtX_fs (B : List UInt8) : fsOf (frtXF ++ B) 0 (frtXF ++ B).length = [⟨ctH, 0, 26, 35⟩] := by kernel_rfl
theorem frtX_fk (B : List UInt8) : fsOf (frtXF ++ B) 0 37 = [⟨ctH, 0, 26, 35⟩] := by kernel_rfl
theorem frtX_lines (B : List UInt8) : foldS (trimS (textsL (frtXF ++ B) (linesS (frtXF ++ B) 26 35))) = encXF := by kernel_rfl
theorem frtX_len (B : List UInt8) : (frtXF ++ B).length = 37 + B.length := by rw [List.length_append]; rfl
theorem frtX : Frt frtXF 37 encXF := by
  refine ⟨rfl, fun B => ?_, fun B => ?_⟩
  · have hty : typeS (frtXF ++ B) (fsOf (frtXF ++ B) 0 (frtXF ++ B).length) false = ⟨txtN, plnN, []⟩ := by
      have hv : valueS (frtXF ++ B) (fsOf (frtXF ++ B) 0 (frtXF ++ B).length) ctyN = [] := by
        unfold valueS
        rw [dif_neg]
        rw [frtX_fs]
        have : fI ctyN [(⟨ctH, 0, 26, 35⟩ : Fld)] = 1 := by
          unfold fI
          rw [List.findIdx_cons]
          have h1 : sameB ctH ctyN = false := by decide
          simp [h1]
        rw [this]
        simp
      unfold typeS
      rw [hv]
      rfl
    have hpd : (pdS (frtXF ++ B) (fsOf (frtXF ++ B) 0 (frtXF ++ B).length) (hdOf (frtXF ++ B) 0 (frtXF ++ B).length) (frtXF ++ B).length (typeS (frtXF ++ B) (fsOf (frtXF ++ B) 0 (frtXF ++ B).length) false)).kids = [] := by
      rw [hty]
      unfold pdS
      rw [if_neg (by decide), if_neg (by rintro ⟨h1, _⟩; revert h1; decide)]
      rfl
    have := entS_leaf (l := frtXF ++ B) (d := 31) (s := (0, (frtXF ++ B).length)) (g := false) (c := 1) (.inl hpd)
    unfold treeS
    rw [this]
    simp only
    rw [frtX_hd, frtX_len]
  · rw [frtX_fk]
    have hfi : fI cteN [(⟨ctH, 0, 26, 35⟩ : Fld)] = 0 := by
      unfold fI
      rw [List.findIdx_cons]
      have h1 : sameB ctH cteN = true := by decide
      simp [h1]
    have hw : withinB ((26 : Nat) : Int) ((35 : Nat) : Int) (frtXF ++ B).length = true := by
      have := frtX_len B
      unfold withinB
      exact decide_eq_true ⟨by omega, by omega, by omega⟩
    unfold valueS
    rw [dif_pos (by rw [hfi]; simp)]
    simp only [hfi]
    show foldS (bodyS (frtXF ++ B) ((26 : Nat) : Int) ((35 : Nat) : Int)) = _
    unfold bodyS linesZ
    rw [if_pos hw]
    exact frtX_lines B
def frtWF : List UInt8 := [67, 111, 110, 116, 101, 110, 116, 45, 84, 114, 97, 110, 115, 102, 101, 114, 45, 69, 110, 99, 111, 100, 105, 110, 103, 58, 32, 66, 65, 83, 69, 54, 52, 13, 10, 13, 10]
def encWF : List UInt8 := [98, 97, 115, 101, 54, 52]
theorem frtW_hd (B : List UInt8) : hdOf (frtWF ++ B) 0 (frtWF ++ B).length = 37 := by kernel_rfl
theorem frtW_fs (B : List UInt8) : fsOf (frtWF ++ B) 0 (frtWF ++ B).length = [⟨ctH, 0, 26, 35⟩] := by kernel_rfl
theorem frtW_fk (B : List UInt8) : fsOf (frtWF ++ B) 0 37 = [⟨ctH, 0, 26, 35⟩] := by kernel_rfl
theorem frtW_lines (B : List UInt8) : foldS (trimS (textsL (frtWF ++ B) (linesS (frtWF ++ B) 26 35))) = encWF := by kernel_rfl
theorem frtW_len (B : List UInt8) : (frtWF ++ B).length = 37 + B.length := by rw [List.length_append]; rfl
theorem frtW : Frt frtWF 37 encWF := by
  refine ⟨rfl, fun B => ?_, fun B => ?_⟩
  · have hty : typeS (frtWF ++ B) (fsOf (frtWF ++ B) 0 (frtWF ++ B).length) false = ⟨txtN, plnN, []⟩ := by
      have hv : valueS (frtWF ++ B) (fsOf (frtWF ++ B) 0 (frtWF ++ B).length) ctyN = [] := by
        unfold valueS
        rw [dif_neg]
        rw [frtW_fs]
        have : fI ctyN [(⟨ctH, 0, 26, 35⟩ : Fld)] = 1 := by
          unfold fI
          rw [List.findIdx_cons]
          have h1 : sameB ctH ctyN = false := by decide
          simp [h1]
        rw [this]
        simp
      unfold typeS
      rw [hv]
      rfl
    have hpd : (pdS (frtWF ++ B) (fsOf (frtWF ++ B) 0 (frtWF ++ B).length) (hdOf (frtWF ++ B) 0 (frtWF ++ B).length) (frtWF ++ B).length (typeS (frtWF ++ B) (fsOf (frtWF ++ B) 0 (frtWF ++ B).length) false)).kids = [] := by
      rw [hty]
      unfold pdS
      rw [if_neg (by decide), if_neg (by rintro ⟨h1, _⟩; revert h1; decide)]
      rfl
    have := entS_leaf (l := frtWF ++ B) (d := 31) (s := (0, (frtWF ++ B).length)) (g := false) (c := 1) (.inl hpd)
    unfold treeS
    rw [this]
    simp only
    rw [frtW_hd, frtW_len]
  · rw [frtW_fk]
    have hfi : fI cteN [(⟨ctH, 0, 26, 35⟩ : Fld)] = 0 := by
      unfold fI
      rw [List.findIdx_cons]
      have h1 : sameB ctH cteN = true := by decide
      simp [h1]
    have hw : withinB ((26 : Nat) : Int) ((35 : Nat) : Int) (frtWF ++ B).length = true := by
      have := frtW_len B
      unfold withinB
      exact decide_eq_true ⟨by omega, by omega, by omega⟩
    unfold valueS
    rw [dif_pos (by rw [hfi]; simp)]
    simp only [hfi]
    show foldS (bodyS (frtWF ++ B) ((26 : Nat) : Int) ((35 : Nat) : Int)) = _
    unfold bodyS linesZ
    rw [if_pos hw]
    exact frtW_lines B
end Go.Proofs.YteallnjbpikhhaaGreatDoor
