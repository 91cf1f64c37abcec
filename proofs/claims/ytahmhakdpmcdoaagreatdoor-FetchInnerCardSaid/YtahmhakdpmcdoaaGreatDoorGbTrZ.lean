/- TreeMany in plain words: the tree of many alike parts. No program. -/
import Derived.Test.YtahmhakdpmcdoaaGreatDoorGbTiM
namespace Go.Proofs.YtahmhakdpmcdoaaGreatDoor
open Go Go.RowKit

def eL (cr : Bool) : List UInt8 := if cr then [13, 10] else [10]
def eK (cr : Bool) : Nat := if cr then 2 else 1
theorem eL_len (cr : Bool) : (eL cr).length = eK cr := by cases cr <;> rfl
theorem eK_two (cr : Bool) : eK cr ≤ 2 ∧ 1 ≤ eK cr := by cases cr <;> decide
def qQ : List UInt8 := [45, 45, 113]
def clQ : List UInt8 := [45, 45, 113, 45, 45]
def partQ (cr : Bool) (tx : List UInt8) : List UInt8 := qQ ++ (eL cr ++ (eL cr ++ (tx ++ eL cr)))
def repQ (cr : Bool) (tx : List UInt8) : Nat → List UInt8
  | 0 => []
  | k + 1 => partQ cr tx ++ repQ cr tx k
def partN (cr : Bool) (tx : List UInt8) : Nat := 3 + 3 * eK cr + tx.length
theorem partQ_len (cr : Bool) (tx : List UInt8) : (partQ cr tx).length = partN cr tx := by
  unfold partQ partN
  simp only [List.length_append, eL_len]
  show 3 + _ = _
  omega
theorem repQ_len (cr : Bool) (tx : List UInt8) : ∀ k, (repQ cr tx k).length = k * partN cr tx
  | 0 => by simp [repQ]
  | k + 1 => by
    simp only [repQ, List.length_append, partQ_len, repQ_len cr tx k]
    rw [Nat.succ_mul]
    omega
def cutsQ (cr : Bool) (tx : List UInt8) : Nat → Nat → Nat → List Sp
  | 0, _, _ => []
  | k + 1, fr, p => (fr, p + 3 + eK cr) :: cutsQ cr tx k (p + 3 + eK cr + eK cr + tx.length) (p + partN cr tx)
def endQ (cr : Bool) (tx : List UInt8) : Nat → Nat → Nat → Nat → Sp
  | 0, fr, _, n => (fr, n)
  | k + 1, _, p, n => endQ cr tx k (p + 3 + eK cr + eK cr + tx.length) (p + partN cr tx) n
def kidsQ (cr : Bool) (tx : List UInt8) : Nat → Nat → List Sp
  | 0, _ => []
  | k + 1, p => (p + 3 + eK cr, p + 3 + eK cr + eK cr + tx.length) :: kidsQ cr tx k (p + partN cr tx)
def leavesQ (cr : Bool) (tx : List UInt8) : Nat → Nat → List Tr
  | 0, _ => []
  | k + 1, p => leafT (p + 3 + eK cr) (p + 3 + eK cr + eK cr) (p + 3 + eK cr + eK cr + tx.length) :: leavesQ cr tx k (p + partN cr tx)
/-- Small letters. -/
def letQ (tx : List UInt8) : Prop := ∀ c ∈ tx, 97 ≤ c.toNat ∧ c.toNat ≤ 122
theorem letQ_plain {tx : List UInt8} (h : letQ tx) : ∀ c ∈ tx, plainB c = true := fun c hc => by
  have := h c hc
  rw [plainB_iff]
  refine ⟨?_, ?_⟩ <;> (intro e; subst e; revert this; decide)
theorem lk_tx {tx : List UInt8} (h : letQ tx) : lkS qQ tx = 0 := by
  unfold lkS
  cases tx with
  | nil => rfl
  | cons c r =>
    have hc : c ≠ 45 := fun e => by
      have := h c (List.mem_cons_self ..)
      subst e
      revert this
      decide
    have : qQ.isPrefixOf (c :: r) = false := by
      show ((45 : UInt8) == c && _) = false
      have hb : ((45 : UInt8) == c) = false := beq_eq_false_iff_ne.2 fun e => hc e.symm
      rw [hb]
      rfl
    rw [this]
    rfl
theorem line_q (cr : Bool) (p t s l : List UInt8) (ht : ∀ c ∈ t, plainB c = true) (hl : l = p ++ (t ++ (eL cr ++ s))) :
    linesS l p.length l.length = ⟨p.length, p.length + t.length, p.length + t.length + eK cr⟩ :: linesS l (p.length + t.length + eK cr) l.length ∧ textOf l ⟨p.length, p.length + t.length, p.length + t.length + eK cr⟩ = t := by
  have e : l = p ++ (t ++ (if cr then [13, 10] else [10]) ++ s) := by rw [hl, List.append_assoc]; rfl
  refine ⟨?_, ?_⟩
  · have h := line_here p t s cr ht
    rw [← e] at h
    exact h
  · rw [hl]
    exact partS_mid p t _
theorem many_cuts (cr : Bool) (tx : List UInt8) (htx : letQ tx) : ∀ (k : Nat) (P : List UInt8) (fr : Nat) (l : List UInt8), l = P ++ (repQ cr tx k ++ clQ) →
    cutsS l qQ l.length fr (linesS l P.length l.length) = (cutsQ cr tx k fr P.length, endQ cr tx k fr P.length l.length)
  | 0, P, fr, l, hl => by
    have hl' : l = P ++ clQ := hl
    have hlt : P.length < l.length := by rw [hl', List.length_append]; show _ < _ + 5; omega
    have hF : firstS l P.length l.length = ⟨P.length, l.length, l.length⟩ := by
      unfold firstS
      have hp : partS l P.length l.length = clQ := by rw [hl']; exact partS_behind P clQ
      rw [hp, show feedI clQ = 5 by decide, if_neg (by rw [hl', List.length_append]; show ¬ 5 < _ + 5 - _; omega)]
    rw [linesS_step l hlt (Nat.le_refl _), hF, linesS_nil l (Nat.lt_irrefl _)]
    have ht : textOf l ⟨P.length, l.length, l.length⟩ = clQ := by
      show partS l P.length l.length = clQ
      rw [hl']
      exact partS_behind P clQ
    rw [cutsS_close (by rw [ht]; decide)]
    rfl
  | k + 1, P, fr, l, hl => by
    have hl' : l = P ++ (qQ ++ (eL cr ++ (eL cr ++ (tx ++ (eL cr ++ (repQ cr tx k ++ clQ)))))) := by rw [hl]; simp only [repQ, partQ, List.append_assoc]
    obtain ⟨h1, t1⟩ := line_q cr P qQ _ l (by decide) hl'
    rw [h1, cutsS_open (by rw [t1]; decide)]
    have h2' : l = (P ++ (qQ ++ eL cr)) ++ ([] ++ (eL cr ++ (tx ++ (eL cr ++ (repQ cr tx k ++ clQ))))) := by rw [hl']; simp only [List.append_assoc, List.nil_append]
    have e2 : (P ++ (qQ ++ eL cr)).length = P.length + 3 + eK cr := by simp only [List.length_append, eL_len]; show P.length + (3 + _) = _; omega
    obtain ⟨h2, t2⟩ := line_q cr (P ++ (qQ ++ eL cr)) [] _ l (fun c hc => by cases hc) h2'
    rw [e2] at h2 t2
    simp only [List.length_nil, Nat.add_zero] at h2 t2
    have eq3 : P.length + qQ.length + eK cr = P.length + 3 + eK cr := rfl
    rw [eq3, h2, cutsS_other (by rw [t2]; decide) (by rw [t2]; decide)]
    have h3' : l = (P ++ (qQ ++ (eL cr ++ eL cr))) ++ (tx ++ (eL cr ++ (repQ cr tx k ++ clQ))) := by rw [hl']; simp only [List.append_assoc]
    have e3 : (P ++ (qQ ++ (eL cr ++ eL cr))).length = P.length + 3 + eK cr + eK cr := by simp only [List.length_append, eL_len]; show P.length + (3 + _) = _; omega
    obtain ⟨h3, t3⟩ := line_q cr (P ++ (qQ ++ (eL cr ++ eL cr))) tx _ l (letQ_plain htx) h3'
    rw [e3] at h3 t3
    rw [h3, cutsS_other (by rw [t3, lk_tx htx]; decide) (by rw [t3, lk_tx htx]; decide)]
    have h4' : l = (P ++ partQ cr tx) ++ (repQ cr tx k ++ clQ) := by rw [hl]; simp only [repQ, List.append_assoc]
    have e4 : (P ++ partQ cr tx).length = P.length + partN cr tx := by rw [List.length_append, partQ_len]
    have ih := many_cuts cr tx htx k (P ++ partQ cr tx) (P.length + 3 + eK cr + eK cr + tx.length) l h4'
    rw [e4] at ih
    have e5 : P.length + 3 + eK cr + eK cr + tx.length + eK cr = P.length + partN cr tx := by unfold partN; omega
    rw [e5, ih]
    rfl
theorem endQ_first (cr : Bool) (tx : List UInt8) : ∀ (k fr p n : Nat), (endQ cr tx k fr p n).2 = n
  | 0, _, _, _ => rfl
  | k + 1, _, _, n => endQ_first cr tx k _ _ n
theorem many_kids (cr : Bool) (tx : List UInt8) : ∀ (k fr p n : Nat), kidsS (cutsQ cr tx k fr p) (endQ cr tx k fr p n) = kidsQ cr tx k p
  | 0, _, _, _ => rfl
  | 1, _, _, _ => rfl
  | k + 2, fr, p, n => by
    have ih := many_kids cr tx (k + 1) (p + 3 + eK cr + eK cr + tx.length) (p + partN cr tx) n
    show (p + 3 + eK cr, p + 3 + eK cr + eK cr + tx.length) :: kidsS (cutsQ cr tx (k + 1) (p + 3 + eK cr + eK cr + tx.length) (p + partN cr tx)) (endQ cr tx (k + 1) (p + 3 + eK cr + eK cr + tx.length) (p + partN cr tx) n) = _
    rw [ih]
    rfl
theorem kid_first (cr : Bool) (tx P s l : List UInt8) (hl : l = P ++ ((eL cr ++ tx) ++ s)) : firstS l P.length (P.length + eK cr + tx.length) = ⟨P.length, P.length, P.length + eK cr⟩ := by
  have hp : partS l P.length (P.length + eK cr + tx.length) = eL cr ++ tx := by
    have h := partS_mid P (eL cr ++ tx) s
    rw [← hl, List.length_append, eL_len, ← Nat.add_assoc] at h
    exact h
  unfold firstS
  rw [hp]
  cases cr with
  | false =>
    have hf : feedI (eL false ++ tx) = 0 := rfl
    have he : eK false = 1 := rfl
    rw [hf, he, if_pos (by omega)]
    unfold endA
    rw [if_neg (by omega)]
    rfl
  | true =>
    have hf : feedI (eL true ++ tx) = 1 := rfl
    have he : eK true = 2 := rfl
    rw [hf, he, if_pos (by omega)]
    unfold endA
    have h13 : l.getD (P.length + 1 - 1) 0 = 13 := by
      rw [hl, show P.length + 1 - 1 = P.length + 0 by omega, getD_mid]
      rfl
    rw [if_pos ⟨by omega, h13⟩]
    rfl
theorem kid_lines (cr : Bool) (tx P s l : List UInt8) (hl : l = P ++ ((eL cr ++ tx) ++ s)) : ∃ r, linesS l P.length (P.length + eK cr + tx.length) = ⟨P.length, P.length, P.length + eK cr⟩ :: r := by
  have hle : P.length + eK cr + tx.length ≤ l.length := by rw [hl]; simp only [List.length_append, eL_len]; omega
  have he := eK_two cr
  rw [linesS_step l (by omega) hle, kid_first cr tx P s l hl]
  exact ⟨_, rfl⟩
theorem kid_ei {ls : List Ln} {a n : Nat} {r : List Ln} (h : ls = ⟨a, a, n⟩ :: r) : eI ls = 0 := by
  rw [h]
  unfold eI
  rw [List.findIdx_cons]
  simp
theorem kid_hd (cr : Bool) (tx P s l : List UInt8) (hl : l = P ++ ((eL cr ++ tx) ++ s)) : hdOf l P.length (P.length + eK cr + tx.length) = P.length + eK cr := by
  obtain ⟨r, hr⟩ := kid_lines cr tx P s l hl
  have hei := kid_ei hr
  unfold hdOf behindN
  rw [dif_pos (by rw [hei, hr]; simp)]
  simp only [hei]
  simp only [hr]
  rfl
theorem kid_fs (cr : Bool) (tx P s l : List UInt8) (hl : l = P ++ ((eL cr ++ tx) ++ s)) : fsOf l P.length (P.length + eK cr + tx.length) = [] := by
  obtain ⟨r, hr⟩ := kid_lines cr tx P s l hl
  unfold fsOf
  rw [kid_ei hr, List.take_zero]
  rfl
theorem kid_type (l : List UInt8) : typeS l [] false = ⟨txtN, plnN, []⟩ := by
  have hv : valueS l [] ctyN = [] := by unfold valueS; rw [dif_neg (by show ¬ 0 < 0; omega)]
  unfold typeS
  rw [hv]
  have hp : parseL [] true = none := by kernel_rfl
  rw [hp]
  rfl
theorem kid_ent (cr : Bool) (tx P s l : List UInt8) (hl : l = P ++ ((eL cr ++ tx) ++ s)) (d c : Nat) :
    entS l d (P.length, P.length + eK cr + tx.length) false c = (leafT P.length (P.length + eK cr) (P.length + eK cr + tx.length), c) := by
  have hh := kid_hd cr tx P s l hl
  cases d with
  | zero =>
    show (leafT _ (hdOf _ _ _) _, c) = _
    simp only [hh]
  | succ d =>
    rw [entS_leaf (.inl (by
      simp only [kid_fs cr tx P s l hl, kid_type l]
      unfold pdS
      rw [if_neg (by decide), if_neg (by rintro ⟨h1, _⟩; revert h1; decide)]
      rfl))]
    simp only [hh]
theorem many_run (cr : Bool) (tx : List UInt8) (d : Nat) : ∀ (k : Nat) (P l : List UInt8) (c : Nat), l = P ++ (repQ cr tx k ++ clQ) →
    kidsRun (fun s' c' => entS l d s' false c') (kidsQ cr tx k P.length) c = (leavesQ cr tx k P.length, c)
  | 0, _, _, _, _ => rfl
  | k + 1, P, l, c, hl => by
    have h1 : l = (P ++ (qQ ++ eL cr)) ++ ((eL cr ++ tx) ++ (eL cr ++ (repQ cr tx k ++ clQ))) := by rw [hl]; simp only [repQ, partQ, List.append_assoc]
    have e1 : (P ++ (qQ ++ eL cr)).length = P.length + 3 + eK cr := by simp only [List.length_append, eL_len]; show P.length + (3 + _) = _; omega
    have hk := kid_ent cr tx (P ++ (qQ ++ eL cr)) _ l h1 d c
    rw [e1] at hk
    have h4' : l = (P ++ partQ cr tx) ++ (repQ cr tx k ++ clQ) := by rw [hl]; simp only [repQ, List.append_assoc]
    have e4 : (P ++ partQ cr tx).length = P.length + partN cr tx := by rw [List.length_append, partQ_len]
    have ih := many_run cr tx d k (P ++ partQ cr tx) l c h4'
    rw [e4] at ih
    show ((entS l d (P.length + 3 + eK cr, P.length + 3 + eK cr + eK cr + tx.length) false c).1 :: (kidsRun _ (kidsQ cr tx k (P.length + partN cr tx)) (entS l d (P.length + 3 + eK cr, P.length + 3 + eK cr + eK cr + tx.length) false c).2).1, (kidsRun _ (kidsQ cr tx k (P.length + partN cr tx)) (entS l d (P.length + 3 + eK cr, P.length + 3 + eK cr + eK cr + tx.length) false c).2).2) = _
    rw [hk]
    simp only
    rw [ih]
    rfl
def mhT : List UInt8 := [99, 111, 110, 116, 101, 110, 116, 45, 116, 121, 112, 101, 58, 32, 109, 117, 108, 116, 105, 112, 97, 114, 116, 47, 120, 59, 32, 98, 111, 117, 110, 100, 97, 114, 121, 61, 34, 113, 34]
def mhH (cr : Bool) : List UInt8 := mhT ++ (eL cr ++ eL cr)
theorem mhH_len (cr : Bool) : (mhH cr).length = 39 + 2 * eK cr := by cases cr <;> rfl
set_option maxRecDepth 100000 in
theorem mh_hd (cr : Bool) (b : List UInt8) : hdOf (mhH cr ++ b) 0 (mhH cr ++ b).length = 39 + 2 * eK cr := by
  cases cr
  · kernel_rfl
  · kernel_rfl
set_option maxRecDepth 100000 in
theorem mh_fs (cr : Bool) (b : List UInt8) : fsOf (mhH cr ++ b) 0 (mhH cr ++ b).length = [⟨nameS mhT, 0, 13, 39 + eK cr⟩] := by
  cases cr
  · kernel_rfl
  · kernel_rfl
def mhV : List UInt8 := [109, 117, 108, 116, 105, 112, 97, 114, 116, 47, 120, 59, 32, 98, 111, 117, 110, 100, 97, 114, 121, 61, 34, 113, 34]
theorem mh_lines (cr : Bool) (b : List UInt8) : textsL (mhH cr ++ b) (linesS (mhH cr ++ b) 13 (39 + eK cr)) = 32 :: mhV := by
  cases cr
  · kernel_rfl
  · kernel_rfl
theorem mh_body (cr : Bool) (b : List UInt8) : bodyS (mhH cr ++ b) ((13 : Nat) : Int) ((39 + eK cr : Nat) : Int) = mhV := by
  have he := eK_two cr
  have hw : withinB ((13 : Nat) : Int) ((39 + eK cr : Nat) : Int) (mhH cr ++ b).length = true := by
    have : (mhH cr ++ b).length = 39 + 2 * eK cr + b.length := by rw [List.length_append, mhH_len]
    unfold withinB
    exact decide_eq_true ⟨by omega, by omega, by omega⟩
  unfold bodyS linesZ
  rw [if_pos hw]
  show trimS (textsL (mhH cr ++ b) (linesS (mhH cr ++ b) 13 (39 + eK cr))) = _
  rw [mh_lines]
  decide
theorem mh_parse : (parseL mhV true).map (fun V => (V.type, V.sub, boundS V.params)) = some (mulN, [120], some [113]) := by kernel_rfl
theorem mh_type (cr : Bool) (b : List UInt8) : ∃ V, typeS (mhH cr ++ b) (fsOf (mhH cr ++ b) 0 (mhH cr ++ b).length) false = V ∧ V.type = mulN ∧ V.sub = [120] ∧ boundS V.params = some [113] := by
  rw [mh_fs]
  have hv : valueS (mhH cr ++ b) [⟨nameS mhT, 0, 13, 39 + eK cr⟩] ctyN = mhV := by
    unfold valueS
    have hfi : fI ctyN [(⟨nameS mhT, 0, 13, 39 + eK cr⟩ : Fld)] = 0 := by
      unfold fI
      rw [List.findIdx_cons]
      have h1 : sameB (nameS mhT) ctyN = true := by decide
      simp [h1]
    rw [dif_pos (by rw [hfi]; simp)]
    simp only [hfi]
    exact mh_body cr b
  have hp := mh_parse
  unfold typeS
  rw [hv]
  cases hq : parseL mhV true with
  | none => rw [hq] at hp; cases hp
  | some V =>
    rw [hq] at hp
    have := Option.some.inj hp
    simp only [Prod.mk.injEq] at this
    exact ⟨V, rfl, this.1, this.2.1, this.2.2⟩
theorem many_pd (cr : Bool) (tx : List UInt8) (htx : letQ tx) (k : Nat) (l : List UInt8) (hl : l = mhH cr ++ (repQ cr tx k ++ clQ)) (V : Val) (h1 : V.type = mulN) (h3 : boundS V.params = some [113]) (fs : List Fld) :
    pdS l fs (39 + 2 * eK cr) l.length V = ⟨1, cutsQ cr tx k (39 + 2 * eK cr) (39 + 2 * eK cr), endQ cr tx k (39 + 2 * eK cr) (39 + 2 * eK cr) l.length, kidsQ cr tx k (39 + 2 * eK cr)⟩ := by
  have hc := many_cuts cr tx htx k (mhH cr) (39 + 2 * eK cr) l hl
  rw [mhH_len] at hc
  unfold pdS
  rw [if_pos h1, h3]
  simp only
  have hq : (45 :: 45 :: [113] : List UInt8) = qQ := rfl
  rw [hq, hc]
  simp only
  rw [many_kids]
theorem kidsQ_len (cr : Bool) (tx : List UInt8) : ∀ k p, (kidsQ cr tx k p).length = k
  | 0, _ => rfl
  | k + 1, p => by simp only [kidsQ, List.length_cons, kidsQ_len cr tx k]
theorem leavesQ_len (cr : Bool) (tx : List UInt8) : ∀ k p, (leavesQ cr tx k p).length = k
  | 0, _ => rfl
  | k + 1, p => by simp only [leavesQ, List.length_cons, leavesQ_len cr tx k]
theorem leavesQ_count (cr : Bool) (tx : List UInt8) : ∀ k p, countK (leavesQ cr tx k p) = k
  | 0, _ => rfl
  | k + 1, p => by
    have := leavesQ_count cr tx k (p + partN cr tx)
    show countT (leafT _ _ _) + countK (leavesQ cr tx k (p + partN cr tx)) = k + 1
    rw [this]
    show 1 + k = k + 1
    omega
/-- The tree of many parts. -/
theorem many_tree (cr : Bool) (tx : List UInt8) (htx : letQ tx) (k : Nat) (hk : 0 < k) (l : List UInt8) (hl : l = mhH cr ++ (repQ cr tx k ++ clQ)) :
    treeS l = if 999 < k then leafT 0 (39 + 2 * eK cr) l.length else .mk 1 (0, 39 + 2 * eK cr) (39 + 2 * eK cr, l.length) (leavesQ cr tx k (39 + 2 * eK cr)) (cutsQ cr tx k (39 + 2 * eK cr) (39 + 2 * eK cr)) (endQ cr tx k (39 + 2 * eK cr) (39 + 2 * eK cr) l.length) := by
  have hh := mh_hd cr (repQ cr tx k ++ clQ)
  obtain ⟨V, hV, v1, v2, v3⟩ := mh_type cr (repQ cr tx k ++ clQ)
  rw [← hl] at hh hV
  have hp := many_pd cr tx htx k l hl V v1 v3 (fsOf l 0 l.length)
  have hlen := kidsQ_len cr tx k (39 + 2 * eK cr)
  unfold treeS
  by_cases h9 : 999 < k
  · rw [if_pos h9, entS_leaf (.inr (by simp only [hh, hV, hp, hlen]; omega))]
    simp only [hh]
  · rw [if_neg h9]
    have hn : ¬ ((⟨1, cutsQ cr tx k (39 + 2 * eK cr) (39 + 2 * eK cr), endQ cr tx k (39 + 2 * eK cr) (39 + 2 * eK cr) l.length, kidsQ cr tx k (39 + 2 * eK cr)⟩ : Pd).kids = [] ∨ 1000 < 1 + (⟨1, cutsQ cr tx k (39 + 2 * eK cr) (39 + 2 * eK cr), endQ cr tx k (39 + 2 * eK cr) (39 + 2 * eK cr) l.length, kidsQ cr tx k (39 + 2 * eK cr)⟩ : Pd).kids.length) := by
      simp only [hlen]
      rintro (h | h)
      · rw [h] at hlen
        simp at hlen
        omega
      · omega
    rw [entS_kids (s := (0, l.length)) hV.symm (by simp only [hh]; exact hp.symm) hn]
    have hd : digS V = false := by unfold digS; rw [v2]; simp; intro _; decide
    have hr := many_run cr tx 31 k (mhH cr) l (1 + k) hl
    rw [mhH_len] at hr
    simp only [hh, hd, hlen, hr]
theorem many_kid (cr : Bool) (tx : List UInt8) : ∀ (k : Nat) (P l : List UInt8) (i : Nat), l = P ++ (repQ cr tx k ++ clQ) → (hi : i < (leavesQ cr tx k P.length).length) →
    ∃ b, (leavesQ cr tx k P.length)[i].bd = (b, b + tx.length) ∧ b + tx.length ≤ l.length ∧ partS l b (b + tx.length) = tx
  | 0, _, _, i, _, hi => by simp [leavesQ] at hi
  | k + 1, P, l, 0, hl, hi => by
    have h1 : l = (P ++ (qQ ++ (eL cr ++ eL cr))) ++ (tx ++ (eL cr ++ (repQ cr tx k ++ clQ))) := by rw [hl]; simp only [repQ, partQ, List.append_assoc]
    have e1 : (P ++ (qQ ++ (eL cr ++ eL cr))).length = P.length + 3 + eK cr + eK cr := by simp only [List.length_append, eL_len]; show P.length + (3 + _) = _; omega
    have hp := partS_mid (P ++ (qQ ++ (eL cr ++ eL cr))) tx (eL cr ++ (repQ cr tx k ++ clQ))
    rw [← h1, e1] at hp
    refine ⟨P.length + 3 + eK cr + eK cr, rfl, ?_, hp⟩
    rw [h1, List.length_append, e1, List.length_append]
    omega
  | k + 1, P, l, i + 1, hl, hi => by
    have h4' : l = (P ++ partQ cr tx) ++ (repQ cr tx k ++ clQ) := by rw [hl]; simp only [repQ, List.append_assoc]
    have e4 : (P ++ partQ cr tx).length = P.length + partN cr tx := by rw [List.length_append, partQ_len]
    have ih := many_kid cr tx k (P ++ partQ cr tx) l i h4'
    rw [e4] at ih
    exact ih (by simpa [leavesQ] using hi)
end Go.Proofs.YtahmhakdpmcdoaaGreatDoor
