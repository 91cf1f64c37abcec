/- A law of my own, of no function: a region that draws its order, some of whose operations make memory that others of it read (a slice that is built, and handed to a call): one walk, in the order of the text; the values of all other operations are given ahead, as a list that the walk fills. -/
import Derived.Test.YtpmjlhpbknppiaaDoorQB
import Derived.Test.YtpmjlhpbknppiaaDoorGd02
import Derived.Test.YtpmjlhpbknppiaaDoorDtW
import Derived.Deep.RegionHeld
import Derived.Deep.DeepCutAuto
import Derived.Deep.CutBlock
namespace Go.Proofs.YtpmjlhpbknppiaaDoor
open Go Go.RowKit
section
variable {P : Program} {ops : Array Oper} {md : Region.Mode} {base : World} {free : List Tmp} {R : Tmp → Value → World → Prop}

/-- What an operation is told of the free temporaries that it looks at. -/
def FreTold (ops : Array Oper) (free : List Tmp) (R : Tmp → Value → World → Prop) (o : Oper) (a : Act) (w : World) : Prop :=
  ∀ t ∈ o.looksAt ops, t ∈ free → R t (a.eval (.tmp t)) w
def freUpon (P : Program) (G : Value → World → Prop) (w : World) : Result Next → Prop
  | .ok (.value u) w' => Below w.heap.size w w' ∧ G u w'
  | .ok .skip w' => Below w.heap.size w w' ∧ G undef w'
  | .ok (.enter f args) w' => Below w.heap.size w w' ∧ Calls P f args w' (fun e w'' => ∃ u, e = .returned u ∧ Below w'.heap.size w' w'' ∧ G u w'')
  | _ => False
def freIs (free : List Tmp) (o : Oper) : Bool := match o.dst with | some d => free.contains d | none => false
def freOuts (free : List Tmp) (R : Tmp → Value → World → Prop) (o : Oper) (x : Value) (u : Value) (w : World) : Prop :=
  if freIs free o = true then ∀ t, o.dst = some t → R t u w else u = x ∨ o.dst = none
def FreRuns (P : Program) (ops : Array Oper) (base : World) (free : List Tmp) (R : Tmp → Value → World → Prop) (o : Oper) (a : Act) (x : Value) : Prop :=
  ∀ z : BW base, FreTold ops free R o a z.v → freUpon P (freOuts free R o x) z.v ((execOp a.eval o).run P z.v)
/-- What must hold of an operation in a state. -/
def FreFit (P : Program) (ops : Array Oper) (base : World) (free : List Tmp) (R : Tmp → Value → World → Prop) (o : Oper) (a : Act) (x : Value) : Prop :=
  (Region.wanted o (yielded ops a.tmps) = true → FreRuns P ops base free R o a x) ∧ (Region.wanted o (yielded ops a.tmps) = false → freIs free o = false)
/-- Which values may come of it. -/
def FreMay (ops : Array Oper) (free : List Tmp) (o : Oper) (a : Act) (x : Value) (v : Value) : Prop :=
  (Region.wanted o (yielded ops a.tmps) = true ∧ (freIs free o = true ∨ v = x)) ∨ (Region.wanted o (yielded ops a.tmps) = false ∧ v = undef)
theorem fre_may_some (ops : Array Oper) (free : List Tmp) (o : Oper) (a : Act) (x : Value) : ∃ v, FreMay ops free o a x v := by
  by_cases h : Region.wanted o (yielded ops a.tmps) = true
  · exact ⟨x, .inl ⟨h, .inr rfl⟩⟩
  · exact ⟨undef, .inr ⟨by simpa using h, rfl⟩⟩
theorem fre_told_put {o : Oper} {a : Act} {d : Option Tmp} {v : Value} {w : World} (h : ∀ t, d = some t → t ∉ o.looksAt ops) : FreTold ops free R o (a.put d v) w ↔ FreTold ops free R o a w := by
  unfold FreTold
  refine ⟨fun hh t ht hf => ?_, fun hh t ht hf => ?_⟩
  · have := hh t ht hf
    rwa [Act.eval_put (fun d' hd he => h d' hd (by cases he; exact ht))] at this
  · have := hh t ht hf
    rwa [Act.eval_put (fun d' hd he => h d' hd (by cases he; exact ht))]
theorem fre_runs_put {o : Oper} (hs : ∀ cs b, o.op ≠ .select cs b) {a : Act} {d : Option Tmp} {v x : Value} (h : ∀ t, d = some t → t ∉ o.looksAt ops) : FreRuns P ops base free R o (a.put d v) x ↔ FreRuns P ops base free R o a x := by
  unfold FreRuns
  rw [execOp_put o hs a d v h]
  exact ⟨fun hh z ht => hh z ((fre_told_put h).2 ht), fun hh z ht => hh z ((fre_told_put h).1 ht)⟩
theorem fre_fit_put {o : Oper} (hs : ∀ cs b, o.op ≠ .select cs b) {a : Act} {d : Option Tmp} {v x : Value} (h : ∀ t, d = some t → t ∉ o.looksAt ops) : FreFit P ops base free R o (a.put d v) x ↔ FreFit P ops base free R o a x := by
  unfold FreFit
  rw [wanted_put o a d v h, fre_runs_put hs h]
theorem fre_may_put {o : Oper} {a : Act} {d : Option Tmp} {v x u : Value} (h : ∀ t, d = some t → t ∉ o.looksAt ops) : FreMay ops free o (a.put d v) x u ↔ FreMay ops free o a x u := by
  unfold FreMay
  rw [wanted_put o a d v h]
/-- Operation number i comes up in state a. -/
def freOp (P : Program) (ops : Array Oper) (base : World) (free : List Tmp) (R : Tmp → Value → World → Prop) (vals : Nat → Value) (i : Nat) (K : Act → Prop) (a : Act) : Prop :=
  match ops[i]? with
  | none => K a
  | some o => FreFit P ops base free R o a (vals i) ∧ ∀ v, FreMay ops free o a (vals i) v → K (a.put o.dst v)
theorem freOp_mono {vals : Nat → Value} {i : Nat} {a : Act} {K K' : Act → Prop} (h : ∀ a, K a → K' a) (hh : freOp P ops base free R vals i K a) : freOp P ops base free R vals i K' a := by
  unfold freOp at *
  split
  · rename_i ho
    simp only [ho] at hh
    exact h _ hh
  · rename_i o ho
    simp only [ho] at hh
    exact ⟨hh.1, fun v hv => h _ (hh.2 v hv)⟩
def wpAnyF (P : Program) (md : Region.Mode) (ops : Array Oper) (base : World) (free : List Tmp) (R : Tmp → Value → World → Prop) (vals : Nat → Value) (Q : Act → Prop) : Nat → Array Bool → Act → Prop
  | 0, listed, a => Region.ready md ops listed = [] ∧ Q a
  | fuel + 1, listed, a =>
    (Region.ready md ops listed = [] → Q a) ∧
    ∀ i ∈ Region.ready md ops listed, freOp P ops base free R vals i (wpAnyF P md ops base free R vals Q fuel (listed.setIfInBounds i true)) a
theorem freOp_some {vals : Nat → Value} {i : Nat} {o : Oper} (hi : ops[i]? = some o) {K : Act → Prop} {a : Act} : freOp P ops base free R vals i K a ↔ FreFit P ops base free R o a (vals i) ∧ ∀ v, FreMay ops free o a (vals i) v → K (a.put o.dst v) := by
  unfold freOp
  simp only [hi]
theorem freOp_put {vals : Nat → Value} {i j : Nat} {oi oj : Oper} (hj : ops[j]? = some oj) (hap : oi.apart ops oj = true)
    (hsi : ∀ cs b, oi.op ≠ .select cs b) (hsj : ∀ cs b, oj.op ≠ .select cs b) {K : Act → Prop} {a : Act}
    (hy : FreFit P ops base free R oi a (vals i)) (h : ∀ v, FreMay ops free oi a (vals i) v → freOp P ops base free R vals j K (a.put oi.dst v)) :
    freOp P ops base free R vals j (fun a' => FreFit P ops base free R oi a' (vals i) ∧ ∀ v, FreMay ops free oi a' (vals i) v → K (a'.put oi.dst v)) a := by
  obtain ⟨h1, h2, h3⟩ := Oper.apart_spec hap
  rw [freOp_some hj]
  obtain ⟨v0, hv0⟩ := fre_may_some ops free oi a (vals i)
  have g0 := (freOp_some hj).1 (h v0 hv0)
  refine ⟨(fre_fit_put hsj h1).1 g0.1, fun u hu => ⟨(fre_fit_put hsi h3).2 hy, fun v hv => ?_⟩⟩
  have hv' := (fre_may_put h3).1 hv
  have g := (freOp_some hj).1 (h v hv')
  rw [← Act.put_comm a v u h2]
  exact g.2 u ((fre_may_put h1).2 hu)
theorem wpAnyF_first {vals : Nat → Value} {Q : Act → Prop} {i : Nat} {oi : Oper} (hi : ops[i]? = some oi) (hsel : ∀ (j : Nat) (o : Oper) cs b, ops[j]? = some o → o.op ≠ .select cs b) :
    ∀ (fuel : Nat) (listed : Array Bool) (a : Act),
      (∀ j oj, ops[j]? = some oj → j ≠ i → listed.getD j true = false → (∀ e ∈ oj.after, Region.binds md e = true → e.on ≠ i) → oi.apart ops oj = true) →
      i ∈ Region.ready md ops listed → FreFit P ops base free R oi a (vals i) →
      (∀ v, FreMay ops free oi a (vals i) v → wpAnyF P md ops base free R vals Q fuel (listed.setIfInBounds i true) (a.put oi.dst v)) → wpAnyF P md ops base free R vals Q (fuel + 1) listed a := by
  intro fuel
  induction fuel with
  | zero =>
    intro listed a _ hr hy H
    refine ⟨fun h => (by rw [h] at hr; cases hr), fun j hj => ?_⟩
    by_cases hji : j = i
    · subst hji; exact (freOp_some hi).2 ⟨hy, H⟩
    · have := ready_mono hj hji
      obtain ⟨v0, hv0⟩ := fre_may_some ops free oi a (vals i)
      rw [(H v0 hv0).1] at this
      cases this
  | succ fuel ih =>
    intro listed a hfree hr hy H
    refine ⟨fun h => (by rw [h] at hr; cases hr), fun j hj => ?_⟩
    by_cases hji : j = i
    · subst hji; exact (freOp_some hi).2 ⟨hy, H⟩
    · obtain ⟨hjun, oj, hoj, hall⟩ := mem_ready.1 hj
      have hnot : ∀ e ∈ oj.after, Region.binds md e = true → e.on ≠ i := fun e he hb heq => by
        have h1 := hall e he hb
        have h0 := (mem_ready.1 hr).1
        rw [heq] at h1
        rcases Nat.lt_or_ge i listed.size with h' | h'
        · simp [h'] at h0 h1; rw [h0] at h1; cases h1
        · simp [Array.getElem?_eq_none h'] at h1
      have h2 := freOp_put hoj (hfree j oj hoj hji hjun hnot) (fun cs b => hsel i oi cs b hi) (fun cs b => hsel j oj cs b hoj) hy (fun v hv => (H v hv).2 j (ready_mono hj hji))
      have hfree' : ∀ k ok, ops[k]? = some ok → k ≠ i → (listed.setIfInBounds j true).getD k true = false →
          (∀ e ∈ ok.after, Region.binds md e = true → e.on ≠ i) → oi.apart ops ok = true := fun k ok hk hki hun hno => by
        refine hfree k ok hk hki ?_ hno
        by_cases hjk : j = k
        · subst hjk; exact hjun
        · rw [getD_set_ne true hjk] at hun; exact hun
      refine freOp_mono (fun a' h3 => ih (listed.setIfInBounds j true) a' hfree' (ready_mono hr (Ne.symm hji)) h3.1 ?_) h2
      rw [Array.setIfInBounds_comm _ _ hji]
      exact h3.2
/-- The walk in the order of the text. -/
def wpFre (P : Program) (ops : Array Oper) (base : World) (free : List Tmp) (R : Tmp → Value → World → Prop) (Q : Act → Prop) : List Oper → List Value → Act → Prop
  | [], _, a => Q a
  | o :: l, xs, a => FreFit P ops base free R o a (xs.headD undef) ∧ ∀ v, FreMay ops free o a (xs.headD undef) v → wpFre P ops base free R Q l xs.tail (a.put o.dst v)
theorem wpAnyF_lex {vals : Nat → Value} {Q : Act → Prop} (hs : Region.noSelect ops = true) : ∀ (l : List Oper) (xs : List Value) (k : Nat) (listed : Array Bool) (a : Act), (∀ j, l[j]? = ops[k + j]?) → (∀ j, xs.getD j undef = vals (k + j)) →
    Region.lexFrom md ops l.length k listed = true → wpFre P ops base free R Q l xs a → wpAnyF P md ops base free R vals Q l.length listed a
  | [], _, _, _, _, _, _, hB, h => ⟨by simpa [Region.lexFrom] using hB, h⟩
  | o :: l, xs, k, listed, a, hl, hx, hB, h => by
    have h0 : ops[k]? = some o := by simpa using (hl 0).symm
    have x0 : xs.headD undef = vals k := by have := hx 0; cases xs <;> simpa using this
    simp only [List.length_cons, Region.lexFrom, Bool.and_eq_true] at hB
    obtain ⟨⟨hr, hf⟩, hB'⟩ := hB
    obtain ⟨hy, hK⟩ := h
    rw [x0] at hy hK
    exact wpAnyF_first h0 (Region.noSelect_spec hs) l.length listed a (Region.free_spec h0 hf) (by simpa using hr) hy
      (fun v hv => wpAnyF_lex hs l xs.tail (k + 1) _ _ (fun j => by have := hl (j + 1); simpa [Nat.add_assoc, Nat.add_comm 1 j] using this) (fun j => by have := hx (j + 1); cases xs <;> simpa [Nat.add_assoc, Nat.add_comm 1 j] using this) hB' (hK v hv))
/-- Whoever looks at a free temporary freWaits for who sets it. -/
def freWaits (md : Region.Mode) (ops : Array Oper) (free : List Tmp) : Bool :=
  ops.toList.all fun o => (o.looksAt ops).all fun t => !free.contains t || o.after.toList.any fun e => Region.binds md e && ((ops[e.on]?).bind (·.dst) == some t)
/-- What is known of a state on the way. -/
structure FreInv (ops : Array Oper) (free : List Tmp) (R : Tmp → Value → World → Prop) (listed : Array Bool) (a : Act) (w : World) : Prop where
  size : ∀ t ∈ free, t < a.tmps.size
  known : ∀ t ∈ free, (∃ i o, ops[i]? = some o ∧ listed.getD i false = true ∧ o.dst = some t) → R t (a.eval (.tmp t)) w
theorem fre_size_put (a : Act) (d : Option Tmp) (v : Value) : (a.put d v).tmps.size = a.tmps.size := by
  cases d <;> simp [Act.put]
theorem fre_eval_self {a : Act} {t : Tmp} {v : Value} (h : t < a.tmps.size) : (a.put (some t) v).eval (.tmp t) = v := by
  simp [Act.eval, Act.put, h]
theorem fre_told_of {listed : Array Bool} {a : Act} {w : World} (hW : freWaits md ops free = true) {i : Nat} {o : Oper} (hi : ops[i]? = some o) (hr : i ∈ Region.ready md ops listed) (hI : FreInv ops free R listed a w) : FreTold ops free R o a w := by
  intro t ht hf
  refine hI.known t hf ?_
  obtain ⟨_, o', ho', hall⟩ := mem_ready.1 hr
  rw [hi] at ho'
  cases ho'
  have h1 := List.all_eq_true.1 hW o (by simpa using Array.mem_of_getElem? hi)
  have h2 := List.all_eq_true.1 h1 t ht
  have hc : free.contains t = true := by simpa using hf
  rw [hc] at h2
  simp only [Bool.not_true, Bool.false_or] at h2
  obtain ⟨e, he, hb⟩ := List.any_eq_true.1 h2
  simp only [Bool.and_eq_true, beq_iff_eq] at hb
  cases ho2 : ops[e.on]? with
  | none => rw [ho2] at hb; exact absurd hb.2 (by simp)
  | some oe =>
    rw [ho2] at hb
    exact ⟨e.on, oe, ho2, hall e (by simpa using he) hb.1, by simpa using hb.2⟩
theorem fre_inv_put {listed : Array Bool} {a : Act} {w w' : World} {i : Nat} {o : Oper} {v : Value} (hR : ∀ t v w w', t ∈ free → R t v w → Below w.heap.size w w' → R t v w') (hi : ops[i]? = some o)
    (hI : FreInv ops free R listed a w) (hb : Below w.heap.size w w') (ho : ∀ t ∈ free, o.dst = some t → R t v w') : FreInv ops free R (listed.setIfInBounds i true) (a.put o.dst v) w' := by
  refine ⟨fun t ht => by rw [fre_size_put]; exact hI.size t ht, fun t ht ⟨j, oj, hj, hl, hd⟩ => ?_⟩
  by_cases hot : o.dst = some t
  · rw [hot, fre_eval_self (hI.size t ht)]
    exact ho t ht hot
  · rw [Act.eval_put (fun d hdd he => hot (by rw [hdd]; cases he; rfl))]
    have hji : i ≠ j := fun e => by subst e; rw [hi] at hj; cases hj; exact hot hd
    rw [getD_set_ne false hji] at hl
    exact hR t _ _ _ ht (hI.known t ht ⟨j, oj, hj, hl, hd⟩) hb
theorem wpAny_of_fre {vals : Nat → Value} {Q : Act → Prop} {Q' : Exit → Act → World → Prop} (hW : freWaits md ops free = true) (hR : ∀ t v w w', t ∈ free → R t v w → Below w.heap.size w w' → R t v w') (hQ : ∀ a w, (∃ z : BW base, w = z.v) → Q a → Q' .normal a w) :
    ∀ (fuel : Nat) (listed : Array Bool) (a : Act) (z : BW base), FreInv ops free R listed a z.v → wpAnyF P md ops base free R vals Q fuel listed a → wpAny P md ops Q' fuel listed a z.v
  | 0, _, _, z, _, h => ⟨h.1, hQ _ _ ⟨z, rfl⟩ h.2⟩
  | fuel + 1, listed, a, z, hI, h => by
    refine ⟨fun h0 => hQ _ _ ⟨z, rfl⟩ (h.1 h0), fun i hi => ?_⟩
    have h2 := h.2 i hi
    obtain ⟨_, o, ho, _⟩ := mem_ready.1 hi
    obtain ⟨⟨f1, f2⟩, hK⟩ := (freOp_some ho).1 h2
    unfold wpOp
    simp only [ho]
    by_cases hw : Region.wanted o (yielded ops a.tmps) = true
    · simp only [hw, if_true]
      refine .inl ?_
      have hrun := f1 hw z (fre_told_of hW ho hi hI)
      have go : ∀ (u : Value) (z' : BW base), Below z.v.heap.size z.v z'.v → freOuts free R o (vals i) u z'.v → wpAny P md ops Q' fuel (listed.setIfInBounds i true) (a.put o.dst u) z'.v := fun u z' hb hu => by
        by_cases hf : freIs free o = true
        · simp only [freOuts, hf, if_true] at hu
          exact wpAny_of_fre hW hR hQ fuel _ _ z' (fre_inv_put hR ho hI hb (fun t _ hd => hu t hd)) (hK u (.inl ⟨hw, .inl hf⟩))
        · have hf' : freIs free o = false := by simpa using hf
          have hn : ∀ t ∈ free, o.dst = some t → False := fun t ht hd => by simp [freIs, hd, ht] at hf'
          simp only [freOuts, hf', Bool.false_eq_true, if_false] at hu
          have he : a.put o.dst u = a.put o.dst (vals i) := by
            rcases hu with rfl | hu
            · rfl
            · rw [hu]; rfl
          rw [he]
          exact wpAny_of_fre hW hR hQ fuel _ _ z' (fre_inv_put hR ho hI hb (fun t ht hd => (hn t ht hd).elim)) (hK _ (.inl ⟨hw, .inr rfl⟩))
      unfold Oper.wp
      generalize (execOp a.eval o).run P z.v = r at *
      cases r with
      | ok n w' =>
        cases n <;> simp only [freUpon] at hrun <;> simp only [Oper.upon]
        case value u => exact go u ⟨w', z.h.trans (hrun.1.mono z.h.size)⟩ hrun.1 hrun.2
        case skip => exact go undef ⟨w', z.h.trans (hrun.1.mono z.h.size)⟩ hrun.1 hrun.2
        case enter f args =>
          refine hrun.2.mono ?_
          rintro e w'' ⟨u, rfl, hb, hu⟩
          have hb' : Below z.v.heap.size z.v w'' := hrun.1.trans (hb.mono hrun.1.size)
          exact go u ⟨w'', z.h.trans (hb'.mono z.h.size)⟩ hb' hu
      | halt x w' => simp only [freUpon] at hrun
    · have hw' : Region.wanted o (yielded ops a.tmps) = false := by simpa using hw
      simp only [hw', Bool.false_eq_true, if_false]
      have hf' := f2 hw'
      have hn : ∀ t ∈ free, o.dst = some t → False := fun t ht hd => by simp [freIs, hd, ht] at hf'
      exact wpAny_of_fre hW hR hQ fuel _ _ z (fre_inv_put hR ho hI (Below.refl _ _) (fun t ht hd => (hn t ht hd).elim)) (hK _ (.inr ⟨hw', rfl⟩))
theorem wp_region_fre {id : Nat} {Q : Exit → Act → World → Prop} {a : Act} {w : World} {l : List Oper} (free : List Tmp) (R : Tmp → Value → World → Prop) (xs : List Value) (hm : P.follows .mixedOrders = true) (hB : Region.lexB .any l.toArray = true)
    (hW : freWaits .any l.toArray free = true) (hS : free.all (fun t => decide (t < a.tmps.size)) = true) (hR : ∀ t v w w', t ∈ free → R t v w → Below w.heap.size w w' → R t v w')
    (h : wpFre P l.toArray w free R (fun a' => ∀ w', (∃ z : BW w, w' = z.v) → Q .normal a' w') l xs a) : (Code.region id l.toArray true).wp P Q a w := by
  simp only [Region.lexB, Bool.and_eq_true] at hB
  have h1 := wpAnyF_lex (P := P) (base := w) (free := free) (R := R) (md := .any) (vals := fun j => xs.getD j undef) hB.1 l xs 0 (Array.replicate l.toArray.size false) a (by simp) (by simp) (by simpa using hB.2) h
  refine wp_region_any hm ?_
  have h2 := wpAny_of_fre (P := P) (base := w) (free := free) (R := R) (md := .any) (Q := fun a' => ∀ w', (∃ z : BW w, w' = z.v) → Q .normal a' w') (Q' := Q) hW hR (fun _ w' hw' h => h w' hw') l.length (Array.replicate l.toArray.size false) a ⟨w.drew, (Below.refl _ _).drew⟩
    ⟨fun t ht => by simpa using List.all_eq_true.1 hS t ht, fun t ht ⟨i, o, _, hl, _⟩ => absurd hl (by rw [Array.getD_eq_getD_getElem?, Array.getElem?_replicate]; split <;> simp)⟩ h1
  simpa using h2
/-- Whether what an operation sets is a slot of the frame. -/
def freIn (o : Oper) (a : Act) : Bool := match o.dst with | some d => decide (d < a.tmps.size) | none => true
theorem fre_put_inj {o : Oper} {a : Act} {v x : Value} (hb : freIn o a = true) (h : a.put o.dst v = a.put o.dst x) : v = x ∨ o.dst = none := by
  cases hd : o.dst with
  | none => exact .inr rfl
  | some d =>
    left
    rw [hd] at h
    have := congrArg (fun b : Act => b.eval (.tmp d)) h
    have hb' : d < a.tmps.size := by simpa [freIn, hd] using hb
    simpa [fre_eval_self hb'] using this
variable {Q : Act → Prop} {o : Oper} {l : List Oper} {x : Value} {xs : List Value} {a a' : Act}
/-- An operation whose value is given: shown as a quiet one from any world behind. -/
theorem wpFre_fix (hw : Region.wanted o (yielded ops a.tmps) = true) (hf : freIs free o = false) (hb : freIn o a = true)
    (h : ∀ z : BW base, FreTold ops free R o a z.v → ∀ K : Act → Prop, K a' → o.quiet P a (fun w' => ∃ y : BW z.v, w' = y.v) K) (he : a' = a.put o.dst x) (hk : wpFre P ops base free R Q l xs a') : wpFre P ops base free R Q (o :: l) (x :: xs) a := by
  refine ⟨⟨fun _ z ht => ?_, fun hn => (by rw [hw] at hn; cases hn)⟩, fun v hv => ?_⟩
  · obtain ⟨v, h1, h2⟩ := h z ht (fun b => b = a') rfl
    have hvx : v = x ∨ o.dst = none := fre_put_inj hb (h2.trans he)
    have ho : ∀ w, freOuts free R o x v w := fun w => by simp only [freOuts, hf, Bool.false_eq_true, if_false]; exact hvx
    have h3 := h1 z.v ⟨⟨z.v, Below.refl _ _⟩, rfl⟩
    simp only [List.headD_cons]
    unfold Oper.quietAt at h3
    generalize (execOp a.eval o).run P z.v = r at *
    cases r with
    | ok n w' =>
      cases n <;> simp only [Oper.quietUpon] at h3 <;> simp only [freUpon]
      case value u => rw [h3.1, h3.2]; exact ⟨Below.refl _ _, ho _⟩
      case skip => rw [h3.1, ← h3.2]; exact ⟨Below.refl _ _, ho _⟩
      case enter f args =>
        rw [h3.1]
        refine ⟨Below.refl _ _, h3.2.mono ?_⟩
        rintro e w'' ⟨rfl, y, rfl⟩
        exact ⟨v, rfl, y.h, ho _⟩
    | halt x w' => simp only [Oper.quietUpon] at h3
  · rcases hv with ⟨_, hv | hv⟩ | ⟨hn, _⟩
    · rw [hf] at hv; cases hv
    · simp only [List.headD_cons] at hv; rw [hv, ← he]; exact hk
    · rw [hw] at hn; cases hn
/-- An operation whose value depends on where memory is. -/
theorem wpFre_free {d : Tmp} (hw : Region.wanted o (yielded ops a.tmps) = true) (hd : o.dst = some d) (hm : free.contains d = true)
    (h : ∀ z : BW base, FreTold ops free R o a z.v → freUpon P (R d) z.v ((execOp a.eval o).run P z.v)) (hk : ∀ u, wpFre P ops base free R Q l xs (a.put (some d) u)) : wpFre P ops base free R Q (o :: l) (x :: xs) a := by
  have hf : freIs free o = true := by simp only [freIs, hd]; exact hm
  refine ⟨⟨fun _ z ht => ?_, fun hn => (by rw [hw] at hn; cases hn)⟩, fun v _ => by rw [hd]; exact hk v⟩
  have ho : ∀ u w, R d u w → freOuts free R o x u w := fun u w hr => by
    simp only [freOuts, hf, if_true]
    intro t ht
    rw [hd] at ht
    cases ht
    exact hr
  have h3 := h z ht
  simp only [List.headD_cons]
  generalize (execOp a.eval o).run P z.v = r at *
  cases r with
  | ok n w' =>
    cases n <;> simp only [freUpon] at h3 ⊢
    case value u => exact ⟨h3.1, ho _ _ h3.2⟩
    case skip => exact ⟨h3.1, ho _ _ h3.2⟩
    case enter f args =>
      refine ⟨h3.1, h3.2.mono ?_⟩
      rintro e w'' ⟨u, rfl, hb, hr⟩
      exact ⟨u, rfl, hb, ho _ _ hr⟩
  | halt x w' => simp only [freUpon] at h3
theorem wpFre_free_at {ts : List Value} {ds : List Deferred} {d : Tmp} (hw : Region.wanted o (yielded ops ts.toArray) = true) (hd : o.dst = some d) (hm : free.contains d = true)
    (h : ∀ z : BW base, FreTold ops free R o ⟨ts.toArray, ds⟩ z.v → freUpon P (R d) z.v ((execOp (Act.eval ⟨ts.toArray, ds⟩) o).run P z.v)) (hk : ∀ u, wpFre P ops base free R Q l xs ⟨(ts.set d u).toArray, ds⟩) : wpFre P ops base free R Q (o :: l) (x :: xs) ⟨ts.toArray, ds⟩ :=
  wpFre_free hw hd hm h (fun u => by have := hk u; simpa [Act.put] using this)
theorem wpFre_nil (h : Q a) : wpFre P ops base free R Q [] xs a := h
end
end Go.Proofs.YtpmjlhpbknppiaaDoor

/- Contracts of package date: Internal. -/
namespace Go.Proofs.YtpmjlhpbknppiaaDoor
open Go Go.RowKit

/-- A moment's text. -/
def intT (y m d x zh zm : Nat) (sg : UInt8) : List UInt8 := [34] ++ filL 32 2 d ++ [45] ++ (monN m).data.toList ++ [45] ++ filL 48 4 y ++ [32] ++ Lib.join [filL 48 2 (x / 3600), filL 48 2 (x % 3600 / 60), filL 48 2 (x % 60)] [58] ++ [32] ++ [sg] ++ Lib.join [filL 48 2 zh, filL 48 2 zm] [] ++ [34]
def inR (sec zone : Int) : Prop := -1440 < zone ∧ zone < 1440 ∧ -1099511627776 ≤ sec ∧ sec ≤ 1099511627776
def secOf (sec zone : Int) : Nat := (sec + 60 * zone - 86400 * dayN sec zone).toNat
/-- What Internal tells. -/
def IntR (sec zone : Int) (l : List UInt8) : Prop :=
  (¬ inR sec zone ∧ l = []) ∨ (inR sec zone ∧ DayOf (dayN sec zone) none ∧ l = []) ∨
  (inR sec zone ∧ ∃ y m d, DayOf (dayN sec zone) (some (y, m, d)) ∧ l = intT y m d (secOf sec zone) (zone.natAbs / 60) (zone.natAbs % 60) (if zone < 0 then 45 else 43))
theorem ints_new3 (W : World) (t : TypeId) (a b c : Nat) : Ints (W.alloc (.cells #[.int .i64 (a : Int), .int .i64 (b : Int), .int .i64 (c : Int)] t)) (.slice (some ⟨W.heap.size, 0, none⟩) 3 3) [a, b, c] := by
  refine ⟨W.heap.size, 3, rfl, by simp, by omega, by simp, fun i hi => ?_⟩
  simp only [World.cell?, heap_alloc_new]
  have hi3 : i < 3 := hi
  rcases (by omega : i = 0 ∨ i = 1 ∨ i = 2) with rfl | rfl | rfl <;> rfl
theorem ints_new2 (W : World) (t : TypeId) (a b : Nat) : Ints (W.alloc (.cells #[.int .i64 (a : Int), .int .i64 (b : Int)] t)) (.slice (some ⟨W.heap.size, 0, none⟩) 2 2) [a, b] := by
  refine ⟨W.heap.size, 2, rfl, by simp, by omega, by simp, fun i hi => ?_⟩
  simp only [World.cell?, heap_alloc_new]
  have hi3 : i < 2 := hi
  rcases (by omega : i = 0 ∨ i = 1) with rfl | rfl <;> rfl
theorem ints_at3 (W : World) (t : TypeId) (a b c K : Nat) (hK : K = W.heap.size) : Ints (W.alloc (.cells #[.int .i64 (a : Int), .int .i64 (b : Int), .int .i64 (c : Int)] t)) (.slice (some ⟨K, 0, none⟩) 3 3) [a, b, c] := by subst hK; exact ints_new3 W t a b c
theorem ints_at2 (W : World) (t : TypeId) (a b K : Nat) (hK : K = W.heap.size) : Ints (W.alloc (.cells #[.int .i64 (a : Int), .int .i64 (b : Int)] t)) (.slice (some ⟨K, 0, none⟩) 2 2) [a, b] := by subst hK; exact ints_new2 W t a b
theorem below_alloc' {w W : World} (h : Below w.heap.size w W) (o : Obj) : Below w.heap.size w (W.alloc o) := h.alloc h.size o
theorem alloc_below (W : World) (o : Obj) : Below W.heap.size W (W.alloc o) := (Below.refl _ _).alloc (Nat.le_refl _) o

theorem step_below {X W W' : World} (hb : Below W.heap.size W W') (h : Below X.heap.size X W) : Below X.heap.size X W' := h.trans (hb.mono h.size)
set_option maxRecDepth 100000 in
set_option maxHeartbeats 8000000 in
theorem internal_any (sec zone : Int) (w : World) (h0 : -9223372036854775808 ≤ sec) (h1 : sec ≤ 9223372036854775807) (h2 : -9223372036854775808 ≤ zone) (h3 : zone ≤ 9223372036854775807) (hE : envD w) :
    Calls Tryd.prog 11 #[.agg #[.int .i64 sec, .int .i64 zone]] w fun e w' => (∃ l, e = .returned (.string ⟨l.toArray⟩) ∧ IntR sec zone l) ∧ Below w.heap.size w w' := by
  have HEn := Lib.hid hE
  obtain ⟨X1, hX1⟩ : ∃ X, X = w.alloc (.cells #[.int .i64 sec, .int .i64 zone] 24) := ⟨_, rfl⟩
  obtain ⟨c0, c1⟩ : X1.cell? ⟨w.heap.size, 0, none⟩ = some (.int .i64 sec) ∧ X1.cell? ⟨w.heap.size, 1, none⟩ = some (.int .i64 zone) := by rw [hX1]; exact cells2 w _ _ _
  have HB1 : Hid (Below w.heap.size w X1) := by rw [hX1]; exact (Below.refl _ _).alloc (Nat.le_refl _) _
  have hs1 : w.heap.size < X1.heap.size := by rw [hX1]; simp
  clear hE
  by_cases z1 : zone ≤ -1440
  · have i1 : decide (zone ≤ -1440) = true := decide_eq_true z1
    have HR : Hid (IntR sec zone []) := .inl ⟨fun h => by have := h.1; omega, rfl⟩
    go_enter Tryd.func11, Tryd.ntmps11
    go_wp2_with fail
    try rw [← hX1]
    go_wp2_with fail
    go_ret
    exact ⟨⟨[], rfl, HR.out⟩, by first | exact HB1.out | (rw [← hX1]; exact HB1.out)⟩
  · have i1 : decide (zone ≤ -1440) = false := decide_eq_false z1
    by_cases z2 : 1440 ≤ zone
    · have i2 : decide (1440 ≤ zone) = true := decide_eq_true z2
      have HR : Hid (IntR sec zone []) := .inl ⟨fun h => by have := h.2.1; omega, rfl⟩
      go_enter Tryd.func11, Tryd.ntmps11
      go_wp2_with fail
      try rw [← hX1]
      go_wp2_with fail
      go_ret
      exact ⟨⟨[], rfl, HR.out⟩, by first | exact HB1.out | (rw [← hX1]; exact HB1.out)⟩
    · have i2 : decide (1440 ≤ zone) = false := decide_eq_false z2
      by_cases s1 : sec < -1099511627776
      · have i3 : decide (sec < -1099511627776) = true := decide_eq_true s1
        have HR : Hid (IntR sec zone []) := .inl ⟨fun h => by have := h.2.2.1; omega, rfl⟩
        go_enter Tryd.func11, Tryd.ntmps11
        go_wp2_with fail
        try rw [← hX1]
        go_wp2_with fail
        go_ret
        exact ⟨⟨[], rfl, HR.out⟩, by first | exact HB1.out | (rw [← hX1]; exact HB1.out)⟩
      · have i3 : decide (sec < -1099511627776) = false := decide_eq_false s1
        by_cases s2 : 1099511627776 < sec
        · have i4 : decide (1099511627776 < sec) = true := decide_eq_true s2
          have HR : Hid (IntR sec zone []) := .inl ⟨fun h => by have := h.2.2.2; omega, rfl⟩
          go_enter Tryd.func11, Tryd.ntmps11
          go_wp2_with fail
          try rw [← hX1]
          go_wp2_with fail
          go_ret
          exact ⟨⟨[], rfl, HR.out⟩, by first | exact HB1.out | (rw [← hX1]; exact HB1.out)⟩
        · have i4 : decide (1099511627776 < sec) = false := decide_eq_false s2
          have HIn : Hid (inR sec zone) := ⟨by omega, by omega, by omega, by omega⟩
          have HDy := Lib.hid (fun w => day_any sec zone (by omega) (by omega) (by omega) (by omega) w)
          have hdb : -20000000 ≤ dayN sec zone ∧ dayN sec zone ≤ 20000000 := by unfold dayN; omega
          have hds : 0 ≤ sec + 60 * zone - 86400 * dayN sec zone ∧ sec + 60 * zone - 86400 * dayN sec zone < 86400 := by unfold dayN; omega
          have hxs : (secOf sec zone : Int) = sec + 60 * zone - 86400 * dayN sec zone := by unfold secOf; omega
          obtain ⟨x, hx⟩ : ∃ x, x = secOf sec zone := ⟨_, rfl⟩
          rw [← hx] at hxs
          obtain ⟨N, hN⟩ : ∃ N, N = dayN sec zone := ⟨_, rfl⟩
          rw [← hN] at HDy hdb hds hxs
          have HN := Lib.hid hN
          have HX := Lib.hid hx
          have HNu := Lib.hid (fun w hM => numbered_any N (by omega) (by omega) w hM)
          obtain ⟨hN0, hN1⟩ := hdb
          have hx86 : x < 86400 := by omega
          have hsx : sec + zone * 60 - N * 86400 = (x : Int) := by omega
          clear hds hxs hx hN h0 h1 h2 h3
          go_enter Tryd.func11, Tryd.ntmps11
          go_wp2_with fail
          rw [← hX1]
          clear hX1
          with_reducible refine (HDy.out _).mono ?_
          rintro e w1 ⟨rfl, hb1⟩
          have HB2 := Lib.hid (HB1.out.trans (hb1.mono HB1.out.size))
          have d0 : w1.cell? ⟨w.heap.size, 0, none⟩ = some (.int .i64 sec) := (hb1.cell (p := ⟨w.heap.size, 0, none⟩) hs1).trans c0
          have d1 : w1.cell? ⟨w.heap.size, 1, none⟩ = some (.int .i64 zone) := (hb1.cell (p := ⟨w.heap.size, 1, none⟩) hs1).trans c1
          have hs2 : w.heap.size < w1.heap.size := Nat.lt_of_lt_of_le hs1 hb1.size
          clear c0 c1 hb1 hs1 HB1
          go_wp2_with fail
          with_reducible refine (HNu.out _ (HEn.out.below HB2.out).m).mono ?_
          rintro e w2 ⟨⟨o, rfl, hD⟩, hb2⟩
          have HB3 := Lib.hid (HB2.out.trans (hb2.mono HB2.out.size))
          have f0 : w2.cell? ⟨w.heap.size, 0, none⟩ = some (.int .i64 sec) := (hb2.cell (p := ⟨w.heap.size, 0, none⟩) hs2).trans d0
          have f1 : w2.cell? ⟨w.heap.size, 1, none⟩ = some (.int .i64 zone) := (hb2.cell (p := ⟨w.heap.size, 1, none⟩) hs2).trans d1
          have hs3 : w.heap.size < w2.heap.size := Nat.lt_of_lt_of_le hs2 hb2.size
          clear d0 d1 hb2 hs2 HB2 HDy HNu
          rcases o with _ | ⟨y, m, d⟩
          · have HR : Hid (IntR sec zone []) := .inr (.inl ⟨HIn.out, by rw [← HN.out]; exact hD, rfl⟩)
            clear hD
            unfold dayV'
            go_wp2_with fail
            go_ret
            exact ⟨⟨[], rfl, HR.out⟩, by first | exact HB3.out | exact below_alloc' HB3.out _⟩
          · unfold dayV'
            go_wp2_with fail
            obtain ⟨X3, hX3⟩ : ∃ X, X = w2.alloc (.cells #[.int .i64 (y : Int), .int .i64 (m : Int), .int .i64 (d : Int)] 38) := ⟨_, rfl⟩
            obtain ⟨DB, hDB⟩ : ∃ DB, DB = w2.heap.size := ⟨_, rfl⟩
            have HD := Lib.hid hD
            have HBx : Hid (Below w.heap.size w X3) := by rw [hX3]; exact below_alloc' HB3.out _
            have b23 : Below w2.heap.size w2 X3 := by rw [hX3]; exact alloc_below w2 _
            have hdc := cells3 w2 38 (.int .i64 (y : Int)) (.int .i64 (m : Int)) (.int .i64 (d : Int)) 0
            have HDc : Hid (X3.cell? ⟨DB, 0, none⟩ = some (.int .i64 (y : Int)) ∧ X3.cell? ⟨DB, 1, none⟩ = some (.int .i64 (m : Int)) ∧ X3.cell? ⟨DB, 2, none⟩ = some (.int .i64 (d : Int))) := by rw [hX3, hDB]; exact hdc
            have g1 : ∀ n, (X3.drewN n).cell? ⟨w.heap.size, 1, none⟩ = some (.int .i64 zone) := fun n => (b23.cell (p := ⟨w.heap.size, 1, none⟩) hs3).trans f1
            have hs4 : w.heap.size < X3.heap.size := Nat.lt_of_lt_of_le hs3 b23.size
            have HDl : Hid (DB < X3.heap.size) := by rw [hX3, hDB]; exact by unfold Hid; simp
            obtain ⟨k1, k2, k3, k4, k5⟩ := numberK_inv hD.1
            have hm12 := hD.2
            have hdm := daysM_le y m
            rw [← hX3, ← hDB]
            clear hX3 hDB b23 hdc f0 f1 hs3 HB3 hD k5
            have g10 := g1 0
            go_quiet (fail)
            obtain ⟨X4, hX4⟩ : ∃ X, X = X3.drewN nq := ⟨_, rfl⟩
            replace HBx : Hid (Below w.heap.size w X4) := by rw [hX4]; exact HBx.out.trans ((below_drewN' nq).mono HBx.out.size)
            replace HDc : Hid (X4.cell? ⟨DB, 0, none⟩ = some (.int .i64 (y : Int)) ∧ X4.cell? ⟨DB, 1, none⟩ = some (.int .i64 (m : Int)) ∧ X4.cell? ⟨DB, 2, none⟩ = some (.int .i64 (d : Int))) := by rw [hX4]; exact HDc.out
            replace HDl : Hid (DB < X4.heap.size) := by rw [hX4]; exact HDl.out
            rw [← hX4]
            clear hX4 g1 g10 hs4
            obtain ⟨Z, hZ⟩ : ∃ Z, Z = zone.natAbs := ⟨_, rfl⟩
            obtain ⟨sg, hsg⟩ : ∃ sg : UInt8, sg = (if zone < 0 then 45 else 43) := ⟨_, rfl⟩
            have hZl : Z < 1440 := by omega
            have HZ := Lib.hid hZ
            have HSg := Lib.hid hsg
            clear hZ hsg
            go_upto_if 48 with fail
            go_cut [7, 8] (fun x7 x8 wx => x7 = .string ⟨#[sg]⟩ ∧ x8 = .int .i64 (Z : Int) ∧ X4 = wx)
            case first =>
              by_cases hz0 : zone < 0
              · have iz : decide (zone < 0) = true := decide_eq_true hz0
                have hZi : -zone = (Z : Int) := by have := HZ.out; omega
                have hse : sg = 45 := by rw [HSg.out, if_pos hz0]
                go_wp2_with fail
                go_meet
                exact ⟨by rw [hse], by first | rfl | (rw [hZi]), rfl⟩
              · have iz : decide (zone < 0) = false := decide_eq_false hz0
                have hZi : zone = (Z : Int) := by have := HZ.out; omega
                have hse : sg = 43 := by rw [HSg.out, if_neg hz0]
                have HZi := Lib.hid hZi
                clear hZi
                go_wp2_with fail
                go_meet
                exact ⟨by rw [hse], by rw [← HZi.out], rfl⟩
            case rest =>
              obtain ⟨rfl, rfl, rfl⟩ := hcut
              have hMm : mons X4 := (HEn.out.below HBx.out).m
              have hgm := hMm.lt
              have HU : Hid (∀ W, Below X4.heap.size X4 W → W.cell? ⟨DB, 2, none⟩ = some (.int .i64 (d : Int)) ∧ W.cell? ⟨DB, 1, none⟩ = some (.int .i64 (m : Int)) ∧ W.cell? ⟨DB, 0, none⟩ = some (.int .i64 (y : Int)) ∧ W.cell? ⟨0, m * 2, none⟩ = some (.string (monN m))) := fun W hb =>
                ⟨(hb.cell (p := ⟨DB, 2, none⟩) HDl.out).trans HDc.out.2.2, (hb.cell (p := ⟨DB, 1, none⟩) HDl.out).trans HDc.out.2.1, (hb.cell (p := ⟨DB, 0, none⟩) HDl.out).trans HDc.out.1, (hb.cell (p := ⟨0, m * 2, none⟩) hgm).trans (hMm.name m hm12)⟩
              have HTab : Hid (∀ W, Below X4.heap.size X4 W → tab W) := fun W hb => (HEn.out.below HBx.out).2.2.below hb
              have hml := monN_size m hm12
              obtain ⟨MN, hMN⟩ : ∃ MN, MN = monN m := ⟨_, rfl⟩
              rw [← hMN] at HU hml
              obtain ⟨a, ha⟩ : ∃ a : Nat, a = x / 3600 := ⟨_, rfl⟩
              obtain ⟨r, hr⟩ : ∃ r : Nat, r = x % 3600 := ⟨_, rfl⟩
              obtain ⟨b, hb⟩ : ∃ b : Nat, b = r / 60 := ⟨_, rfl⟩
              obtain ⟨c, hc⟩ : ∃ c : Nat, c = x % 60 := ⟨_, rfl⟩
              obtain ⟨zh, hzh⟩ : ∃ a : Nat, a = Z / 60 := ⟨_, rfl⟩
              obtain ⟨zm, hzm⟩ : ∃ a : Nat, a = Z % 60 := ⟨_, rfl⟩
              have q1 : (x : Int).tdiv 3600 = (a : Int) := by rw [Int.tdiv_eq_ediv_of_nonneg (by omega)]; omega
              have q2 : (x : Int) / 3600 = (a : Int) := by omega
              have q3 : (x : Int).tmod 3600 = (r : Int) := by rw [Int.tmod_eq_emod_of_nonneg (by omega)]; omega
              have q4 : (x : Int) % 3600 = (r : Int) := by omega
              have q5 : (r : Int).tdiv 60 = (b : Int) := by rw [Int.tdiv_eq_ediv_of_nonneg (by omega)]; omega
              have q6 : (r : Int) / 60 = (b : Int) := by omega
              have q7 : (x : Int).tmod 60 = (c : Int) := by rw [Int.tmod_eq_emod_of_nonneg (by omega)]; omega
              have q8 : (x : Int) % 60 = (c : Int) := by omega
              have q9 : (Z : Int).tdiv 60 = (zh : Int) := by rw [Int.tdiv_eq_ediv_of_nonneg (by omega)]; omega
              have p1 : (Z : Int) / 60 = (zh : Int) := by omega
              have p2 : (Z : Int).tmod 60 = (zm : Int) := by rw [Int.tmod_eq_emod_of_nonneg (by omega)]; omega
              have p3 : (Z : Int) % 60 = (zm : Int) := by omega
              have la : a ≤ 24 := by omega
              have lr : r < 3600 := by omega
              have lb : b ≤ 60 := by omega
              have lc : c ≤ 60 := by omega
              have lzh : zh ≤ 24 := by omega
              have lzm : zm ≤ 60 := by omega
              have HF1 := Lib.hid (fun W h => filled_lit 32 2 2 rfl d (by omega) (by omega) W h)
              have HF2 := Lib.hid (fun W h => filled_lit 48 4 4 rfl y (by omega) (by omega) W h)
              have HP3 := Lib.hid (fun v W hv h => pairs3_any ⟨#[58]⟩ (by decide) a b c (by omega) (by omega) (by omega) v W hv h)
              have HP2 := Lib.hid (fun v W hv h => pairs2_any ⟨#[]⟩ (by decide) zh zm (by omega) (by omega) v W hv h)
              have HIT : Hid (intT y m d x zh zm sg = intT y m d x (Z / 60) (Z % 60) sg) := by unfold Hid; rw [hzh, hzm]
              obtain ⟨D2, hD2⟩ : ∃ A : ByteArray, A = ⟨(filL 32 2 d).toArray⟩ := ⟨_, rfl⟩
              obtain ⟨Y4, hY4⟩ : ∃ A : ByteArray, A = ⟨(filL 48 4 y).toArray⟩ := ⟨_, rfl⟩
              obtain ⟨C3, hC3⟩ : ∃ A : ByteArray, A = ⟨(Lib.join [filL 48 2 a, filL 48 2 b, filL 48 2 c] (⟨#[58]⟩ : ByteArray).data.toList).toArray⟩ := ⟨_, rfl⟩
              obtain ⟨Z2, hZ2⟩ : ∃ A : ByteArray, A = ⟨(Lib.join [filL 48 2 zh, filL 48 2 zm] (⟨#[]⟩ : ByteArray).data.toList).toArray⟩ := ⟨_, rfl⟩
              have l1 : D2.size ≤ 29 := by rw [← len_toList, hD2]; exact filL_len 32 2 d (by omega) (by omega)
              have l2 : Y4.size ≤ 29 := by rw [← len_toList, hY4]; exact filL_len 48 4 y (by omega) (by omega)
              have l3 : C3.size ≤ 100 := by
                rw [← len_toList, hC3]
                have e1 := filL_len 48 2 a (by omega) (by omega)
                have e2 := filL_len 48 2 b (by omega) (by omega)
                have e3 := filL_len 48 2 c (by omega) (by omega)
                simp only [Lib.join, List.intercalate, List.intersperse, List.flatten_cons, List.flatten_nil, List.length_append, List.append_nil, List.length_cons, List.length_nil]
                omega
              have l4 : Z2.size ≤ 100 := by
                rw [← len_toList, hZ2]
                have e1 := filL_len 48 2 zh (by omega) (by omega)
                have e2 := filL_len 48 2 zm (by omega) (by omega)
                simp only [Lib.join, List.intercalate, List.intersperse, List.flatten_cons, List.flatten_nil, List.length_append, List.append_nil, List.length_nil]
                omega
              have HEq : Hid (⟨#[34]⟩ ++ D2 ++ ⟨#[45]⟩ ++ MN ++ ⟨#[45]⟩ ++ Y4 ++ ⟨#[32]⟩ ++ C3 ++ ⟨#[32]⟩ ++ ⟨#[sg]⟩ ++ Z2 ++ ⟨#[34]⟩ = ⟨(intT y m d x zh zm sg).toArray⟩) := by
                unfold Hid
                apply bytes_eq
                simp only [cat_toList]
                rw [hD2, hY4, hC3, hZ2, hMN]
                unfold intT
                rw [ha, hb, hr, hc]
              rw [← hD2] at HF1
              rw [← hY4] at HF2
              rw [← hC3] at HP3
              rw [← hZ2] at HP2
              have t1 : (⟨#[34]⟩ ++ D2 : ByteArray).size ≤ 400 := by simp only [ByteArray.size_append]; show 1 + D2.size ≤ 400; omega
              clear hMm hgm ha hr hb hc hzh hzm hD2 hY4 hC3 hZ2 hMN HDc HDl hsx hdm
              have ks1 : ¬ 9223372036854775807 < 1 + D2.size := by omega
              have ks2 : ¬ 9223372036854775807 < 1 + D2.size + 1 := by omega
              have ks3 : ¬ 9223372036854775807 < 1 + D2.size + 1 + MN.size := by omega
              have ks4 : ¬ 9223372036854775807 < 1 + D2.size + 1 + MN.size + 1 := by omega
              have ks5 : ¬ 9223372036854775807 < 1 + D2.size + 1 + MN.size + 1 + Y4.size := by omega
              have ks6 : ¬ 9223372036854775807 < 1 + D2.size + 1 + MN.size + 1 + Y4.size + 1 := by omega
              have ks7 : ¬ 9223372036854775807 < 1 + D2.size + 1 + MN.size + 1 + Y4.size + 1 + C3.size := by omega
              have ks8 : ¬ 9223372036854775807 < 1 + D2.size + 1 + MN.size + 1 + Y4.size + 1 + C3.size + 1 := by omega
              have ks9 : ¬ 9223372036854775807 < 1 + D2.size + 1 + MN.size + 1 + Y4.size + 1 + C3.size + 1 + 1 := by omega
              have ks10 : ¬ 9223372036854775807 < 1 + D2.size + 1 + MN.size + 1 + Y4.size + 1 + C3.size + 1 + 1 + Z2.size := by omega
              have ks11 : ¬ 9223372036854775807 < 1 + D2.size + 1 + MN.size + 1 + Y4.size + 1 + C3.size + 1 + 1 + Z2.size + 1 := by omega
              have hmI : (m : Int) < 12 := by omega
              have hd0 : Below X4.heap.size X4 X4.drew := (Below.refl _ _).drew
              go_wp2_with fail
              apply wp_region_fre [75, 85] (fun t v W => if t = 75 then Ints W v [a, b, c] else Ints W v [zh, zm]) [_, _, _, _, _, _, _, _, _, _, _, _, _, _, _, _, _, _, _, _, _, _, _, _, undef, _, _, _, _, _, _, _, _, _, undef, _, _, _, _]
              case hm => kernel_rfl
              case hB => kernel_rfl
              case hW => kernel_rfl
              case hS => kernel_rfl
              case hR =>
                intro t v W W' _ h hb
                by_cases ht : t = 75
                · simp only [ht, if_true] at h ⊢; exact h.below hb
                · simp only [ht, if_false] at h ⊢; exact h.below hb
              case h =>
                iterate 2
                  apply wpFre_fix
                  case' hw => exact rfl
                  case' hf => exact rfl
                  case' hb => kernel_rfl
                  case' h =>
                    intro z h0 K hK
                    have f1 := fun q : BW z.v => HU.out q.v (z.h.trans (q.h.mono z.h.size))
                    have g1 : ∀ q : BW z.v, q.v.cell? ⟨DB, 2, none⟩ = some (.int .i64 (d : Int)) := fun q => (f1 q).1
                    have g2 : ∀ q : BW z.v, q.v.cell? ⟨DB, 1, none⟩ = some (.int .i64 (m : Int)) := fun q => (f1 q).2.1
                    have g3 : ∀ q : BW z.v, q.v.cell? ⟨DB, 0, none⟩ = some (.int .i64 (y : Int)) := fun q => (f1 q).2.2.1
                    have g4 : ∀ q : BW z.v, q.v.cell? ⟨0, m * 2, none⟩ = some (.string MN) := fun q => (f1 q).2.2.2
                    clear f1
                    go_big_quiet_op
                    exact hK
                  case' he => exact rfl
                iterate 1
                  apply wpFre_fix
                  case' hw => exact rfl
                  case' hf => exact rfl
                  case' hb => kernel_rfl
                  case' h =>
                    intro z h0 K hK
                    have f1 := fun q : BW z.v => HU.out q.v (z.h.trans (q.h.mono z.h.size))
                    have g1 : ∀ q : BW z.v, q.v.cell? ⟨DB, 2, none⟩ = some (.int .i64 (d : Int)) := fun q => (f1 q).1
                    have g2 : ∀ q : BW z.v, q.v.cell? ⟨DB, 1, none⟩ = some (.int .i64 (m : Int)) := fun q => (f1 q).2.1
                    have g3 : ∀ q : BW z.v, q.v.cell? ⟨DB, 0, none⟩ = some (.int .i64 (y : Int)) := fun q => (f1 q).2.2.1
                    have g4 : ∀ q : BW z.v, q.v.cell? ⟨0, m * 2, none⟩ = some (.string MN) := fun q => (f1 q).2.2.2
                    clear f1
                    go_big_quiet_op
                    apply Exists.intro
                    refine ⟨fun q => ?_, ?_⟩
                    · go_at_call 38; with_reducible exact BW.calls (HF1.out _ (HTab.out _ (z.h.trans (q.h.mono z.h.size))))
                    · exact hK
                  case' he => exact rfl
                iterate 11
                  apply wpFre_fix
                  case' hw => exact rfl
                  case' hf => exact rfl
                  case' hb => kernel_rfl
                  case' h =>
                    intro z h0 K hK
                    have f1 := fun q : BW z.v => HU.out q.v (z.h.trans (q.h.mono z.h.size))
                    have g1 : ∀ q : BW z.v, q.v.cell? ⟨DB, 2, none⟩ = some (.int .i64 (d : Int)) := fun q => (f1 q).1
                    have g2 : ∀ q : BW z.v, q.v.cell? ⟨DB, 1, none⟩ = some (.int .i64 (m : Int)) := fun q => (f1 q).2.1
                    have g3 : ∀ q : BW z.v, q.v.cell? ⟨DB, 0, none⟩ = some (.int .i64 (y : Int)) := fun q => (f1 q).2.2.1
                    have g4 : ∀ q : BW z.v, q.v.cell? ⟨0, m * 2, none⟩ = some (.string MN) := fun q => (f1 q).2.2.2
                    clear f1
                    go_big_quiet_op
                    exact hK
                  case' he => exact rfl
                iterate 1
                  apply wpFre_fix
                  case' hw => exact rfl
                  case' hf => exact rfl
                  case' hb => kernel_rfl
                  case' h =>
                    intro z h0 K hK
                    have f1 := fun q : BW z.v => HU.out q.v (z.h.trans (q.h.mono z.h.size))
                    have g1 : ∀ q : BW z.v, q.v.cell? ⟨DB, 2, none⟩ = some (.int .i64 (d : Int)) := fun q => (f1 q).1
                    have g2 : ∀ q : BW z.v, q.v.cell? ⟨DB, 1, none⟩ = some (.int .i64 (m : Int)) := fun q => (f1 q).2.1
                    have g3 : ∀ q : BW z.v, q.v.cell? ⟨DB, 0, none⟩ = some (.int .i64 (y : Int)) := fun q => (f1 q).2.2.1
                    have g4 : ∀ q : BW z.v, q.v.cell? ⟨0, m * 2, none⟩ = some (.string MN) := fun q => (f1 q).2.2.2
                    clear f1
                    go_big_quiet_op
                    apply Exists.intro
                    refine ⟨fun q => ?_, ?_⟩
                    · go_at_call 38; with_reducible exact BW.calls (HF2.out _ (HTab.out _ (z.h.trans (q.h.mono z.h.size))))
                    · exact hK
                  case' he => exact rfl
                iterate 9
                  apply wpFre_fix
                  case' hw => exact rfl
                  case' hf => exact rfl
                  case' hb => kernel_rfl
                  case' h =>
                    intro z h0 K hK
                    have f1 := fun q : BW z.v => HU.out q.v (z.h.trans (q.h.mono z.h.size))
                    have g1 : ∀ q : BW z.v, q.v.cell? ⟨DB, 2, none⟩ = some (.int .i64 (d : Int)) := fun q => (f1 q).1
                    have g2 : ∀ q : BW z.v, q.v.cell? ⟨DB, 1, none⟩ = some (.int .i64 (m : Int)) := fun q => (f1 q).2.1
                    have g3 : ∀ q : BW z.v, q.v.cell? ⟨DB, 0, none⟩ = some (.int .i64 (y : Int)) := fun q => (f1 q).2.2.1
                    have g4 : ∀ q : BW z.v, q.v.cell? ⟨0, m * 2, none⟩ = some (.string MN) := fun q => (f1 q).2.2.2
                    clear f1
                    go_big_quiet_op
                    exact hK
                  case' he => exact rfl
                apply wpFre_free_at
                case' hw => exact rfl
                case' hd => exact rfl
                case' hm => kernel_rfl
                case' h =>
                  intro z _
                  have hrun : ∀ r, r = Result.ok (Next.value (.slice (some ⟨z.v.heap.size, 0, none⟩) 3 3)) (z.v.alloc (.cells #[.int .i64 (a : Int), .int .i64 (b : Int), .int .i64 (c : Int)] 3)) → freUpon Tryd.prog (fun v W => if 75 = 75 then Ints W v [a, b, c] else Ints W v [zh, zm]) z.v r := by
                    rintro r rfl
                    exact ⟨alloc_below _ _, ints_new3 _ _ _ _ _⟩
                  refine hrun _ ?_
                  simp [go_sem]
                case' hk =>
                  intro u75
                  dsimp only [List.set]
                iterate 1
                  apply wpFre_fix
                  case' hw => exact rfl
                  case' hf => exact rfl
                  case' hb => kernel_rfl
                  case' h =>
                    intro z h0 K hK
                    have f1 := fun q : BW z.v => HU.out q.v (z.h.trans (q.h.mono z.h.size))
                    have g1 : ∀ q : BW z.v, q.v.cell? ⟨DB, 2, none⟩ = some (.int .i64 (d : Int)) := fun q => (f1 q).1
                    have g2 : ∀ q : BW z.v, q.v.cell? ⟨DB, 1, none⟩ = some (.int .i64 (m : Int)) := fun q => (f1 q).2.1
                    have g3 : ∀ q : BW z.v, q.v.cell? ⟨DB, 0, none⟩ = some (.int .i64 (y : Int)) := fun q => (f1 q).2.2.1
                    have g4 : ∀ q : BW z.v, q.v.cell? ⟨0, m * 2, none⟩ = some (.string MN) := fun q => (f1 q).2.2.2
                    clear f1
                    go_big_quiet_op
                    apply Exists.intro
                    refine ⟨fun q => ?_, ?_⟩
                    · go_at_call 39; have hi : Ints z.v u75 [a, b, c] := h0 75 (of_decide_eq_true (by kernel_rfl)) (of_decide_eq_true (by kernel_rfl)); with_reducible exact BW.calls (HP3.out _ _ (hi.below q.h) (HTab.out _ (z.h.trans (q.h.mono z.h.size))))
                    · exact hK
                  case' he => exact rfl
                iterate 8
                  apply wpFre_fix
                  case' hw => exact rfl
                  case' hf => exact rfl
                  case' hb => kernel_rfl
                  case' h =>
                    intro z h0 K hK
                    have f1 := fun q : BW z.v => HU.out q.v (z.h.trans (q.h.mono z.h.size))
                    have g1 : ∀ q : BW z.v, q.v.cell? ⟨DB, 2, none⟩ = some (.int .i64 (d : Int)) := fun q => (f1 q).1
                    have g2 : ∀ q : BW z.v, q.v.cell? ⟨DB, 1, none⟩ = some (.int .i64 (m : Int)) := fun q => (f1 q).2.1
                    have g3 : ∀ q : BW z.v, q.v.cell? ⟨DB, 0, none⟩ = some (.int .i64 (y : Int)) := fun q => (f1 q).2.2.1
                    have g4 : ∀ q : BW z.v, q.v.cell? ⟨0, m * 2, none⟩ = some (.string MN) := fun q => (f1 q).2.2.2
                    clear f1
                    go_big_quiet_op
                    exact hK
                  case' he => exact rfl
                apply wpFre_free_at
                case' hw => exact rfl
                case' hd => exact rfl
                case' hm => kernel_rfl
                case' h =>
                  intro z _
                  have hrun : ∀ r, r = Result.ok (Next.value (.slice (some ⟨z.v.heap.size, 0, none⟩) 2 2)) (z.v.alloc (.cells #[.int .i64 (zh : Int), .int .i64 (zm : Int)] 3)) → freUpon Tryd.prog (fun v W => if 85 = 75 then Ints W v [a, b, c] else Ints W v [zh, zm]) z.v r := by
                    rintro r rfl
                    exact ⟨alloc_below _ _, ints_new2 _ _ _ _⟩
                  refine hrun _ ?_
                  simp [go_sem]
                case' hk =>
                  intro u85
                  dsimp only [List.set]
                iterate 1
                  apply wpFre_fix
                  case' hw => exact rfl
                  case' hf => exact rfl
                  case' hb => kernel_rfl
                  case' h =>
                    intro z h0 K hK
                    have f1 := fun q : BW z.v => HU.out q.v (z.h.trans (q.h.mono z.h.size))
                    have g1 : ∀ q : BW z.v, q.v.cell? ⟨DB, 2, none⟩ = some (.int .i64 (d : Int)) := fun q => (f1 q).1
                    have g2 : ∀ q : BW z.v, q.v.cell? ⟨DB, 1, none⟩ = some (.int .i64 (m : Int)) := fun q => (f1 q).2.1
                    have g3 : ∀ q : BW z.v, q.v.cell? ⟨DB, 0, none⟩ = some (.int .i64 (y : Int)) := fun q => (f1 q).2.2.1
                    have g4 : ∀ q : BW z.v, q.v.cell? ⟨0, m * 2, none⟩ = some (.string MN) := fun q => (f1 q).2.2.2
                    clear f1
                    go_big_quiet_op
                    apply Exists.intro
                    refine ⟨fun q => ?_, ?_⟩
                    · go_at_call 39; have hi : Ints z.v u85 [zh, zm] := h0 85 (of_decide_eq_true (by kernel_rfl)) (of_decide_eq_true (by kernel_rfl)); with_reducible exact BW.calls (HP2.out _ _ (hi.below q.h) (HTab.out _ (z.h.trans (q.h.mono z.h.size))))
                    · exact hK
                  case' he => exact rfl
                iterate 3
                  apply wpFre_fix
                  case' hw => exact rfl
                  case' hf => exact rfl
                  case' hb => kernel_rfl
                  case' h =>
                    intro z h0 K hK
                    have f1 := fun q : BW z.v => HU.out q.v (z.h.trans (q.h.mono z.h.size))
                    have g1 : ∀ q : BW z.v, q.v.cell? ⟨DB, 2, none⟩ = some (.int .i64 (d : Int)) := fun q => (f1 q).1
                    have g2 : ∀ q : BW z.v, q.v.cell? ⟨DB, 1, none⟩ = some (.int .i64 (m : Int)) := fun q => (f1 q).2.1
                    have g3 : ∀ q : BW z.v, q.v.cell? ⟨DB, 0, none⟩ = some (.int .i64 (y : Int)) := fun q => (f1 q).2.2.1
                    have g4 : ∀ q : BW z.v, q.v.cell? ⟨0, m * 2, none⟩ = some (.string MN) := fun q => (f1 q).2.2.2
                    clear f1
                    go_big_quiet_op
                    exact hK
                  case' he => exact rfl
                apply wpFre_nil
                rintro _ ⟨⟨w8, hbz⟩, rfl⟩
                go_wp2_with fail
                go_ret
                refine ⟨⟨_, ret_str HEq.out, .inr (.inr ⟨HIn.out, y, m, d, by rw [← HN.out]; exact HD.out, by rw [HIT.out, HX.out, HZ.out, HSg.out]⟩)⟩, HBx.out.trans (hbz.mono HBx.out.size)⟩
end Go.Proofs.YtpmjlhpbknppiaaDoor
