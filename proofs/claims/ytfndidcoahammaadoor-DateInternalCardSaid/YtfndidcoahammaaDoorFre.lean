/- A law of my own, of no function: a region that draws its order, some of whose operations make memory that others of it read (a slice that is built, and handed to a call): one walk, in the order of the text; the values of all other operations are given ahead, as a list that the walk fills. -/
import Derived.Test.YtfndidcoahammaaDoorQB
namespace Go.Proofs.YtfndidcoahammaaDoor
open Go Go.RowKit
section
variable {P : Program} {ops : Array Oper} {md : Region.Mode} {base : World} {free : List Tmp} {R : Tmp → Value → World → Prop}

/-- What an operation is told of the free temporaries that it looks at. -/
def FreTold (ops : Array Oper) (free : List Tmp) (R : Tmp → Value → World → Prop) (o : Oper) (a : Act) (w : World) : Prop :=
  ∀ t ∈ o.looksAt ops, t ∈ free → R t (a.eval (.tmp t)) w
def freUpon (P : Program) (G : Value → World → Prop) (w : World) : Result Next → Prop
  | .ok (.value u) w' => Below w.heap.size w w' ∧ G u w'
  | .ok .skip w' => Below w.heap.size w w' ∧ G undef w'
  | .ok (.enter f args) w' => Below w.heap.size w w' ∧ Calls P f args w' (fun e w'' => ∃ u, e = .returned u ∧ Below w'.heap.size w' w'' ∧ G u w'')
  | _ => False
def freIs (free : List Tmp) (o : Oper) : Bool := match o.dst with | some d => free.contains d | none => false
def freOuts (free : List Tmp) (R : Tmp → Value → World → Prop) (o : Oper) (x : Value) (u : Value) (w : World) : Prop :=
  if freIs free o = true then ∀ t, o.dst = some t → R t u w else u = x ∨ o.dst = none
def FreRuns (P : Program) (ops : Array Oper) (base : World) (free : List Tmp) (R : Tmp → Value → World → Prop) (o : Oper) (a : Act) (x : Value) : Prop :=
  ∀ z : BW base, FreTold ops free R o a z.v → freUpon P (freOuts free R o x) z.v ((execOp a.eval o).run P z.v)
/-- What must hold of an operation in a state. -/
def FreFit (P : Program) (ops : Array Oper) (base : World) (free : List Tmp) (R : Tmp → Value → World → Prop) (o : Oper) (a : Act) (x : Value) : Prop :=
  (Region.wanted o (yielded ops a.tmps) = true → FreRuns P ops base free R o a x) ∧ (Region.wanted o (yielded ops a.tmps) = false → freIs free o = false)
/-- Which values may come of it. -/
def FreMay (ops : Array Oper) (free : List Tmp) (o : Oper) (a : Act) (x : Value) (v : Value) : Prop :=
  (Region.wanted o (yielded ops a.tmps) = true ∧ (freIs free o = true ∨ v = x)) ∨ (Region.wanted o (yielded ops a.tmps) = false ∧ v = undef)
theorem fre_may_some (ops : Array Oper) (free : List Tmp) (o : Oper) (a : Act) (x : Value) : ∃ v, FreMay ops free o a x v := by
  by_cases h : Region.wanted o (yielded ops a.tmps) = true
  · exact ⟨x, .inl ⟨h, .inr rfl⟩⟩
  · exact ⟨undef, .inr ⟨by simpa using h, rfl⟩⟩
theorem fre_told_put {o : Oper} {a : Act} {d : Option Tmp} {v : Value} {w : World} (h : ∀ t, d = some t → t ∉ o.looksAt ops) : FreTold ops free R o (a.put d v) w ↔ FreTold ops free R o a w := by
  unfold FreTold
  refine ⟨fun hh t ht hf => ?_, fun hh t ht hf => ?_⟩
  · have := hh t ht hf
    rwa [Act.eval_put (fun d' hd he => h d' hd (by cases he; exact ht))] at this
  · have := hh t ht hf
    rwa [Act.eval_put (fun d' hd he => h d' hd (by cases he; exact ht))]
theorem fre_runs_put {o : Oper} (hs : ∀ cs b, o.op ≠ .select cs b) {a : Act} {d : Option Tmp} {v x : Value} (h : ∀ t, d = some t → t ∉ o.looksAt ops) : FreRuns P ops base free R o (a.put d v) x ↔ FreRuns P ops base free R o a x := by
  unfold FreRuns
  rw [execOp_put o hs a d v h]
  exact ⟨fun hh z ht => hh z ((fre_told_put h).2 ht), fun hh z ht => hh z ((fre_told_put h).1 ht)⟩
theorem fre_fit_put {o : Oper} (hs : ∀ cs b, o.op ≠ .select cs b) {a : Act} {d : Option Tmp} {v x : Value} (h : ∀ t, d = some t → t ∉ o.looksAt ops) : FreFit P ops base free R o (a.put d v) x ↔ FreFit P ops base free R o a x := by
  unfold FreFit
  rw [wanted_put o a d v h, fre_runs_put hs h]
theorem fre_may_put {o : Oper} {a : Act} {d : Option Tmp} {v x u : Value} (h : ∀ t, d = some t → t ∉ o.looksAt ops) : FreMay ops free o (a.put d v) x u ↔ FreMay ops free o a x u := by
  unfold FreMay
  rw [wanted_put o a d v h]
/-- Operation number i comes up in state a. -/
def freOp (P : Program) (ops : Array Oper) (base : World) (free : List Tmp) (R : Tmp → Value → World → Prop) (vals : Nat → Value) (i : Nat) (K : Act → Prop) (a : Act) : Prop :=
  match ops[i]? with
  | none => K a
  | some o => FreFit P ops base free R o a (vals i) ∧ ∀ v, FreMay ops free o a (vals i) v → K (a.put o.dst v)
theorem freOp_mono {vals : Nat → Value} {i : Nat} {a : Act} {K K' : Act → Prop} (h : ∀ a, K a → K' a) (hh : freOp P ops base free R vals i K a) : freOp P ops base free R vals i K' a := by
  unfold freOp at *
  split
  · rename_i ho
    simp only [ho] at hh
    exact h _ hh
  · rename_i o ho
    simp only [ho] at hh
    exact ⟨hh.1, fun v hv => h _ (hh.2 v hv)⟩
def wpAnyF (P : Program) (md : Region.Mode) (ops : Array Oper) (base : World) (free : List Tmp) (R : Tmp → Value → World → Prop) (vals : Nat → Value) (Q : Act → Prop) : Nat → Array Bool → Act → Prop
  | 0, listed, a => Region.ready md ops listed = [] ∧ Q a
  | fuel + 1, listed, a =>
    (Region.ready md ops listed = [] → Q a) ∧
    ∀ i ∈ Region.ready md ops listed, freOp P ops base free R vals i (wpAnyF P md ops base free R vals Q fuel (listed.setIfInBounds i true)) a
theorem freOp_some {vals : Nat → Value} {i : Nat} {o : Oper} (hi : ops[i]? = some o) {K : Act → Prop} {a : Act} : freOp P ops base free R vals i K a ↔ FreFit P ops base free R o a (vals i) ∧ ∀ v, FreMay ops free o a (vals i) v → K (a.put o.dst v) := by
  unfold freOp
  simp only [hi]
theorem freOp_put {vals : Nat → Value} {i j : Nat} {oi oj : Oper} (hj : ops[j]? = some oj) (hap : oi.apart ops oj = true)
    (hsi : ∀ cs b, oi.op ≠ .select cs b) (hsj : ∀ cs b, oj.op ≠ .select cs b) {K : Act → Prop} {a : Act}
    (hy : FreFit P ops base free R oi a (vals i)) (h : ∀ v, FreMay ops free oi a (vals i) v → freOp P ops base free R vals j K (a.put oi.dst v)) :
    freOp P ops base free R vals j (fun a' => FreFit P ops base free R oi a' (vals i) ∧ ∀ v, FreMay ops free oi a' (vals i) v → K (a'.put oi.dst v)) a := by
  obtain ⟨h1, h2, h3⟩ := Oper.apart_spec hap
  rw [freOp_some hj]
  obtain ⟨v0, hv0⟩ := fre_may_some ops free oi a (vals i)
  have g0 := (freOp_some hj).1 (h v0 hv0)
  refine ⟨(fre_fit_put hsj h1).1 g0.1, fun u hu => ⟨(fre_fit_put hsi h3).2 hy, fun v hv => ?_⟩⟩
  have hv' := (fre_may_put h3).1 hv
  have g := (freOp_some hj).1 (h v hv')
  rw [← Act.put_comm a v u h2]
  exact g.2 u ((fre_may_put h1).2 hu)
theorem wpAnyF_first {vals : Nat → Value} {Q : Act → Prop} {i : Nat} {oi : Oper} (hi : ops[i]? = some oi) (hsel : ∀ (j : Nat) (o : Oper) cs b, ops[j]? = some o → o.op ≠ .select cs b) :
    ∀ (fuel : Nat) (listed : Array Bool) (a : Act),
      (∀ j oj, ops[j]? = some oj → j ≠ i → listed.getD j true = false → (∀ e ∈ oj.after, Region.binds md e = true → e.on ≠ i) → oi.apart ops oj = true) →
      i ∈ Region.ready md ops listed → FreFit P ops base free R oi a (vals i) →
      (∀ v, FreMay ops free oi a (vals i) v → wpAnyF P md ops base free R vals Q fuel (listed.setIfInBounds i true) (a.put oi.dst v)) → wpAnyF P md ops base free R vals Q (fuel + 1) listed a := by
  intro fuel
  induction fuel with
  | zero =>
    intro listed a _ hr hy H
    refine ⟨fun h => (by rw [h] at hr; cases hr), fun j hj => ?_⟩
    by_cases hji : j = i
    · subst hji; exact (freOp_some hi).2 ⟨hy, H⟩
    · have := ready_mono hj hji
      obtain ⟨v0, hv0⟩ := fre_may_some ops free oi a (vals i)
      rw [(H v0 hv0).1] at this
      cases this
  | succ fuel ih =>
    intro listed a hfree hr hy H
    refine ⟨fun h => (by rw [h] at hr; cases hr), fun j hj => ?_⟩
    by_cases hji : j = i
    · subst hji; exact (freOp_some hi).2 ⟨hy, H⟩
    · obtain ⟨hjun, oj, hoj, hall⟩ := mem_ready.1 hj
      have hnot : ∀ e ∈ oj.after, Region.binds md e = true → e.on ≠ i := fun e he hb heq => by
        have h1 := hall e he hb
        have h0 := (mem_ready.1 hr).1
        rw [heq] at h1
        rcases Nat.lt_or_ge i listed.size with h' | h'
        · simp [h'] at h0 h1; rw [h0] at h1; cases h1
        · simp [Array.getElem?_eq_none h'] at h1
      have h2 := freOp_put hoj (hfree j oj hoj hji hjun hnot) (fun cs b => hsel i oi cs b hi) (fun cs b => hsel j oj cs b hoj) hy (fun v hv => (H v hv).2 j (ready_mono hj hji))
      have hfree' : ∀ k ok, ops[k]? = some ok → k ≠ i → (listed.setIfInBounds j true).getD k true = false →
          (∀ e ∈ ok.after, Region.binds md e = true → e.on ≠ i) → oi.apart ops ok = true := fun k ok hk hki hun hno => by
        refine hfree k ok hk hki ?_ hno
        by_cases hjk : j = k
        · subst hjk; exact hjun
        · rw [getD_set_ne true hjk] at hun; exact hun
      refine freOp_mono (fun a' h3 => ih (listed.setIfInBounds j true) a' hfree' (ready_mono hr (Ne.symm hji)) h3.1 ?_) h2
      rw [Array.setIfInBounds_comm _ _ hji]
      exact h3.2
/-- The walk in the order of the text. -/
def wpFre (P : Program) (ops : Array Oper) (base : World) (free : List Tmp) (R : Tmp → Value → World → Prop) (Q : Act → Prop) : List Oper → List Value → Act → Prop
  | [], _, a => Q a
  | o :: l, xs, a => FreFit P ops base free R o a (xs.headD undef) ∧ ∀ v, FreMay ops free o a (xs.headD undef) v → wpFre P ops base free R Q l xs.tail (a.put o.dst v)
theorem wpAnyF_lex {vals : Nat → Value} {Q : Act → Prop} (hs : Region.noSelect ops = true) : ∀ (l : List Oper) (xs : List Value) (k : Nat) (listed : Array Bool) (a : Act), (∀ j, l[j]? = ops[k + j]?) → (∀ j, xs.getD j undef = vals (k + j)) →
    Region.lexFrom md ops l.length k listed = true → wpFre P ops base free R Q l xs a → wpAnyF P md ops base free R vals Q l.length listed a
  | [], _, _, _, _, _, _, hB, h => ⟨by simpa [Region.lexFrom] using hB, h⟩
  | o :: l, xs, k, listed, a, hl, hx, hB, h => by
    have h0 : ops[k]? = some o := by simpa using (hl 0).symm
    have x0 : xs.headD undef = vals k := by have := hx 0; cases xs <;> simpa using this
    simp only [List.length_cons, Region.lexFrom, Bool.and_eq_true] at hB
    obtain ⟨⟨hr, hf⟩, hB'⟩ := hB
    obtain ⟨hy, hK⟩ := h
    rw [x0] at hy hK
    exact wpAnyF_first h0 (Region.noSelect_spec hs) l.length listed a (Region.free_spec h0 hf) (by simpa using hr) hy
      (fun v hv => wpAnyF_lex hs l xs.tail (k + 1) _ _ (fun j => by have := hl (j + 1); simpa [Nat.add_assoc, Nat.add_comm 1 j] using this) (fun j => by have := hx (j + 1); cases xs <;> simpa [Nat.add_assoc, Nat.add_comm 1 j] using this) hB' (hK v hv))
/-- Whoever looks at a free temporary freWaits for who sets it. -/
def freWaits (md : Region.Mode) (ops : Array Oper) (free : List Tmp) : Bool :=
  ops.toList.all fun o => (o.looksAt ops).all fun t => !free.contains t || o.after.toList.any fun e => Region.binds md e && ((ops[e.on]?).bind (·.dst) == some t)
/-- What is known of a state on the way. -/
structure FreInv (ops : Array Oper) (free : List Tmp) (R : Tmp → Value → World → Prop) (listed : Array Bool) (a : Act) (w : World) : Prop where
  size : ∀ t ∈ free, t < a.tmps.size
  known : ∀ t ∈ free, (∃ i o, ops[i]? = some o ∧ listed.getD i false = true ∧ o.dst = some t) → R t (a.eval (.tmp t)) w
theorem fre_size_put (a : Act) (d : Option Tmp) (v : Value) : (a.put d v).tmps.size = a.tmps.size := by
  cases d <;> simp [Act.put]
theorem fre_eval_self {a : Act} {t : Tmp} {v : Value} (h : t < a.tmps.size) : (a.put (some t) v).eval (.tmp t) = v := by
  simp [Act.eval, Act.put, h]
theorem fre_told_of {listed : Array Bool} {a : Act} {w : World} (hW : freWaits md ops free = true) {i : Nat} {o : Oper} (hi : ops[i]? = some o) (hr : i ∈ Region.ready md ops listed) (hI : FreInv ops free R listed a w) : FreTold ops free R o a w := by
  intro t ht hf
  refine hI.known t hf ?_
  obtain ⟨_, o', ho', hall⟩ := mem_ready.1 hr
  rw [hi] at ho'
  cases ho'
  have h1 := List.all_eq_true.1 hW o (by simpa using Array.mem_of_getElem? hi)
  have h2 := List.all_eq_true.1 h1 t ht
  have hc : free.contains t = true := by simpa using hf
  rw [hc] at h2
  simp only [Bool.not_true, Bool.false_or] at h2
  obtain ⟨e, he, hb⟩ := List.any_eq_true.1 h2
  simp only [Bool.and_eq_true, beq_iff_eq] at hb
  cases ho2 : ops[e.on]? with
  | none => rw [ho2] at hb; exact absurd hb.2 (by simp)
  | some oe =>
    rw [ho2] at hb
    exact ⟨e.on, oe, ho2, hall e (by simpa using he) hb.1, by simpa using hb.2⟩
theorem fre_inv_put {listed : Array Bool} {a : Act} {w w' : World} {i : Nat} {o : Oper} {v : Value} (hR : ∀ t v w w', t ∈ free → R t v w → Below w.heap.size w w' → R t v w') (hi : ops[i]? = some o)
    (hI : FreInv ops free R listed a w) (hb : Below w.heap.size w w') (ho : ∀ t ∈ free, o.dst = some t → R t v w') : FreInv ops free R (listed.setIfInBounds i true) (a.put o.dst v) w' := by
  refine ⟨fun t ht => by rw [fre_size_put]; exact hI.size t ht, fun t ht ⟨j, oj, hj, hl, hd⟩ => ?_⟩
  by_cases hot : o.dst = some t
  · rw [hot, fre_eval_self (hI.size t ht)]
    exact ho t ht hot
  · rw [Act.eval_put (fun d hdd he => hot (by rw [hdd]; cases he; rfl))]
    have hji : i ≠ j := fun e => by subst e; rw [hi] at hj; cases hj; exact hot hd
    rw [getD_set_ne false hji] at hl
    exact hR t _ _ _ ht (hI.known t ht ⟨j, oj, hj, hl, hd⟩) hb
theorem wpAny_of_fre {vals : Nat → Value} {Q : Act → Prop} {Q' : Exit → Act → World → Prop} (hW : freWaits md ops free = true) (hR : ∀ t v w w', t ∈ free → R t v w → Below w.heap.size w w' → R t v w') (hQ : ∀ a w, (∃ z : BW base, w = z.v) → Q a → Q' .normal a w) :
    ∀ (fuel : Nat) (listed : Array Bool) (a : Act) (z : BW base), FreInv ops free R listed a z.v → wpAnyF P md ops base free R vals Q fuel listed a → wpAny P md ops Q' fuel listed a z.v
  | 0, _, _, z, _, h => ⟨h.1, hQ _ _ ⟨z, rfl⟩ h.2⟩
  | fuel + 1, listed, a, z, hI, h => by
    refine ⟨fun h0 => hQ _ _ ⟨z, rfl⟩ (h.1 h0), fun i hi => ?_⟩
    have h2 := h.2 i hi
    obtain ⟨_, o, ho, _⟩ := mem_ready.1 hi
    obtain ⟨⟨f1, f2⟩, hK⟩ := (freOp_some ho).1 h2
    unfold wpOp
    simp only [ho]
    by_cases hw : Region.wanted o (yielded ops a.tmps) = true
    · simp only [hw, if_true]
      refine .inl ?_
      have hrun := f1 hw z (fre_told_of hW ho hi hI)
      have go : ∀ (u : Value) (z' : BW base), Below z.v.heap.size z.v z'.v → freOuts free R o (vals i) u z'.v → wpAny P md ops Q' fuel (listed.setIfInBounds i true) (a.put o.dst u) z'.v := fun u z' hb hu => by
        by_cases hf : freIs free o = true
        · simp only [freOuts, hf, if_true] at hu
          exact wpAny_of_fre hW hR hQ fuel _ _ z' (fre_inv_put hR ho hI hb (fun t _ hd => hu t hd)) (hK u (.inl ⟨hw, .inl hf⟩))
        · have hf' : freIs free o = false := by simpa using hf
          have hn : ∀ t ∈ free, o.dst = some t → False := fun t ht hd => by simp [freIs, hd, ht] at hf'
          simp only [freOuts, hf', Bool.false_eq_true, if_false] at hu
          have he : a.put o.dst u = a.put o.dst (vals i) := by
            rcases hu with rfl | hu
            · rfl
            · rw [hu]; rfl
          rw [he]
          exact wpAny_of_fre hW hR hQ fuel _ _ z' (fre_inv_put hR ho hI hb (fun t ht hd => (hn t ht hd).elim)) (hK _ (.inl ⟨hw, .inr rfl⟩))
      unfold Oper.wp
      generalize (execOp a.eval o).run P z.v = r at *
      cases r with
      | ok n w' =>
        cases n <;> simp only [freUpon] at hrun <;> simp only [Oper.upon]
        case value u => exact go u ⟨w', z.h.trans (hrun.1.mono z.h.size)⟩ hrun.1 hrun.2
        case skip => exact go undef ⟨w', z.h.trans (hrun.1.mono z.h.size)⟩ hrun.1 hrun.2
        case enter f args =>
          refine hrun.2.mono ?_
          rintro e w'' ⟨u, rfl, hb, hu⟩
          have hb' : Below z.v.heap.size z.v w'' := hrun.1.trans (hb.mono hrun.1.size)
          exact go u ⟨w'', z.h.trans (hb'.mono z.h.size)⟩ hb' hu
      | halt x w' => simp only [freUpon] at hrun
    · have hw' : Region.wanted o (yielded ops a.tmps) = false := by simpa using hw
      simp only [hw', Bool.false_eq_true, if_false]
      have hf' := f2 hw'
      have hn : ∀ t ∈ free, o.dst = some t → False := fun t ht hd => by simp [freIs, hd, ht] at hf'
      exact wpAny_of_fre hW hR hQ fuel _ _ z (fre_inv_put hR ho hI (Below.refl _ _) (fun t ht hd => (hn t ht hd).elim)) (hK _ (.inr ⟨hw', rfl⟩))
theorem wp_region_fre {id : Nat} {Q : Exit → Act → World → Prop} {a : Act} {w : World} {l : List Oper} (free : List Tmp) (R : Tmp → Value → World → Prop) (xs : List Value) (hm : P.follows .mixedOrders = true) (hB : Region.lexB .any l.toArray = true)
    (hW : freWaits .any l.toArray free = true) (hS : free.all (fun t => decide (t < a.tmps.size)) = true) (hR : ∀ t v w w', t ∈ free → R t v w → Below w.heap.size w w' → R t v w')
    (h : wpFre P l.toArray w free R (fun a' => ∀ w', (∃ z : BW w, w' = z.v) → Q .normal a' w') l xs a) : (Code.region id l.toArray true).wp P Q a w := by
  simp only [Region.lexB, Bool.and_eq_true] at hB
  have h1 := wpAnyF_lex (P := P) (base := w) (free := free) (R := R) (md := .any) (vals := fun j => xs.getD j undef) hB.1 l xs 0 (Array.replicate l.toArray.size false) a (by simp) (by simp) (by simpa using hB.2) h
  refine wp_region_any hm ?_
  have h2 := wpAny_of_fre (P := P) (base := w) (free := free) (R := R) (md := .any) (Q := fun a' => ∀ w', (∃ z : BW w, w' = z.v) → Q .normal a' w') (Q' := Q) hW hR (fun _ w' hw' h => h w' hw') l.length (Array.replicate l.toArray.size false) a ⟨w.drew, (Below.refl _ _).drew⟩
    ⟨fun t ht => by simpa using List.all_eq_true.1 hS t ht, fun t ht ⟨i, o, _, hl, _⟩ => absurd hl (by rw [Array.getD_eq_getD_getElem?, Array.getElem?_replicate]; split <;> simp)⟩ h1
  simpa using h2
/-- Whether what an operation sets is a slot of the frame. -/
def freIn (o : Oper) (a : Act) : Bool := match o.dst with | some d => decide (d < a.tmps.size) | none => true
theorem fre_put_inj {o : Oper} {a : Act} {v x : Value} (hb : freIn o a = true) (h : a.put o.dst v = a.put o.dst x) : v = x ∨ o.dst = none := by
  cases hd : o.dst with
  | none => exact .inr rfl
  | some d =>
    left
    rw [hd] at h
    have := congrArg (fun b : Act => b.eval (.tmp d)) h
    have hb' : d < a.tmps.size := by simpa [freIn, hd] using hb
    simpa [fre_eval_self hb'] using this
variable {Q : Act → Prop} {o : Oper} {l : List Oper} {x : Value} {xs : List Value} {a a' : Act}
/-- An operation whose value is given: shown as a quiet one from any world behind. -/
theorem wpFre_fix (hw : Region.wanted o (yielded ops a.tmps) = true) (hf : freIs free o = false) (hb : freIn o a = true)
    (h : ∀ z : BW base, FreTold ops free R o a z.v → ∀ K : Act → Prop, K a' → o.quiet P a (fun w' => ∃ y : BW z.v, w' = y.v) K) (he : a' = a.put o.dst x) (hk : wpFre P ops base free R Q l xs a') : wpFre P ops base free R Q (o :: l) (x :: xs) a := by
  refine ⟨⟨fun _ z ht => ?_, fun hn => (by rw [hw] at hn; cases hn)⟩, fun v hv => ?_⟩
  · obtain ⟨v, h1, h2⟩ := h z ht (fun b => b = a') rfl
    have hvx : v = x ∨ o.dst = none := fre_put_inj hb (h2.trans he)
    have ho : ∀ w, freOuts free R o x v w := fun w => by simp only [freOuts, hf, Bool.false_eq_true, if_false]; exact hvx
    have h3 := h1 z.v ⟨⟨z.v, Below.refl _ _⟩, rfl⟩
    simp only [List.headD_cons]
    unfold Oper.quietAt at h3
    generalize (execOp a.eval o).run P z.v = r at *
    cases r with
    | ok n w' =>
      cases n <;> simp only [Oper.quietUpon] at h3 <;> simp only [freUpon]
      case value u => rw [h3.1, h3.2]; exact ⟨Below.refl _ _, ho _⟩
      case skip => rw [h3.1, ← h3.2]; exact ⟨Below.refl _ _, ho _⟩
      case enter f args =>
        rw [h3.1]
        refine ⟨Below.refl _ _, h3.2.mono ?_⟩
        rintro e w'' ⟨rfl, y, rfl⟩
        exact ⟨v, rfl, y.h, ho _⟩
    | halt x w' => simp only [Oper.quietUpon] at h3
  · rcases hv with ⟨_, hv | hv⟩ | ⟨hn, _⟩
    · rw [hf] at hv; cases hv
    · simp only [List.headD_cons] at hv; rw [hv, ← he]; exact hk
    · rw [hw] at hn; cases hn
/-- An operation whose value depends on where memory is. -/
theorem wpFre_free {d : Tmp} (hw : Region.wanted o (yielded ops a.tmps) = true) (hd : o.dst = some d) (hm : free.contains d = true)
    (h : ∀ z : BW base, FreTold ops free R o a z.v → freUpon P (R d) z.v ((execOp a.eval o).run P z.v)) (hk : ∀ u, wpFre P ops base free R Q l xs (a.put (some d) u)) : wpFre P ops base free R Q (o :: l) (x :: xs) a := by
  have hf : freIs free o = true := by simp only [freIs, hd]; exact hm
  refine ⟨⟨fun _ z ht => ?_, fun hn => (by rw [hw] at hn; cases hn)⟩, fun v _ => by rw [hd]; exact hk v⟩
  have ho : ∀ u w, R d u w → freOuts free R o x u w := fun u w hr => by
    simp only [freOuts, hf, if_true]
    intro t ht
    rw [hd] at ht
    cases ht
    exact hr
  have h3 := h z ht
  simp only [List.headD_cons]
  generalize (execOp a.eval o).run P z.v = r at *
  cases r with
  | ok n w' =>
    cases n <;> simp only [freUpon] at h3 ⊢
    case value u => exact ⟨h3.1, ho _ _ h3.2⟩
    case skip => exact ⟨h3.1, ho _ _ h3.2⟩
    case enter f args =>
      refine ⟨h3.1, h3.2.mono ?_⟩
      rintro e w'' ⟨u, rfl, hb, hr⟩
      exact ⟨u, rfl, hb, ho _ _ hr⟩
  | halt x w' => simp only [freUpon] at h3
theorem wpFre_free_at {ts : List Value} {ds : List Deferred} {d : Tmp} (hw : Region.wanted o (yielded ops ts.toArray) = true) (hd : o.dst = some d) (hm : free.contains d = true)
    (h : ∀ z : BW base, FreTold ops free R o ⟨ts.toArray, ds⟩ z.v → freUpon P (R d) z.v ((execOp (Act.eval ⟨ts.toArray, ds⟩) o).run P z.v)) (hk : ∀ u, wpFre P ops base free R Q l xs ⟨(ts.set d u).toArray, ds⟩) : wpFre P ops base free R Q (o :: l) (x :: xs) ⟨ts.toArray, ds⟩ :=
  wpFre_free hw hd hm h (fun u => by have := hk u; simpa [Act.put] using this)
theorem wpFre_nil (h : Q a) : wpFre P ops base free R Q [] xs a := h
end
end Go.Proofs.YtfndidcoahammaaDoor
