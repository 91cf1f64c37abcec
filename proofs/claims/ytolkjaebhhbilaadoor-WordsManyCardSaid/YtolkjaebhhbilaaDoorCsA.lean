/- Contracts of package charset: which charsets there are, and the one of a name. -/
import Derived.Test.YtolkjaebhhbilaaDoorCsK
import Derived.Test.YtolkjaebhhbilaaDoorChars4
namespace Go.Proofs.YtolkjaebhhbilaaDoor
open Go Go.RowKit Go.Maps

/-- A charset's value. -/
def csA : Nat → Array Value
  | 1 => #[.func (.func 56) #[] #[], .func (.func 57) #[] #[]]
  | 2 => #[.func (.func 58) #[] #[], .func (.func 59) #[] #[]]
  | 3 => #[.func (.func 60) #[] #[], .func (.func 61) #[] #[]]
  | _ => #[.nilFunc, .nilFunc]
theorem alloc_at (W : World) (o : Obj) (g : Nat) (h : W.heap.size = g) : (W.alloc o).heap[g]? = some o := by subst h; exact heap_alloc_new W o
def csV (k : Nat) : Value := .agg (csA k)
theorem csV_inj : ∀ i j, i < 4 → j < 4 → csV i = csV j → i = j := by
  intro i j hi hj h
  match i, hi, j, hj with
  | 0, _, 0, _ => rfl
  | 1, _, 1, _ => rfl
  | 2, _, 2, _ => rfl
  | 3, _, 3, _ => rfl
  | 0, _, 1, _ | 0, _, 2, _ | 0, _, 3, _ | 1, _, 0, _ | 1, _, 2, _ | 1, _, 3, _ | 2, _, 0, _ | 2, _, 1, _ | 2, _, 3, _ | 3, _, 0, _ | 3, _, 1, _ | 3, _, 2, _ => simp [csV, csA] at h
open Classical in
/-- How a charset's value reads. -/
noncomputable def csR (v : Value) : Option (DataW Unit × List MemPlace) := if h : ∃ k, k < 4 ∧ v = csV k then some (.lit (.int .i64 (h.choose : Int)), []) else none
theorem csR_at {k : Nat} (h : k < 4) : csR (csV k) = some (.lit (.int .i64 (k : Int)), []) := by
  have he : ∃ j, j < 4 ∧ csV k = csV j := ⟨k, h, rfl⟩
  unfold csR
  rw [dif_pos he]
  have := csV_inj _ _ h he.choose_spec.1 he.choose_spec.2
  rw [← this]
theorem csR_inv {v : Value} {k : Nat} {ps : List MemPlace} (h : csR v = some (.lit (.int .i64 (k : Int)), ps)) : v = csV k := by
  unfold csR at h
  split at h
  · next he =>
    have h1 := congrArg Prod.fst (Option.some.inj h)
    have h2 : he.choose = k := by
      simp at h1
      omega
    rw [← h2]
    exact he.choose_spec.2
  · cases h
/-- What the map tells. -/
def CsD (D : DataW Unit) : Prop := ∀ nm, Maps.has D (.string nm) = decide (kindF nm ≠ 0) ∧ D.atKey (.string nm) (.lit (.int .i64 0)) = .lit (.int .i64 (kindF nm : Int))
theorem put_at {D : DataW Unit} (hm : IsMap D) (nm nm' : List UInt8) (k : Nat) : Maps.has (D.put (.string nm) (.lit (.int .i64 (k : Int)))) (.string nm') = (if nm' = nm then true else Maps.has D (.string nm')) ∧
    (D.put (.string nm) (.lit (.int .i64 (k : Int)))).atKey (.string nm') (.lit (.int .i64 0)) = (if nm' = nm then .lit (.int .i64 (k : Int)) else D.atKey (.string nm') (.lit (.int .i64 0))) := by
  by_cases e : nm' = nm
  · subst e
    rw [if_pos rfl, if_pos rfl]
    exact ⟨has_put_same hm (isKey _) _, atKey_put_same hm (isKey _) _ _⟩
  · have hne : (Lit.string nm') ≠ Lit.string nm := fun h => e (Lit.string.inj h)
    rw [if_neg e, if_neg e]
    exact ⟨has_put_other hne _, atKey_put_other hne _ _⟩
def csD6 : DataW Unit := (DataW.put (DataW.put (DataW.put (DataW.put (DataW.put (DataW.put (.map []) (.string nmA1) (.lit (.int .i64 (1 : Nat)))) (.string nmA2) (.lit (.int .i64 (1 : Nat)))) (.string nmL1) (.lit (.int .i64 (2 : Nat)))) (.string nmL2) (.lit (.int .i64 (2 : Nat)))) (.string nmU1) (.lit (.int .i64 (3 : Nat)))) (.string nmU2) (.lit (.int .i64 (3 : Nat))))
theorem csD_is (h0 : IsMap ((.map []) : DataW Unit)) (h1 : IsMap ((DataW.put (.map []) (.string nmA1) (.lit (.int .i64 (1 : Nat)))) : DataW Unit)) (h2 : IsMap ((DataW.put (DataW.put (.map []) (.string nmA1) (.lit (.int .i64 (1 : Nat)))) (.string nmA2) (.lit (.int .i64 (1 : Nat)))) : DataW Unit)) (h3 : IsMap ((DataW.put (DataW.put (DataW.put (.map []) (.string nmA1) (.lit (.int .i64 (1 : Nat)))) (.string nmA2) (.lit (.int .i64 (1 : Nat)))) (.string nmL1) (.lit (.int .i64 (2 : Nat)))) : DataW Unit)) (h4 : IsMap ((DataW.put (DataW.put (DataW.put (DataW.put (.map []) (.string nmA1) (.lit (.int .i64 (1 : Nat)))) (.string nmA2) (.lit (.int .i64 (1 : Nat)))) (.string nmL1) (.lit (.int .i64 (2 : Nat)))) (.string nmL2) (.lit (.int .i64 (2 : Nat)))) : DataW Unit)) (h5 : IsMap ((DataW.put (DataW.put (DataW.put (DataW.put (DataW.put (.map []) (.string nmA1) (.lit (.int .i64 (1 : Nat)))) (.string nmA2) (.lit (.int .i64 (1 : Nat)))) (.string nmL1) (.lit (.int .i64 (2 : Nat)))) (.string nmL2) (.lit (.int .i64 (2 : Nat)))) (.string nmU1) (.lit (.int .i64 (3 : Nat)))) : DataW Unit)) : CsD csD6 := by
  intro nm
  unfold csD6
  rw [(put_at h5 nmU2 nm 3).1, (put_at h5 nmU2 nm 3).2, (put_at h4 nmU1 nm 3).1, (put_at h4 nmU1 nm 3).2, (put_at h3 nmL2 nm 2).1, (put_at h3 nmL2 nm 2).2, (put_at h2 nmL1 nm 2).1, (put_at h2 nmL1 nm 2).2, (put_at h1 nmA2 nm 1).1, (put_at h1 nmA2 nm 1).2, (put_at h0 nmA1 nm 1).1, (put_at h0 nmA1 nm 1).2]
  unfold kindF
  by_cases e1 : nm = nmA1
  · subst e1; exact ⟨by decide, by rfl⟩
  by_cases e2 : nm = nmA2
  · subst e2; exact ⟨by decide, by rfl⟩
  by_cases e3 : nm = nmL1
  · subst e3; exact ⟨by decide, by rfl⟩
  by_cases e4 : nm = nmL2
  · subst e4; exact ⟨by decide, by rfl⟩
  by_cases e5 : nm = nmU1
  · subst e5; exact ⟨by decide, by rfl⟩
  by_cases e6 : nm = nmU2
  · subst e6; exact ⟨by decide, by rfl⟩
  simp only [e1, e2, e3, e4, e5, e6, if_false, or_self]
  exact ⟨rfl, rfl⟩

set_option maxRecDepth 100000 in
set_option maxHeartbeats 4000000 in
theorem charsets_any (w : World) :
    Calls Tryd.prog 51 #[] w fun e w' => ∃ bm D, e = .returned (.map (some bm)) ∧ w'.ownsMap Tryd.prog 9 csR bm 6 D ∧ CsD D ∧ Below w.heap.size w w' := by
  have hmm := @run_makeMap Tryd.prog
  have HK1 : Hid (keyOf Tryd.prog 9 (.string ⟨nmA1.toArray⟩) = some (.string nmA1)) := keyStr nmA1 (by decide)
  have HK2 : Hid (keyOf Tryd.prog 9 (.string ⟨nmA2.toArray⟩) = some (.string nmA2)) := keyStr nmA2 (by decide)
  have HK3 : Hid (keyOf Tryd.prog 9 (.string ⟨nmL1.toArray⟩) = some (.string nmL1)) := keyStr nmL1 (by decide)
  have HK4 : Hid (keyOf Tryd.prog 9 (.string ⟨nmL2.toArray⟩) = some (.string nmL2)) := keyStr nmL2 (by decide)
  have HK5 : Hid (keyOf Tryd.prog 9 (.string ⟨nmU1.toArray⟩) = some (.string nmU1)) := keyStr nmU1 (by decide)
  have HK6 : Hid (keyOf Tryd.prog 9 (.string ⟨nmU2.toArray⟩) = some (.string nmU2)) := keyStr nmU2 (by decide)
  have HC1 : Hid (csR (.agg #[.func (.func 56) #[] #[], .func (.func 57) #[] #[]]) = some (.lit (.int .i64 (1 : Nat)), [])) := csR_at (k := 1) (by decide)
  have HC2 : Hid (csR (.agg #[.func (.func 58) #[] #[], .func (.func 59) #[] #[]]) = some (.lit (.int .i64 (2 : Nat)), [])) := csR_at (k := 2) (by decide)
  have HC3 : Hid (csR (.agg #[.func (.func 60) #[] #[], .func (.func 61) #[] #[]]) = some (.lit (.int .i64 (3 : Nat)), [])) := csR_at (k := 3) (by decide)
  go_enter Tryd.func51, Tryd.ntmps51
  go_wp2_with (first
    | (refine wpList_store_row' rfl 75 (.tmp 1) (.tmp 4) rfl w.heap.size #[.func (.func 56) #[] #[], .func (.func 57) #[] #[]] rfl rfl 75 _ (alloc_at w _ _ rfl) (by kernel_rfl) rfl (by kernel_rfl) ?_; intro W1 hW1
       have hs1 : W1.heap.size = w.heap.size + 1 := by rw [hW1.out, size_setRow]; simp
       have x11 : W1.heap[w.heap.size]? = some (.cells #[.func (.func 56) #[] #[], .func (.func 57) #[] #[]] 75 (0, 0)) := by rw [hW1.out]; exact setRow_heap _ _ _ _ _ _ (alloc_at w _ _ rfl)
       have hb1 : Below w.heap.size w W1 := by rw [hW1.out]; exact below_setRow ((Below.refl w.heap.size w).alloc (by omega) _) (by omega) _)
    | (refine wpList_store_row' rfl 75 (.tmp 2) (.tmp 5) rfl (w.heap.size + 1) #[.func (.func 58) #[] #[], .func (.func 59) #[] #[]] rfl rfl 75 _ (alloc_at W1 _ _ hs1) (by kernel_rfl) rfl (by kernel_rfl) ?_; intro W2 hW2
       have hs2 : W2.heap.size = w.heap.size + 2 := by rw [hW2.out, size_setRow]; simp [hs1]
       have x22 : W2.heap[(w.heap.size + 1)]? = some (.cells #[.func (.func 58) #[] #[], .func (.func 59) #[] #[]] 75 (0, 0)) := by rw [hW2.out]; exact setRow_heap _ _ _ _ _ _ (alloc_at W1 _ _ hs1)
       have hb2 : Below w.heap.size w W2 := by rw [hW2.out]; exact below_setRow (hb1.alloc (by omega) _) (by omega) _
       have x21 : W2.heap[w.heap.size]? = some (.cells #[.func (.func 56) #[] #[], .func (.func 57) #[] #[]] 75 (0, 0)) := by rw [hW2.out, setRow_other _ _ _ _ (by omega), Below.heap_alloc _ _ _ (by omega)]; exact x11)
    | (refine wpList_store_row' rfl 75 (.tmp 3) (.tmp 6) rfl (w.heap.size + 2) #[.func (.func 60) #[] #[], .func (.func 61) #[] #[]] rfl rfl 75 _ (alloc_at W2 _ _ hs2) (by kernel_rfl) rfl (by kernel_rfl) ?_; intro W3 hW3
       have hs3 : W3.heap.size = w.heap.size + 3 := by rw [hW3.out, size_setRow]; simp [hs2]
       have x33 : W3.heap[(w.heap.size + 2)]? = some (.cells #[.func (.func 60) #[] #[], .func (.func 61) #[] #[]] 75 (0, 0)) := by rw [hW3.out]; exact setRow_heap _ _ _ _ _ _ (alloc_at W2 _ _ hs2)
       have hb3 : Below w.heap.size w W3 := by rw [hW3.out]; exact below_setRow (hb2.alloc (by omega) _) (by omega) _
       have x31 : W3.heap[w.heap.size]? = some (.cells #[.func (.func 56) #[] #[], .func (.func 57) #[] #[]] 75 (0, 0)) := by rw [hW3.out, setRow_other _ _ _ _ (by omega), Below.heap_alloc _ _ _ (by omega)]; exact x21
       have x32 : W3.heap[(w.heap.size + 1)]? = some (.cells #[.func (.func 58) #[] #[], .func (.func 59) #[] #[]] 75 (0, 0)) := by rw [hW3.out, setRow_other _ _ _ _ (by omega), Below.heap_alloc _ _ _ (by omega)]; exact x22
       have M1 : Hid ((W3.alloc (.map #[] 0)).heap[w.heap.size]? = some (.cells #[.func (.func 56) #[] #[], .func (.func 57) #[] #[]] 75 (0, 0))) := by unfold Hid; rw [Below.heap_alloc _ _ _ (by omega)]; exact x31
       have M2 : Hid ((W3.alloc (.map #[] 0)).heap[(w.heap.size + 1)]? = some (.cells #[.func (.func 58) #[] #[], .func (.func 59) #[] #[]] 75 (0, 0))) := by unfold Hid; rw [Below.heap_alloc _ _ _ (by omega)]; exact x32
       have M3 : Hid ((W3.alloc (.map #[] 0)).heap[(w.heap.size + 2)]? = some (.cells #[.func (.func 60) #[] #[], .func (.func 61) #[] #[]] 75 (0, 0))) := by unfold Hid; rw [Below.heap_alloc _ _ _ (by omega)]; exact x33
       have O0 : Hid ((W3.alloc (.map #[] 0)).ownsMap (H := Unit) Tryd.prog 9 csR (w.heap.size + 3) 0 (.map [])) := by have h := World.ownsMap_made (H := Unit) W3 Tryd.prog 9 csR; rw [hs3] at h; exact h
       have hB0 : Below w.heap.size w (W3.alloc (.map #[] 0)) := hb3.alloc (by omega) _
       have hz0 : (W3.alloc (.map #[] 0)).heap.size = w.heap.size + 4 := by simp [hs3]
       have HB0 := Lib.hid hB0
       have HZ0 := Lib.hid hz0
       have G0 : Hid ((W3.alloc (.map #[] 0)).grownBy (W3.alloc (.map #[] 0)) (some (w.heap.size + 3))) := ⟨rfl, rfl, rfl, Nat.le_refl _, fun _ _ _ => rfl⟩
       clear hW1 hW2 hW3 hb1 hb2 hb3 x11 x21 x22 x31 x32 x33 hs1 hs2 hB0 hz0)
    | (refine wpList_load_row rfl 75 (.tmp 1) rfl w.heap.size rfl 75 _ (0, 0) _ M1.out Tryd.underlying75 rfl rfl ?_)
    | (refine wpList_load_row rfl 75 (.tmp 1) rfl w.heap.size rfl 75 _ (0, 0) _ L1.out Tryd.underlying75 rfl rfl ?_)
    | (refine wpList_load_row rfl 75 (.tmp 2) rfl (w.heap.size + 1) rfl 75 _ (0, 0) _ L2.out Tryd.underlying75 rfl rfl ?_)
    | (refine wpList_load_row rfl 75 (.tmp 2) rfl (w.heap.size + 1) rfl 75 _ (0, 0) _ L3.out Tryd.underlying75 rfl rfl ?_)
    | (refine wpList_load_row rfl 75 (.tmp 3) rfl (w.heap.size + 2) rfl 75 _ (0, 0) _ L4.out Tryd.underlying75 rfl rfl ?_)
    | (refine wpList_load_row rfl 75 (.tmp 3) rfl (w.heap.size + 2) rfl 75 _ (0, 0) _ L5.out Tryd.underlying75 rfl rfl ?_)
    | (refine wpList_insert_own _ rfl _ _ _ 86 rfl 9 75 keyLaw Tryd.underlying86 csR (w.heap.size + 3) 0 _ rfl O0.out (by unfold maxLen; omega) _ _ _ rfl rfl HK1.out _ [] HC1.out ?_; intro w1 hown hgrow
       have G1 : Hid ((W3.alloc (.map #[] 0)).grownBy w1 (some (w.heap.size + 3))) := G0.out.trans hgrow
       have L1 : Hid (w1.heap[w.heap.size]? = some (.cells #[.func (.func 56) #[] #[], .func (.func 57) #[] #[]] 75 (0, 0))) := (G1.out.block w.heap.size (by rw [HZ0.out]; omega) (by simp)).trans M1.out
       have O1 := Lib.hid hown
       clear hown hgrow)
    | (refine wpList_insert_own _ rfl _ _ _ 86 rfl 9 75 keyLaw Tryd.underlying86 csR (w.heap.size + 3) 1 _ rfl O1.out (by unfold maxLen; omega) _ _ _ rfl rfl HK2.out _ [] HC1.out ?_; intro w2 hown hgrow
       have G2 : Hid ((W3.alloc (.map #[] 0)).grownBy w2 (some (w.heap.size + 3))) := G1.out.trans hgrow
       have L2 : Hid (w2.heap[(w.heap.size + 1)]? = some (.cells #[.func (.func 58) #[] #[], .func (.func 59) #[] #[]] 75 (0, 0))) := (G2.out.block (w.heap.size + 1) (by rw [HZ0.out]; omega) (by simp)).trans M2.out
       have O2 := Lib.hid hown
       clear hown hgrow)
    | (refine wpList_insert_own _ rfl _ _ _ 86 rfl 9 75 keyLaw Tryd.underlying86 csR (w.heap.size + 3) 2 _ rfl O2.out (by unfold maxLen; omega) _ _ _ rfl rfl HK3.out _ [] HC2.out ?_; intro w3 hown hgrow
       have G3 : Hid ((W3.alloc (.map #[] 0)).grownBy w3 (some (w.heap.size + 3))) := G2.out.trans hgrow
       have L3 : Hid (w3.heap[(w.heap.size + 1)]? = some (.cells #[.func (.func 58) #[] #[], .func (.func 59) #[] #[]] 75 (0, 0))) := (G3.out.block (w.heap.size + 1) (by rw [HZ0.out]; omega) (by simp)).trans M2.out
       have O3 := Lib.hid hown
       clear hown hgrow)
    | (refine wpList_insert_own _ rfl _ _ _ 86 rfl 9 75 keyLaw Tryd.underlying86 csR (w.heap.size + 3) 3 _ rfl O3.out (by unfold maxLen; omega) _ _ _ rfl rfl HK4.out _ [] HC2.out ?_; intro w4 hown hgrow
       have G4 : Hid ((W3.alloc (.map #[] 0)).grownBy w4 (some (w.heap.size + 3))) := G3.out.trans hgrow
       have L4 : Hid (w4.heap[(w.heap.size + 2)]? = some (.cells #[.func (.func 60) #[] #[], .func (.func 61) #[] #[]] 75 (0, 0))) := (G4.out.block (w.heap.size + 2) (by rw [HZ0.out]; omega) (by simp)).trans M3.out
       have O4 := Lib.hid hown
       clear hown hgrow)
    | (refine wpList_insert_own _ rfl _ _ _ 86 rfl 9 75 keyLaw Tryd.underlying86 csR (w.heap.size + 3) 4 _ rfl O4.out (by unfold maxLen; omega) _ _ _ rfl rfl HK5.out _ [] HC3.out ?_; intro w5 hown hgrow
       have G5 : Hid ((W3.alloc (.map #[] 0)).grownBy w5 (some (w.heap.size + 3))) := G4.out.trans hgrow
       have L5 : Hid (w5.heap[(w.heap.size + 2)]? = some (.cells #[.func (.func 60) #[] #[], .func (.func 61) #[] #[]] 75 (0, 0))) := (G5.out.block (w.heap.size + 2) (by rw [HZ0.out]; omega) (by simp)).trans M3.out
       have O5 := Lib.hid hown
       clear hown hgrow)
    | (refine wpList_insert_own _ rfl _ _ _ 86 rfl 9 75 keyLaw Tryd.underlying86 csR (w.heap.size + 3) 5 _ rfl O5.out (by unfold maxLen; omega) _ _ _ rfl rfl HK6.out _ [] HC3.out ?_; intro w6 hown hgrow
       have G6 : Hid ((W3.alloc (.map #[] 0)).grownBy w6 (some (w.heap.size + 3))) := G5.out.trans hgrow
       have O6 := Lib.hid hown
       clear hown hgrow))
  go_ret
  exact ⟨_, _, rfl, O6.out, csD_is O0.out.isMap O1.out.isMap O2.out.isMap O3.out.isMap O4.out.isMap O5.out.isMap, Below.grown HB0.out G6.out HB0.out.size (by intro q hq; cases hq; omega)⟩
end Go.Proofs.YtolkjaebhhbilaaDoor
