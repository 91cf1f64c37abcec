/- Layer 17 in plain words: what is told of a part without its encoding. No program. -/
import Derived.Test.YteallnjbpikhhaaGreatDoorGbGcM
import Derived.Test.YteallnjbpikhhaaGreatDoorGbQpM
import Derived.Test.YteallnjbpikhhaaGreatDoorGbParQ
import Derived.Maps.OwnSet
import Derived.Maps.OwnOps
import Derived.StringKeys
namespace Go.Proofs.YteallnjbpikhhaaGreatDoor
open Go Go.RowKit

def bit7 : List UInt8 := [55, 98, 105, 116]
def bit8 : List UInt8 := [56, 98, 105, 116]
def binN : List UInt8 := [98, 105, 110, 97, 114, 121]
def b64N : List UInt8 := [98, 97, 115, 101, 54, 52]
def qpN : List UInt8 := [113, 117, 111, 116, 101, 100, 45, 112, 114, 105, 110, 116, 97, 98, 108, 101]
/-- A part's encoding. -/
def encL (l : List UInt8) (t : Tr) : List UInt8 := if foldS (valueS l (fsOf l t.hd.1 t.hd.2) cteN) = [] then bit7 else foldS (valueS l (fsOf l t.hd.1 t.hd.2) cteN)
/-- Bytes without their encoding. -/
def undoL (e b : List UInt8) : Option (List UInt8) := if e = bit7 ∨ e = bit8 ∨ e = binN then some b else if e = b64N then decS (bareSG b) else if e = qpN then decQ b else none
def binP (l : List UInt8) (q : Tr) : Option (List UInt8) := if q.kind = 1 then some (partS l q.bd.1 q.bd.2) else undoL (encL l q) (partS l q.bd.1 q.bd.2)
def telL : Option (List UInt8) → List UInt8 × Int
  | some r => (r, 0)
  | none => ([], 22)
/-- What is told of a message, and the error. -/
def binL (l : List UInt8) (t : Tr) : List Int → List UInt8 × Int
  | [] => (partS l t.hd.1 t.bd.2, 0)
  | n :: r => match downT true t (n :: r) with
    | none => ([], 30)
    | some q => telL (binP l q)
theorem leaf_down (f h t : Nat) : downT true (leafT f h t) [1] = some (leafT f h t) := rfl
theorem part_all (F B : List UInt8) (K : Nat) (h : F.length = K) : partS (F ++ B) K (K + B.length) = B := by
  subst h
  have := partS_behind F B
  rw [List.length_append] at this
  exact this
theorem frt_bin {F L : List UInt8} {K : Nat} (h : Frt F K L) (hL : L ≠ []) (B : List UInt8) : binL (F ++ B) (treeS (F ++ B)) [1] = telL (undoL L B) := by
  rw [h.tree]
  have hb : binP (F ++ B) (leafT 0 K (K + B.length)) = undoL L B := by
    unfold binP
    rw [if_neg (by show ¬ (0 : Nat) = 1; decide)]
    have he : encL (F ++ B) (leafT 0 K (K + B.length)) = L := by
      have := h.enc B
      unfold encL
      show (if foldS (valueS (F ++ B) (fsOf (F ++ B) 0 K) cteN) = [] then _ else foldS (valueS (F ++ B) (fsOf (F ++ B) 0 K) cteN)) = L
      rw [this, if_neg hL]
    rw [he]
    show undoL L (partS (F ++ B) K (K + B.length)) = _
    rw [part_all F B K h.len]
  show (match downT true (leafT 0 K (K + B.length)) [1] with | none => ([], 30) | some q => telL (binP (F ++ B) q)) = _
  rw [leaf_down]
  show telL (binP (F ++ B) (leafT 0 K (K + B.length))) = _
  rw [hb]
/-- What fetch tells of the part is its text as it stands. -/
theorem frt_raw {F L : List UInt8} {K : Nat} (h : Frt F K L) (B : List UInt8) : getL (F ++ B) (treeS (F ++ B)) ⟨[1], 0, [], false, 0, 0⟩ = B := by
  rw [h.tree]
  rw [get_at (F ++ B) (leafT 0 K (K + B.length)) (leafT 0 K (K + B.length)) (n := 1) (by decide) (by decide) 0 (.inl rfl) rfl]
  show partS (F ++ B) K (K + B.length) = B
  exact part_all F B K h.len
theorem undo_b64 (b : List UInt8) : undoL encBF b = decS (bareSG b) := by
  unfold undoL
  rw [if_neg (by decide), if_pos (by decide)]
theorem undo_qp (b : List UInt8) : undoL encQF b = decQ b := by
  unfold undoL
  rw [if_neg (by decide), if_neg (by decide), if_pos (by decide)]
theorem undo_8 (b : List UInt8) : undoL encEF b = some b := by
  unfold undoL
  rw [if_pos (by decide)]
theorem undo_x (b : List UInt8) : undoL encXF b = none := by
  unfold undoL
  rw [if_neg (by decide), if_neg (by decide), if_neg (by decide)]
theorem back_b64 (w : Int) (b : List UInt8) : binL (frtBF ++ lineS w (encS b)) (treeS (frtBF ++ lineS w (encS b))) [1] = (b, 0) := by
  rw [frt_bin frtB (by decide), undo_b64, dec_line]
  rfl
theorem back_qp (b : List UInt8) : binL (frtQF ++ encQ b) (treeS (frtQF ++ encQ b)) [1] = (b, 0) := by
  rw [frt_bin frtQ (by decide), undo_qp, decQ_encQ]
  rfl
theorem back_8 (b : List UInt8) : binL (frtEF ++ b) (treeS (frtEF ++ b)) [1] = (b, 0) := by
  rw [frt_bin frtE (by decide), undo_8]
  rfl
theorem back_x (b : List UInt8) : binL (frtXF ++ b) (treeS (frtXF ++ b)) [1] = ([], 22) := by
  rw [frt_bin frtX (by decide), undo_x]
  rfl
theorem back_one : binL (frtBF ++ [65]) (treeS (frtBF ++ [65])) [1] = ([], 22) := by
  rw [frt_bin frtB (by decide), undo_b64]
  rfl
theorem bin_whole (l : List UInt8) : binL l (treeS l) [] = (l, 0) := by
  have h := tree_Q l
  show (partS l (treeS l).hd.1 (treeS l).bd.2, (0 : Int)) = _
  rw [h.2.1, h.2.2.1]
  show (partS l 0 l.length, (0 : Int)) = _
  unfold partS
  simp
/-- Of a multipart what fetch tells, whatever encoding it names. -/
theorem bin_multi (l : List UInt8) (t : Tr) (i : Nat) (ht : t.kind = 1) (hi : i < t.kids.length) (hb : i + 1 ≤ 4294967295) (hq : t.kids[i].kind = 1) : binL l t [(i : Int) + 1] = (getL l t ⟨[(i : Int) + 1], 0, [], false, 0, 0⟩, 0) := by
  have hp : partsM t = t.kids := by unfold partsM; rw [if_pos ht]
  have hn : nthT (partsM t) ((i : Int) + 1) = some t.kids[i] := by rw [hp]; exact nth_at hi
  have hd : downT true t [(i : Int) + 1] = some t.kids[i] := by
    have hn' : nthT (partsB true t) ((i : Int) + 1) = some t.kids[i] := hn
    unfold downT
    rw [hn']
    rfl
  have hbp : binP l t.kids[i] = some (partS l t.kids[i].bd.1 t.kids[i].bd.2) := by unfold binP; rw [if_pos hq]
  have h1 : binL l t [(i : Int) + 1] = (partS l t.kids[i].bd.1 t.kids[i].bd.2, 0) := by
    show (match downT true t [(i : Int) + 1] with | none => ([], 30) | some q => telL (binP l q)) = _
    rw [hd]
    show telL (binP l t.kids[i]) = _
    rw [hbp]
    rfl
  rw [h1, get_at l t t.kids[i] (by omega) (by omega) 0 (.inl rfl) hn]
  rfl
/-! The document's example. -/
def bexB : List UInt8 := frtWF ++ [81, 85, 73, 61]
theorem bex_tree : treeS bexB = leafT 0 37 41 := frtW.tree [81, 85, 73, 61]
theorem bex_one : binL bexB (leafT 0 37 41) [1] = ([65, 66], 0) := by
  rw [← bex_tree]
  show binL (frtWF ++ [81, 85, 73, 61]) (treeS (frtWF ++ [81, 85, 73, 61])) [1] = _
  rw [frt_bin frtW (by decide)]
  rfl
theorem bex_two : binL bexB (leafT 0 37 41) [2] = ([], 30) := rfl
theorem bex_enc : encL bexB (leafT 0 37 41) = b64N := by
  have := frtW.enc [81, 85, 73, 61]
  unfold encL
  show (if foldS (valueS bexB (fsOf bexB 0 37) cteN) = [] then _ else foldS (valueS bexB (fsOf bexB 0 37) cteN)) = _
  unfold bexB
  rw [this]
  rfl
end Go.Proofs.YteallnjbpikhhaaGreatDoor

/- Contracts of package binary: the map of what undoes an encoding. -/
namespace Go.Proofs.YteallnjbpikhhaaGreatDoor
open Go Go.RowKit Go.Maps

theorem wpList_insert_own {H : Type} {P : Program} (w : World) {ops : Array Oper} {rest : List Oper} {o : Oper} {a : Act} {Q : Exit → Act → World → Prop}
    (hg : o.guard = none) (m x v : Operand) (t : TypeId) (hop : o.op = Op.insert t m x v)
    (k e : TypeId) (K : Keyed P k) (ht : P.underlying t = some (.map k e)) (R : Value → Option (DataW H × List MemPlace)) (b n : Nat) (D : DataW H)
    (hm : a.eval m = .map (some b)) (hown : w.ownsMap P k R b n D) (hn : n < maxLen) (key val : Value) (kl : Lit) (hx : a.eval x = key) (hv : a.eval v = val) (hkey : keyOf P k key = some kl)
    (d : DataW H) (ps : List MemPlace) (hval : R val = some (d, ps))
    (hK : ∀ w', w'.ownsMap P k R b (n + 1) (D.put kl d) → w.grownBy w' (some b) → wpList P ops Q rest (a.put o.dst undef) w') :
    wpList P ops Q (o :: rest) a w := by
  refine wpList_plain hg fun K' hK' => ?_
  obtain ⟨w', hrun, r1, r2⟩ := hown.update K ht hn hkey hval
  unfold Oper.wp
  simp [execOp, hop, hm, hx, hv, hrun, Result.andThen]
  exact hK' _ _ (hK w' r1 r2)
def b64Fn : Value := .func (.func 50) #[] #[]
def qpFn : Value := .func (.func 51) #[] #[]
/-- What undoes an encoding: none, base64's, quoted-printable's. -/
def unV : Nat → Value
  | 1 => b64Fn
  | 2 => qpFn
  | _ => .nilFunc
theorem unV_inj : ∀ i j, i < 3 → j < 3 → unV i = unV j → i = j := by
  intro i j hi hj h
  match i, hi, j, hj with
  | 0, _, 0, _ => rfl
  | 1, _, 1, _ => rfl
  | 2, _, 2, _ => rfl
  | 0, _, 1, _ | 0, _, 2, _ | 1, _, 0, _ | 1, _, 2, _ | 2, _, 0, _ | 2, _, 1, _ => simp [unV, b64Fn, qpFn] at h
open Classical in
/-- How such a value reads. -/
noncomputable def unR (v : Value) : Option (DataW Unit × List MemPlace) := if h : ∃ k, k < 3 ∧ v = unV k then some (.lit (.int .i64 (h.choose : Int)), []) else none
theorem unR_at {k : Nat} (h : k < 3) : unR (unV k) = some (.lit (.int .i64 (k : Int)), []) := by
  have he : ∃ j, j < 3 ∧ unV k = unV j := ⟨k, h, rfl⟩
  unfold unR
  rw [dif_pos he]
  have := unV_inj _ _ h he.choose_spec.1 he.choose_spec.2
  rw [← this]
theorem unR_inv {v : Value} {k : Nat} {ps : List MemPlace} (h : unR v = some (.lit (.int .i64 (k : Int)), ps)) : v = unV k := by
  unfold unR at h
  split at h
  · next he =>
    have h1 := congrArg Prod.fst (Option.some.inj h)
    have h2 : he.choose = k := by
      simp at h1
      omega
    rw [← h2]
    exact he.choose_spec.2
  · cases h
def kindE (e : List UInt8) : Nat := if e = b64N then 1 else if e = qpN then 2 else 0
theorem kindE_lt (e : List UInt8) : kindE e < 3 := by
  unfold kindE
  split
  · omega
  · split <;> omega
/-- What the map tells. -/
def UnD (D : DataW Unit) : Prop := ∀ nm, Maps.has D (.string nm) = decide (kindE nm ≠ 0) ∧ D.atKey (.string nm) (.lit (.int .i64 0)) = .lit (.int .i64 (kindE nm : Int))
theorem isKeyE (nm : List UInt8) : WideAt.IsKeyLit (.string nm) := by trivial
theorem putE_at {D : DataW Unit} (hm : IsMap D) (nm nm' : List UInt8) (k : Nat) : Maps.has (D.put (.string nm) (.lit (.int .i64 (k : Int)))) (.string nm') = (if nm' = nm then true else Maps.has D (.string nm')) ∧
    (D.put (.string nm) (.lit (.int .i64 (k : Int)))).atKey (.string nm') (.lit (.int .i64 0)) = (if nm' = nm then .lit (.int .i64 (k : Int)) else D.atKey (.string nm') (.lit (.int .i64 0))) := by
  by_cases e : nm' = nm
  · subst e
    rw [if_pos rfl, if_pos rfl]
    exact ⟨has_put_same hm (isKeyE _) _, atKey_put_same hm (isKeyE _) _ _⟩
  · have hne : (Lit.string nm') ≠ Lit.string nm := fun h => e (Lit.string.inj h)
    rw [if_neg e, if_neg e]
    exact ⟨has_put_other hne _, atKey_put_other hne _ _⟩
theorem unD_is (h0 : IsMap ((.map []) : DataW Unit)) (h1 : IsMap (DataW.put (.map []) (.string b64N) (.lit (.int .i64 ((1 : Nat) : Int))) : DataW Unit)) :
    UnD (DataW.put (DataW.put (.map []) (.string b64N) (.lit (.int .i64 ((1 : Nat) : Int)))) (.string qpN) (.lit (.int .i64 ((2 : Nat) : Int)))) := by
  intro nm
  rw [(putE_at h1 qpN nm 2).1, (putE_at h1 qpN nm 2).2, (putE_at h0 b64N nm 1).1, (putE_at h0 b64N nm 1).2]
  unfold kindE
  by_cases e1 : nm = b64N
  · subst e1
    exact ⟨by decide, by rfl⟩
  · by_cases e2 : nm = qpN
    · subst e2
      exact ⟨by decide, by rfl⟩
    · simp only [e1, e2, if_false]
      exact ⟨rfl, rfl⟩
theorem zeroUn (w : World) : (zeroValue 78).run Tryz.prog w = .ok .nilFunc w := by kernel_rfl
set_option maxRecDepth 100000 in
set_option maxHeartbeats 2000000 in
theorem undoers_any (w : World) :
    Calls Tryz.prog 33 #[] w fun e w' => ∃ bm D, e = .returned (.map (some bm)) ∧ w'.ownsMap (H := Unit) Tryz.prog 9 unR bm 2 D ∧ UnD D ∧ Below w.heap.size w w' := by
  have hmm := @run_makeMap Tryz.prog
  have HK1 : Hid (keyOf Tryz.prog 9 (.string ⟨#[98, 97, 115, 101, 54, 52]⟩) = some (.string b64N)) := keyStr b64N (by decide)
  have HK2 : Hid (keyOf Tryz.prog 9 (.string ⟨#[113, 117, 111, 116, 101, 100, 45, 112, 114, 105, 110, 116, 97, 98, 108, 101]⟩) = some (.string qpN)) := keyStr qpN (by decide)
  have HR1 : Hid (unR (.func (.func 50) #[] #[]) = some (.lit (.int .i64 ((1 : Nat) : Int)), [])) := unR_at (k := 1) (by decide)
  have HR2 : Hid (unR (.func (.func 51) #[] #[]) = some (.lit (.int .i64 ((2 : Nat) : Int)), [])) := unR_at (k := 2) (by decide)
  have O0 : Hid ((w.alloc (.map #[] 0)).ownsMap (H := Unit) Tryz.prog 9 unR w.heap.size 0 (.map [])) := World.ownsMap_made (H := Unit) w Tryz.prog 9 unR
  have HM0 : Hid (IsMap ((.map []) : DataW Unit)) := O0.out.isMap
  have HB0 : Hid (Below w.heap.size w (w.alloc (.map #[] 0))) := (Below.refl _ _).alloc (Nat.le_refl _) _
  go_enter Tryz.func33, Tryz.ntmps33
  go_wp2_with (first
    | (refine wpList_insert_own _ rfl _ _ _ 80 rfl 9 78 keyLaw Tryz.underlying80 unR w.heap.size 0 _ rfl O0.out (by unfold maxLen; omega) _ _ _ rfl rfl HK1.out _ [] HR1.out ?_; intro w2 hown2 hgrow2
       have O2 := Lib.hid hown2
       have HM2 := Lib.hid hown2.isMap
       have HB2 : Hid (Below w.heap.size w w2) := HB0.out.grown hgrow2 HB0.out.size (fun q hq => by cases hq; exact Nat.le_refl _)
       clear hown2 hgrow2)
    | (refine wpList_insert_own _ rfl _ _ _ 80 rfl 9 78 keyLaw Tryz.underlying80 unR w.heap.size 1 _ rfl O2.out (by unfold maxLen; omega) _ _ _ rfl rfl HK2.out _ [] HR2.out ?_; intro w4 hown4 hgrow4
       have O4 := Lib.hid hown4
       have HB4 : Hid (Below w.heap.size w w4) := HB2.out.grown hgrow4 HB2.out.size (fun q hq => by cases hq; exact Nat.le_refl _)
       clear hown4 hgrow4))
  go_ret
  exact ⟨_, _, rfl, O4.out, unD_is HM0.out HM2.out, HB4.out⟩
end Go.Proofs.YteallnjbpikhhaaGreatDoor
