/- What of a message a spec tells, in plain words. No program. -/
import Derived.Test.YtahmhakdpmcdoaaGreatDoorGbHdrH
import Derived.Test.YtahmhakdpmcdoaaGreatDoorGbTiM
import Derived.Test.YtahmhakdpmcdoaaGreatDoorGbSeI
namespace Go.Proofs.YtahmhakdpmcdoaaGreatDoor
open Go Go.RowKit

mutual
/-- Places in order, within so many bytes. -/
def okT (n : Nat) : Tr → Prop
  | .mk _ hd bd ks _ _ => (hd.1 ≤ hd.2 ∧ hd.2 = bd.1 ∧ bd.1 ≤ bd.2 ∧ bd.2 ≤ n) ∧ okK n ks
def okK (n : Nat) : List Tr → Prop
  | [] => True
  | t :: r => okT n t ∧ okK n r
end
theorem okT_open {n : Nat} {t : Tr} (h : okT n t) : (t.hd.1 ≤ t.hd.2 ∧ t.hd.2 = t.bd.1 ∧ t.bd.1 ≤ t.bd.2 ∧ t.bd.2 ≤ n) ∧ okK n t.kids := by
  cases t
  unfold okT at h
  exact h
theorem okT_mk {n k : Nat} {hd bd : Sp} {ks : List Tr} {cs : List Sp} {e : Sp} (h : hd.1 ≤ hd.2 ∧ hd.2 = bd.1 ∧ bd.1 ≤ bd.2 ∧ bd.2 ≤ n) (hk : okK n ks) : okT n (.mk k hd bd ks cs e) := by
  unfold okT
  exact ⟨h, hk⟩
theorem okK_nil (n : Nat) : okK n [] := by unfold okK; trivial
theorem okK_mem {n : Nat} : ∀ {ts : List Tr}, okK n ts → ∀ q ∈ ts, okT n q
  | [], _, q, h => by cases h
  | t :: r, hk, q, h => by
    unfold okK at hk
    rcases List.mem_cons.1 h with rfl | h
    · exact hk.1
    · exact okK_mem hk.2 q h
theorem kidsRun_okT {n : Nat} {F : Sp → Nat → Tr × Nat} : ∀ (ss : List Sp) (c : Nat), (∀ s ∈ ss, ∀ c', okT n (F s c').1) → okK n (kidsRun F ss c).1
  | [], _, _ => by unfold kidsRun; exact okK_nil _
  | s :: r, c, h => by
    have ih := kidsRun_okT r (F s c).2 fun s' hs' => h s' (List.mem_cons_of_mem _ hs')
    show okK n ((F s c).1 :: (kidsRun F r (F s c).2).1)
    unfold okK
    exact ⟨h s List.mem_cons_self c, ih⟩
theorem entS_okT (l : List UInt8) : ∀ (d : Nat) (s : Sp) (g : Bool) (c : Nat), s.1 ≤ s.2 → s.2 ≤ l.length → okT l.length (entS l d s g c).1
  | 0, s, g, c, h1, h2 => by
    have hh := hdOf_le l h1 h2
    exact okT_mk ⟨hh.1, rfl, hh.2, h2⟩ (okK_nil _)
  | d + 1, s, g, c, h1, h2 => by
    have hh := hdOf_le l h1 h2
    by_cases hc : (pdS l (fsOf l s.1 s.2) (hdOf l s.1 s.2) s.2 (typeS l (fsOf l s.1 s.2) g)).kids = [] ∨ 1000 < c + (pdS l (fsOf l s.1 s.2) (hdOf l s.1 s.2) s.2 (typeS l (fsOf l s.1 s.2) g)).kids.length
    · rw [entS_leaf hc]
      exact okT_mk ⟨hh.1, rfl, hh.2, h2⟩ (okK_nil _)
    · rw [entS_kids rfl rfl hc]
      have hin := pdS_in l (fsOf l s.1 s.2) hh.2 h2 (typeS l (fsOf l s.1 s.2) g)
      refine okT_mk ⟨hh.1, rfl, hh.2, h2⟩ (kidsRun_okT _ _ fun s' hs' c' => entS_okT l d s' _ c' (hin s' hs').1 (Nat.le_trans (hin s' hs').2 h2))
theorem tree_okT (l : List UInt8) : okT l.length (treeS l) := entS_okT l 32 (0, l.length) false 1 (Nat.zero_le _) (Nat.le_refl _)

def bsL (ns : List (List UInt8)) : List ByteArray := ns.map fun a => ⟨a.toArray⟩
/-- What is told of a message. -/
def msgL (l : List UInt8) (t : Tr) (s : Spc) : List UInt8 :=
  if s.what = 2 then someS l (fsOf l t.hd.1 t.hd.2) (bsL s.names) false
  else if s.what = 3 then someS l (fsOf l t.hd.1 t.hd.2) (bsL s.names) true
  else if s.what = 4 then partS l t.bd.1 t.bd.2
  else if s.what = 0 then partS l t.hd.1 t.bd.2
  else partS l t.hd.1 t.hd.2
/-- The parts of a message, and of a part. -/
def partsM (t : Tr) : List Tr := if t.kind = 1 then t.kids else [t]
def kidM (t : Tr) : List Tr := match t.kids with | k :: _ => partsM k | [] => []
def partsP (t : Tr) : List Tr := if t.kind = 1 then t.kids else if t.kind = 2 then kidM t else []
def partsB (m : Bool) (t : Tr) : List Tr := if m = true then partsM t else partsP t
def nthT (ts : List Tr) (n : Int) : Option Tr := if n < 1 then none else ts[n.toNat - 1]?
def downT : Bool → Tr → List Int → Option Tr
  | _, t, [] => some t
  | m, t, n :: r => match nthT (partsB m t) n with | none => none | some q => downT false q r
def kidL (l : List UInt8) (t : Tr) (s : Spc) : List UInt8 := match t.kids with | k :: _ => msgL l k s | [] => []
/-- What is told of a part. -/
def prtL (l : List UInt8) (t : Tr) (s : Spc) : List UInt8 :=
  if s.what = 0 then partS l t.bd.1 t.bd.2
  else if s.what = 5 then partS l t.hd.1 t.hd.2
  else if t.kind = 2 then kidL l t s
  else []
def pathL (l : List UInt8) (t : Tr) (s : Spc) : List UInt8 := match downT true t s.path with | none => [] | some q => prtL l q s
def allL (l : List UInt8) (t : Tr) (s : Spc) : List UInt8 :=
  if checkS s = true then (if s.path = [] then msgL l t s else pathL l t s) else []
def cut16 (x : List UInt8) (f m : Int) : List UInt8 := if f < 0 ∨ (x.length : Int) < f ∨ m < 1 then [] else (x.drop f.toNat).take m.toNat
def getL (l : List UInt8) (t : Tr) (s : Spc) : List UInt8 := if s.cut = true then cut16 (allL l t s) s.frm s.many else allL l t s

theorem cut16_no {x : List UInt8} {f m : Int} (h : f < 0 ∨ (x.length : Int) < f ∨ m < 1) : cut16 x f m = [] := by unfold cut16; rw [if_pos h]
theorem cut16_yes {x : List UInt8} {f m : Int} (h : ¬ (f < 0 ∨ (x.length : Int) < f ∨ m < 1)) : cut16 x f m = (x.drop f.toNat).take m.toNat := by unfold cut16; rw [if_neg h]
theorem partsM_ok {n : Nat} {t : Tr} (h : okT n t) : ∀ q ∈ partsM t, okT n q := by
  intro q hq
  unfold partsM at hq
  split at hq
  · exact okK_mem (okT_open h).2 q hq
  · rw [List.mem_singleton.1 hq]
    exact h
theorem kidM_ok {n : Nat} {t : Tr} (h : okT n t) : ∀ q ∈ kidM t, okT n q := by
  intro q hq
  unfold kidM at hq
  split at hq
  · next k r hk => exact partsM_ok (okK_mem (okT_open h).2 k (by rw [hk]; exact List.mem_cons_self)) q hq
  · cases hq
theorem partsB_ok {n : Nat} (m : Bool) {t : Tr} (h : okT n t) : ∀ q ∈ partsB m t, okT n q := by
  intro q hq
  unfold partsB at hq
  split at hq
  · exact partsM_ok h q hq
  · unfold partsP at hq
    split at hq
    · exact okK_mem (okT_open h).2 q hq
    · split at hq
      · exact kidM_ok h q hq
      · cases hq
theorem nthT_mem {ts : List Tr} {n : Int} {q : Tr} (h : nthT ts n = some q) : q ∈ ts := by
  unfold nthT at h
  split at h
  · cases h
  · exact List.mem_of_getElem? h
theorem downT_ok {n : Nat} : ∀ (p : List Int) (m : Bool) (t q : Tr), okT n t → downT m t p = some q → okT n q
  | [], m, t, q, h, e => by cases e; exact h
  | x :: r, m, t, q, h, e => by
    unfold downT at e
    split at e
    · cases e
    · next u hu => exact downT_ok r false u q (partsB_ok m h u (nthT_mem hu)) e

/-! How long it is. -/
theorem pieces_len3 (l : List UInt8) (ns : List ByteArray) (but : Bool) : ∀ (fs : List Fld) (a b : Nat), chainF l a b fs → b ≤ l.length → (piecesL l ns but fs).length ≤ 3 * (b - a)
  | [], a, b, _, _ => by simp [piecesL]
  | x :: r, a, b, h, hb => by
    obtain ⟨h1, ⟨h2, h3, _⟩, h4⟩ := h
    have h5 := chainF_le h4
    have ih := pieces_len3 l ns but r x.t b h4 hb
    have hp : (fpcL l x).length ≤ (x.t - x.f) + 2 := by
      unfold fpcL
      rw [List.length_append, partS_len l (by omega)]
      split <;> simp
    have e : (piecesL l ns but (x :: r)).length ≤ (fpcL l x).length + (piecesL l ns but r).length := by
      rw [show x :: r = [x] ++ r from rfl, piecesL_app, List.length_append]
      have : (piecesL l ns but [x]).length ≤ (fpcL l x).length := by
        unfold piecesL
        by_cases hk : keepB ns but x = true
        · rw [List.filter_cons_of_pos hk]
          simp
        · rw [List.filter_cons_of_neg hk]
          simp
      omega
    omega
theorem fsOf_chainF (l : List UInt8) {f t : Nat} (hft : f ≤ t) (htl : t ≤ l.length) : chainF l f t (fsOf l f t) :=
  fieldsL_chain l htl (chainL_take _ (chainL_lines l _ f t (Nat.le_refl _) hft htl))
theorem fsOf_in (l : List UInt8) {f t : Nat} (hft : f ≤ t) (htl : t ≤ l.length) : inF l (fsOf l f t) := fun x hx => by
  obtain ⟨⟨h1, h2, _⟩, h3⟩ := chainF_all (fsOf_chainF l hft htl) x hx
  exact ⟨by omega, by omega⟩
theorem someS_len3 (l : List UInt8) (ns : List ByteArray) (but : Bool) {f t : Nat} (hft : f ≤ t) (htl : t ≤ l.length) : (someS l (fsOf l f t) ns but).length ≤ 3 * l.length + 2 := by
  have := pieces_len3 l ns but _ f t (fsOf_chainF l hft htl) htl
  unfold someS
  rw [List.length_append]
  simp only [List.length_cons, List.length_nil]
  omega
theorem partS_le (l : List UInt8) (a b : Nat) : (partS l a b).length ≤ l.length := by
  unfold partS
  rw [List.length_take, List.length_drop]
  omega
theorem msgL_len {l : List UInt8} {t : Tr} (s : Spc) (h : okT l.length t) : (msgL l t s).length ≤ 3 * l.length + 2 := by
  obtain ⟨⟨h1, h2, h3, h4⟩, _⟩ := okT_open h
  unfold msgL
  repeat' split
  · exact someS_len3 l _ _ h1 (by omega)
  · exact someS_len3 l _ _ h1 (by omega)
  all_goals
    have := partS_le l
    exact Nat.le_trans (this _ _) (by omega)
theorem prtL_len {l : List UInt8} {t : Tr} (s : Spc) (h : okT l.length t) : (prtL l t s).length ≤ 3 * l.length + 2 := by
  unfold prtL kidL
  repeat' split
  · exact Nat.le_trans (partS_le l _ _) (by omega)
  · exact Nat.le_trans (partS_le l _ _) (by omega)
  · next k r hk => exact msgL_len s (okK_mem (okT_open h).2 k (by rw [hk]; exact List.mem_cons_self))
  · simp
  · simp
theorem allL_len {l : List UInt8} {t : Tr} (s : Spc) (h : okT l.length t) : (allL l t s).length ≤ 3 * l.length + 2 := by
  unfold allL pathL
  repeat' split
  · exact msgL_len s h
  · simp
  · next q hq => exact prtL_len s (downT_ok _ _ _ _ h hq)
  · simp
end Go.Proofs.YtahmhakdpmcdoaaGreatDoor

/- What the laws of layer 16 say, in plain words. No program. -/
namespace Go.Proofs.YtahmhakdpmcdoaaGreatDoor
open Go Go.RowKit

theorem part_two (l : List UInt8) {a b c : Nat} (h1 : a ≤ b) (h2 : b ≤ c) : partS l a b ++ partS l b c = partS l a c := by
  unfold partS
  rw [show c - a = (b - a) + (c - b) by omega, List.take_add, List.drop_drop, show a + (b - a) = b by omega]
theorem part_whole (l : List UInt8) : partS l 0 l.length = l := by simp [partS]
/-- The whole tree's places. -/
theorem tree_root (l : List UInt8) : (treeS l).hd.1 = 0 ∧ (treeS l).bd.2 = l.length ∧ (treeS l).hd.2 = (treeS l).bd.1 := by
  obtain ⟨h1, h2, h3, _⟩ := tree_Q l
  exact ⟨h2, h3, (goodT_open h1).1.1⟩

/-! One more cut does not turn what is told. -/
theorem chk_cut (p : List Int) (q : Int) (ns : List (List UInt8)) {f m : Nat} (hf : f ≤ 4294967295) (h1 : 1 ≤ m) (h2 : m ≤ 4294967295) : checkS ⟨p, q, ns, true, (f : Int), (m : Int)⟩ = checkS ⟨p, q, ns, false, 0, 0⟩ := by
  have e : cutOk ⟨p, q, ns, true, (f : Int), (m : Int)⟩ = true := by
    show (numOk 0 (f : Int) && numOk 1 (m : Int)) = true
    unfold numOk
    rw [decide_eq_true (by omega), decide_eq_true (by omega), decide_eq_true (by omega), decide_eq_true (by omega)]
    rfl
  have e2 : cutOk ⟨p, q, ns, false, 0, 0⟩ = true := rfl
  unfold checkS
  rw [e, e2]
  rfl
theorem all_cut (l : List UInt8) (t : Tr) (p : List Int) (q : Int) (ns : List (List UInt8)) {f m : Nat} (hf : f ≤ 4294967295) (h1 : 1 ≤ m) (h2 : m ≤ 4294967295) : allL l t ⟨p, q, ns, true, (f : Int), (m : Int)⟩ = allL l t ⟨p, q, ns, false, 0, 0⟩ := by
  unfold allL
  rw [chk_cut p q ns hf h1 h2]
  rfl
theorem get_cut (l : List UInt8) (t : Tr) (p : List Int) (q : Int) (ns : List (List UInt8)) {f m : Nat} (hf : f ≤ 4294967295) (h1 : 1 ≤ m) (h2 : m ≤ 4294967295) : getL l t ⟨p, q, ns, true, (f : Int), (m : Int)⟩ = cut16 (allL l t ⟨p, q, ns, false, 0, 0⟩) f m := by
  show (if true = true then cut16 (allL l t ⟨p, q, ns, true, (f : Int), (m : Int)⟩) f m else _) = _
  rw [if_pos rfl, all_cut l t p q ns hf h1 h2]
theorem get_plain (l : List UInt8) (t : Tr) (p : List Int) (q : Int) (ns : List (List UInt8)) : getL l t ⟨p, q, ns, false, 0, 0⟩ = allL l t ⟨p, q, ns, false, 0, 0⟩ := by
  unfold getL
  rw [if_neg (fun h => Bool.noConfusion h)]
theorem cut_step (x : List UInt8) {f m : Nat} (hf : f ≤ x.length) (h1 : 1 ≤ m) : x.take f ++ cut16 x f m = x.take (f + m) := by
  rw [cut16_yes (by omega), List.take_add]
  simp
theorem cut_behind (x : List UInt8) {f m : Nat} (hf : x.length < f) : cut16 x f m = [] := cut16_no (by omega)

/-! A path of one number. -/
theorem chk_one {n : Int} (h1 : 1 ≤ n) (h2 : n ≤ 4294967295) (w : Int) (hw : w = 0 ∨ w = 1 ∨ w = 4 ∨ w = 5) : checkS ⟨[n], w, [], false, 0, 0⟩ = true := by
  have e : pathOk [n] = true := by
    unfold pathOk numOk
    simp only [List.all_cons, List.all_nil, decide_eq_true h1, decide_eq_true h2]
    rfl
  have e1 : whatOk ⟨[n], w, [], false, 0, 0⟩ = true := by rcases hw with rfl | rfl | rfl | rfl <;> rfl
  unfold checkS
  rw [e1]
  show (pathOk [n] && _) = true
  rw [e]
  rfl
theorem nth_at {ts : List Tr} {i : Nat} (h : i < ts.length) : nthT ts ((i : Int) + 1) = some ts[i] := by
  unfold nthT
  rw [if_neg (by omega), show ((i : Int) + 1).toNat - 1 = i by omega, List.getElem?_eq_getElem h]
theorem nth_none {ts : List Tr} {n : Nat} (h : ts.length < n) : nthT ts (n : Int) = none := by
  unfold nthT
  rw [if_neg (by omega), List.getElem?_eq_none (by omega)]
theorem get_one (l : List UInt8) (t : Tr) {n : Int} (h1 : 1 ≤ n) (h2 : n ≤ 4294967295) (w : Int) (hw : w = 0 ∨ w = 1 ∨ w = 4 ∨ w = 5) :
    getL l t ⟨[n], w, [], false, 0, 0⟩ = match nthT (partsM t) n with | none => [] | some q => prtL l q ⟨[n], w, [], false, 0, 0⟩ := by
  rw [get_plain]
  unfold allL
  rw [chk_one h1 h2 w hw, if_pos rfl, if_neg (by simp)]
  show (match (match nthT (partsB true t) n with | none => none | some q => downT false q []) with | none => [] | some q => prtL l q _) = _
  show (match (match nthT (partsM t) n with | none => none | some q => some q) with | none => [] | some q => prtL l q _) = _
  cases nthT (partsM t) n <;> rfl
theorem get_at (l : List UInt8) (t q : Tr) {n : Int} (h1 : 1 ≤ n) (h2 : n ≤ 4294967295) (w : Int) (hw : w = 0 ∨ w = 1 ∨ w = 4 ∨ w = 5) (h : nthT (partsM t) n = some q) : getL l t ⟨[n], w, [], false, 0, 0⟩ = prtL l q ⟨[n], w, [], false, 0, 0⟩ := by
  rw [get_one l t h1 h2 w hw, h]
theorem get_no (l : List UInt8) (t : Tr) {n : Int} (h1 : 1 ≤ n) (h2 : n ≤ 4294967295) (w : Int) (hw : w = 0 ∨ w = 1 ∨ w = 4 ∨ w = 5) (h : nthT (partsM t) n = none) : getL l t ⟨[n], w, [], false, 0, 0⟩ = [] := by
  rw [get_one l t h1 h2 w hw, h]
theorem get_top (l : List UInt8) (t : Tr) (w : Int) (hw : w = 0 ∨ w = 1 ∨ w = 4) : getL l t ⟨[], w, [], false, 0, 0⟩ = if w = 4 then partS l t.bd.1 t.bd.2 else if w = 0 then partS l t.hd.1 t.bd.2 else partS l t.hd.1 t.hd.2 := by
  rcases hw with rfl | rfl | rfl <;> rfl

/-! Fields. -/
theorem begun_no58 {l : List UInt8} {x : Ln} {f : Fld} (h : begunS l x = some f) : ∀ c ∈ f.nm, c ≠ 58 := by
  unfold begunS at h
  split at h
  · obtain rfl := Option.some.inj h
    intro c hc
    have h1 : c ∈ (textOf l x).take (colI (textOf l x)) := by
      have h2 : nameS (textOf l x) <+: (textOf l x).take (colI (textOf l x)) := by
        unfold nameS Lib.trimRightS
        have h3 := List.dropWhile_suffix (p := fun b => ([32, 9] : List UInt8).contains b) (l := ((textOf l x).take (colI (textOf l x))).reverse)
        have h4 := List.reverse_prefix.2 h3
        rwa [List.reverse_reverse] at h4
      exact h2.subset hc
    obtain ⟨i, hi, rfl⟩ := List.getElem_of_mem h1
    rw [List.getElem_take]
    have hi' : i < colI (textOf l x) := by rw [List.length_take] at hi; omega
    have := List.not_of_lt_findIdx (p := (· == (58 : UInt8))) (xs := textOf l x) hi'
    simpa using this
  · cases h
theorem goL_no58 (l : List UInt8) : ∀ (ls : List Ln) (o : Option Fld), (∀ f, o = some f → ∀ c ∈ f.nm, c ≠ 58) → ∀ f ∈ goL l o ls, ∀ c ∈ f.nm, c ≠ 58
  | [], o, ho, f, hf => by
    rw [goL_nil] at hf
    cases o with
    | none => cases hf
    | some g =>
      rw [List.mem_singleton.1 hf]
      exact ho g rfl
  | x :: r, o, ho, f, hf => by
    by_cases hon : onB l x = true
    · rw [goL_on hon] at hf
      refine goL_no58 l r _ ?_ f hf
      intro g hg
      cases o with
      | none => cases hg
      | some g' =>
        obtain rfl := Option.some.inj hg
        exact ho g' rfl
    · rw [goL_off (by simpa using hon), List.mem_append] at hf
      rcases hf with hf | hf
      · cases o with
        | none => cases hf
        | some g =>
          rw [List.mem_singleton.1 hf]
          exact ho g rfl
      · exact goL_no58 l r (begunS l x) (fun g hg => begun_no58 hg) f hf
theorem fsOf_no58 (l : List UInt8) (a b : Nat) : ∀ f ∈ fsOf l a b, ∀ c ∈ f.nm, c ≠ 58 := by
  unfold fsOf
  cases (linesS l a b).take (eI (linesS l a b)) with
  | nil => intro f hf; cases hf
  | cons x r => exact goL_no58 l r (begunS l x) (fun g hg => begun_no58 hg)
def colN : ByteArray := ⟨#[58]⟩
theorem low58 {c : UInt8} (h : lowB c = 58) : c = 58 := by
  have e := lowB_toNat c
  have h2 : (lowB c).toNat = 58 := by rw [h]; rfl
  apply toNat_eq
  have h58 : (58 : UInt8).toNat = 58 := rfl
  rw [h58]
  split at e <;> omega
theorem in_colon {nm : List UInt8} (h : ∀ c ∈ nm, c ≠ 58) : inS [colN] nm = false := by
  have e : sameB nm colN.data.toList = false := by
    unfold sameB
    refine decide_eq_false fun e => ?_
    have e' : foldS nm = [58] := e
    cases nm with
    | nil => cases e'
    | cons c r =>
      have e2 : lowB c :: foldS r = [58] := e'
      have := (List.cons.inj e2).1
      exact h c List.mem_cons_self (low58 this)
  unfold inS
  simp [e]
theorem pieces_all {l : List UInt8} {fs : List Fld} (h : ∀ f ∈ fs, ∀ c ∈ f.nm, c ≠ 58) : piecesL l [colN] true fs = piecesL l [] true fs ∧ piecesL l [colN] false fs = [] := by
  unfold piecesL
  have h1 : fs.filter (keepB [colN] true) = fs.filter (keepB [] true) := List.filter_congr fun x hx => by
    unfold keepB
    rw [in_colon (h x hx)]
    rfl
  have h2 : fs.filter (keepB [colN] false) = [] := List.filter_eq_nil_iff.2 fun x hx => by
    unfold keepB
    rw [in_colon (h x hx)]
    decide
  rw [h1, h2]
  exact ⟨rfl, rfl⟩
theorem pieces_both (l : List UInt8) (ns : List ByteArray) (fs : List Fld) : (piecesL l ns false fs).length + (piecesL l ns true fs).length = (piecesL l [] true fs).length := by
  induction fs with
  | nil => rfl
  | cons x r ih =>
    have e : ∀ (m : List ByteArray) (bt : Bool), (piecesL l m bt (x :: r)).length = (if keepB m bt x = true then (fpcL l x).length else 0) + (piecesL l m bt r).length := by
      intro m bt
      rw [show x :: r = [x] ++ r from rfl, piecesL_app, List.length_append]
      congr 1
      unfold piecesL
      by_cases hk : keepB m bt x = true
      · rw [List.filter_cons_of_pos hk, if_pos hk]
        simp
      · rw [List.filter_cons_of_neg hk, if_neg hk]
        rfl
    rw [e, e, e]
    have e3 : keepB [] true x = true := rfl
    rw [if_pos e3]
    unfold keepB
    cases inS ns x.nm <;> simp <;> omega
theorem chk_names {ns : List (List UInt8)} (w : Int) (hw : w = 2 ∨ w = 3) (h : namesOk ns = true) : checkS ⟨[], w, ns, false, 0, 0⟩ = true := by
  have e1 : whatOk ⟨[], w, ns, false, 0, 0⟩ = namesOk ns := by rcases hw with rfl | rfl <;> rfl
  unfold checkS
  rw [e1, h]
  rfl
theorem get_names (l : List UInt8) (t : Tr) {ns : List (List UInt8)} (w : Int) (hw : w = 2 ∨ w = 3) (h : namesOk ns = true) : getL l t ⟨[], w, ns, false, 0, 0⟩ = someS l (fsOf l t.hd.1 t.hd.2) (bsL ns) (decide (w = 3)) := by
  rw [get_plain]
  unfold allL
  rw [chk_names w hw h, if_pos rfl, if_pos rfl]
  rcases hw with rfl | rfl <;> rfl
/-- Some fields and the others are all. -/
theorem fields_law (l : List UInt8) (t : Tr) {ns : List (List UInt8)} (h : namesOk ns = true) :
    (getL l t ⟨[], 2, ns, false, 0, 0⟩).length + (getL l t ⟨[], 3, ns, false, 0, 0⟩).length = (getL l t ⟨[], 3, [[58]], false, 0, 0⟩).length + 2 ∧ getL l t ⟨[], 2, [[58]], false, 0, 0⟩ = [13, 10] := by
  have hc : namesOk [[58]] = true := by decide
  rw [get_names l t 2 (.inl rfl) h, get_names l t 3 (.inr rfl) h, get_names l t 3 (.inr rfl) hc, get_names l t 2 (.inl rfl) hc]
  have hp := pieces_all (l := l) (fsOf_no58 l t.hd.1 t.hd.2)
  have hb := pieces_both l (bsL ns) (fsOf l t.hd.1 t.hd.2)
  have e : bsL [[58]] = [colN] := rfl
  have d2 : decide ((2 : Int) = 3) = false := by decide
  have d3 : decide ((3 : Int) = 3) = true := by decide
  rw [e, d2, d3]
  unfold someS
  rw [hp.1, hp.2]
  refine ⟨?_, rfl⟩
  simp only [List.length_append, List.length_cons, List.length_nil]
  omega
end Go.Proofs.YtahmhakdpmcdoaaGreatDoor
