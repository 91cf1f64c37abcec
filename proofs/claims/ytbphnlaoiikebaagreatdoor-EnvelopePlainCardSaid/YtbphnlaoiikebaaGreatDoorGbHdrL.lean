/- A small law of my own, of no function: bytes that came in, nil or not, appended to a row of the call's own. -/
import Derived.Test.YtbphnlaoiikebaaGreatDoorGbParC
import Derived.Laws.OwnMore
import Derived.OwnWalk
import Derived.Test.YtbphnlaoiikebaaGreatDoorGbHdrG
import Derived.Lib.AppendStr
import Derived.Lib.SlBytesConst
namespace Go.Proofs.YtbphnlaoiikebaaGreatDoor
open Go Go.RowKit

theorem run_append_none_any {P : Program} {w : World} (base : Nat) (t ty e : TypeId) (i : TypeInfo) (size c : Nat) (ht : P.underlying t = some (.slice e)) (hi : P.info? e = some i)
    (v : Value) (n : Nat) (xs : List Value) (hown : w.ownsRow base e size v n xs) :
    (Builtin.append_ #[t, t] ty #[v, .slice none 0 c]).run P w = .ok v w := by
  rcases hown.2 with ⟨rfl, rfl⟩ | ⟨g, cap, cur, rfl, _, _, hnc, _⟩
  · simp [Builtin.append_, run_underlying ht, sizeOf, typeInfo, hi, Builtin.lenOf, Builtin.firstCells]
  · simp [Builtin.append_, run_underlying ht, sizeOf, typeInfo, hi, Builtin.lenOf, Builtin.firstCells, hnc, storeCells]

theorem wpList_append_bytes {P : Program} {w : World} {ops : Array Oper} {rest : List Oper} {o : Oper} {a : Act} {Q : Exit → Act → World → Prop} (hgd : o.guard = none) (s x : Operand) (t : TypeId)
    (ho : o.op = .call { callee := .builtin .append, args := #[s, x], argTypes := #[t, t] })
    (base : Nat) (e : TypeId) (i : TypeInfo) (ht : P.underlying t = some (.slice e)) (hi : P.info? e = some i) (hz : i.zero = some (.int .u8 0)) (hsize : i.size = 1) (hby : i.bytes = 1)
    (v : Value) (n : Nat) (xs : List Value) (hs : a.eval s = v) (hown : w.ownsRow base e 1 v n xs)
    (ao : Option Addr) (c : Nat) (l : List UInt8) (hx : a.eval x = .slice ao l.length c) (hsl : sliceAt w ao l) (h63 : n + l.length ≤ 1048576) (hbase : base ≤ w.heap.size)
    (h : ∀ v' w', w'.ownsRow base e 1 v' (n + l.length) (xs ++ l.map byteV) → w.grownBy w' v.ownBlock → wpList P ops Q rest (a.put o.dst v') w') : wpList P ops Q (o :: rest) a w := by
  rcases ao with _ | ad
  · obtain rfl : l = [] := by
      rcases hsl with h | ⟨b, off, h, _⟩
      · exact h
      · cases h
    refine wpList_plain hgd fun K hK => ?_
    have hrun := run_append_none_any (P := P) (w := w) base t o.type e i 1 c ht hi v n xs hown
    have hx' : a.eval x = .slice none 0 c := hx
    unfold Oper.wp
    simp [execOp, ho, resolve, invoke, builtin, hs, hx', hrun, Result.andThen]
    refine hK _ _ (h v w ?_ (World.grownBy.refl _ _))
    simpa using hown
  · refine wpList_append_own _ hgd s x t ho base e i (.int .u8 0) 1 1 ht hi hz hsize hby rfl (by decide) v n xs hs hown ad l.length c (l.map byteV) hx (by simp) ?_ (news_one l) (by unfold maxLen; omega) (by omega) hbase (fun v' w' h1 h2 _ => h v' w' h1 h2)
    rcases hsl with rfl | ⟨b, off, e', hlt, hc⟩
    · intro j u hu
      simp at hu
    · cases e'
      exact sliceAt.news (.inr ⟨b, off, rfl, hlt, hc⟩)
end Go.Proofs.YtbphnlaoiikebaaGreatDoor

/- Contracts of package header: Some. -/
namespace Go.Proofs.YtbphnlaoiikebaaGreatDoor
open Go Go.RowKit

def endsBH (p : List UInt8) : Bool := decide (0 < p.length ∧ p.getD (p.length - 1) 0 = 10)
/-- A field's bytes, and an end where they have none. -/
def pieceLH (l : List UInt8) (x : Fld) : List UInt8 := partS l x.f x.t ++ (if endsBH (partS l x.f x.t) = true then [] else [13, 10])
def keepB (ns : List ByteArray) (but : Bool) (x : Fld) : Bool := !(inS ns x.nm == but)
def piecesL (l : List UInt8) (ns : List ByteArray) (but : Bool) (fs : List Fld) : List UInt8 := ((fs.filter (keepB ns but)).map (pieceLH l)).flatten
def someS (l : List UInt8) (fs : List Fld) (ns : List ByteArray) (but : Bool) : List UInt8 := piecesL l ns but fs ++ [13, 10]
theorem piecesL_app (l : List UInt8) (ns : List ByteArray) (but : Bool) (a b : List Fld) : piecesL l ns but (a ++ b) = piecesL l ns but a ++ piecesL l ns but b := by
  unfold piecesL
  rw [List.filter_append, List.map_append, List.flatten_append]
theorem piecesL_yes {l : List UInt8} {ns : List ByteArray} {but : Bool} {fs : List Fld} {i : Nat} (h : i < fs.length) (hk : keepB ns but fs[i] = true) : piecesL l ns but (fs.take (i + 1)) = piecesL l ns but (fs.take i) ++ pieceLH l fs[i] := by
  rw [List.take_succ_eq_append_getElem h, piecesL_app]
  congr 1
  unfold piecesL
  rw [List.filter_cons_of_pos hk]
  simp
theorem piecesL_no {l : List UInt8} {ns : List ByteArray} {but : Bool} {fs : List Fld} {i : Nat} (h : i < fs.length) (hk : keepB ns but fs[i] = false) : piecesL l ns but (fs.take (i + 1)) = piecesL l ns but (fs.take i) := by
  rw [List.take_succ_eq_append_getElem h, piecesL_app]
  have : piecesL l ns but [fs[i]] = [] := by
    unfold piecesL
    rw [List.filter_cons_of_neg (by rw [hk]; decide)]
    rfl
  rw [this, List.append_nil]
theorem piecesL_len (l : List UInt8) (ns : List ByteArray) (but : Bool) (fs : List Fld) (k : Nat) : (piecesL l ns but (fs.take k)).length ≤ (piecesL l ns but fs).length := by
  have : piecesL l ns but fs = piecesL l ns but (fs.take k) ++ piecesL l ns but (fs.drop k) := by rw [← piecesL_app, List.take_append_drop]
  rw [this, List.length_append]
  omega
theorem suffix_10 (p : List UInt8) : Lib.hasSuffix p [10] = endsBH p := by
  unfold Lib.hasSuffix endsBH
  rw [Bool.eq_iff_iff, List.isSuffixOf_iff_suffix, decide_eq_true_iff]
  constructor
  · rintro ⟨t, rfl⟩
    simp [List.getD]
  · rintro ⟨h1, h2⟩
    refine ⟨p.take (p.length - 1), ?_⟩
    rw [List.getD_eq_getElem?_getD, List.getElem?_eq_getElem (by omega)] at h2
    simp only [Option.getD_some] at h2
    have := List.take_succ_eq_append_getElem (l := p) (i := p.length - 1) (by omega)
    rw [h2, show p.length - 1 + 1 = p.length by omega, List.take_length] at this
    exact this.symm
theorem ends_any (po : Option Addr) (n c B : Nat) (p : List UInt8) (w : World) (hn : p.length = n) (hc : n ≤ c) (hm : c ≤ maxLen) (hs : sliceAt w po p) (hB : sliceAt w (some ⟨B, 0, none⟩) [10]) :
    Calls Tryz.prog 175 #[.slice po n c, .slice (some ⟨B, 0, none⟩) 1 1] w fun e w' => e = .returned (.bool (endsBH p)) ∧ w = w' := by
  subst hn
  refine (Tryz.bytes_HasSuffix_all po (some ⟨B, 0, none⟩) p.length c 1 1 (intsOf p) (intsOf [10]) w (intsOf_len p) (intsOf_len [10]) hc (by unfold maxLen at hm; omega) hs.ints hB.ints).mono ?_
  rintro e w' ⟨rfl, rfl⟩
  rw [bytesOf_ints, bytesOf_ints, suffix_10]
  exact ⟨rfl, rfl⟩
/-- Fields within the bytes. -/
def inF (l : List UInt8) (fs : List Fld) : Prop := ∀ x ∈ fs, x.f ≤ x.t ∧ x.t ≤ l.length

theorem strsArg.below {W W' : World} {v : Value} {ls : List ByteArray} (h : strsArg W v ls) (hb : Below W.heap.size W W') : strsArg W' v ls := by
  obtain ⟨ao, cap, e, h1, h2, h3, h4⟩ := h
  refine ⟨ao, cap, e, h1, h2, h3, h4.imp id ?_⟩
  rintro ⟨b, off, e, hlt, hc⟩
  exact ⟨b, off, e, Nat.lt_of_lt_of_le hlt hb.size, fun j hj => (hb.cell (p := ⟨b, off + j, none⟩) hlt).trans (hc j hj)⟩
theorem box4_cells {W W' : World} {t : TypeId} {a b c d : Value} (h : Below (W.alloc (.cells #[a, b, c, d] t)).heap.size (W.alloc (.cells #[a, b, c, d] t)) W') :
    W'.cell? ⟨W.heap.size, 0, none⟩ = some a ∧ W'.cell? ⟨W.heap.size, 1, none⟩ = some b ∧ W'.cell? ⟨W.heap.size, 2, none⟩ = some c ∧ W'.cell? ⟨W.heap.size, 3, none⟩ = some d := by
  have e : W'.heap[W.heap.size]? = some (.cells #[a, b, c, d] t (0, 0)) := (h.block _ (by simp)).trans (heap_alloc_new W _)
  simp [World.cell?, e]
theorem keepB_yes {ns : List ByteArray} {but z : Bool} {x : Fld} (hz : z = inS ns x.nm) (h : (z == but) = false) : keepB ns but x = true := by
  unfold keepB
  rw [← hz, h]
  rfl
theorem keepB_no {ns : List ByteArray} {but z : Bool} {x : Fld} (hz : z = inS ns x.nm) (h : (z == but) = true) : keepB ns but x = false := by
  unfold keepB
  rw [← hz, h]
  rfl
end Go.Proofs.YtbphnlaoiikebaaGreatDoor

/- The laws of layer 6 (header): the document's example. -/
namespace Go.Proofs.YtbphnlaoiikebaaGreatDoor
open Go Go.RowKit

theorem of_whole (v : Value) (l : List UInt8) (w : World) (hv : bytesArg w v l) (hbig : l.length ≤ 1048576) :
    Calls Tryz.prog 21 #[v, .agg #[.int .i64 0, .int .i64 (l.length : Int)]] w (OfPost l (linesS l 0 l.length) l.length w) :=
  of_walk v l 0 l.length w hv (Nat.zero_le _) (Nat.le_refl _) hbig
def exB : List UInt8 := [65, 58, 32, 98, 10, 32, 99, 10, 10, 120]
def exF : Fld := ⟨[65], 0, 2, 8⟩
theorem ex_fields : fieldsL exB ((linesS exB 0 10).take (eI (linesS exB 0 10))) = [exF] := by rfl
theorem ex_behind : behindN (linesS exB 0 10) 10 = 9 := by rfl
theorem ex_body : bodyS exB 2 8 = [98, 32, 99] := by rfl
theorem ex_value : valueS exB [exF] [97] = [98, 32, 99] := by rfl
theorem ex_some : someS exB [exF] [⟨#[97]⟩] false = [65, 58, 32, 98, 10, 32, 99, 10, 13, 10] := by rfl
theorem ex_row (w : World) (t : TypeId) (fr : Nat × Nat) : bytesArg (w.alloc (.cells #[.int .u8 65, .int .u8 58, .int .u8 32, .int .u8 98, .int .u8 10, .int .u8 32, .int .u8 99, .int .u8 10, .int .u8 10, .int .u8 120] t fr)) (.slice (some ⟨w.heap.size, 0, none⟩) 10 10) exB :=
  sliceAt.arg (l := exB) (sliceAt_new w t fr _ exB rfl) (Nat.le_refl _) (by unfold maxLen; decide)
theorem ex_short : shortF [exF] := by
  intro x hx
  rw [List.mem_singleton.1 hx]
  decide
theorem ex_in : inF exB [exF] := by
  intro x hx
  rw [List.mem_singleton.1 hx]
  decide
theorem ex_names (w : World) (t : TypeId) (fr : Nat × Nat) : strsArg (w.alloc (.cells #[.string ⟨#[97]⟩] t fr)) (.slice (some ⟨w.heap.size, 0, none⟩) 1 1) [⟨#[97]⟩] := by
  refine ⟨_, 1, rfl, Nat.le_refl _, by unfold maxLen; decide, ?_, .inr ⟨w.heap.size, 0, rfl, by simp, ?_⟩⟩
  · intro s hs
    rw [List.mem_singleton.1 hs]
    unfold maxLen
    decide
  · intro j hj
    obtain rfl : j = 0 := by simp at hj; omega
    have h := heap_alloc_new w (.cells #[.string ⟨#[97]⟩] t fr)
    show (w.alloc (.cells #[.string ⟨#[97]⟩] t fr)).cell? ⟨w.heap.size, 0, none⟩ = some (.string ⟨#[97]⟩)
    simp only [World.cell?]
    rw [h]
    rfl

end Go.Proofs.YtbphnlaoiikebaaGreatDoor

/- Plain words for HeaderOrder: a body has no line feed; fields of some names and the others are all. -/
namespace Go.Proofs.YtbphnlaoiikebaaGreatDoor
open Go Go.RowKit

/-- Where the head of all bytes ends. -/
theorem head_chain (l : List UInt8) : chainL 0 (behindN (linesS l 0 l.length) l.length) ((linesS l 0 l.length).take (eI (linesS l 0 l.length))) ∧ behindN (linesS l 0 l.length) l.length ≤ l.length := by
  have hc := chainL_lines l _ 0 l.length (Nat.le_refl _) (Nat.zero_le _) (Nat.le_refl _)
  unfold behindN
  split
  · next h => exact ⟨chainL_head _ h hc, (chainL_at _ h hc).2.2.2⟩
  · exact ⟨chainL_take _ hc, Nat.le_refl _⟩
theorem linesS_plain (l : List UInt8) : ∀ (q a b : Nat), b - a ≤ q → b ≤ l.length → ∀ x ∈ linesS l a b, ∀ k, x.f ≤ k → k < x.t → ¬ l.getD k 0 = 10
  | q, a, b, hq, hb => by
    rcases Nat.lt_or_ge a b with h | h
    · have hF := firstS_bounds l h
      rw [linesS_step l h hb]
      intro x hx k h1 h2
      rcases List.mem_cons.1 hx with rfl | hx
      · exact firstS_plain l (by rw [hF.1] at h1; exact h1) h2
      · cases q with
        | zero => omega
        | succ q => exact linesS_plain l q _ b (by have := hF.2.2.2.1; omega) hb x hx k h1 h2
    · rw [linesS_nil l (by omega)]
      intro x hx
      cases hx
theorem trimS_mem {l : List UInt8} {c : UInt8} (h : c ∈ trimS l) : c ∈ l := by
  obtain ⟨a, b, e, _⟩ := trim_parts l
  rw [e]
  exact List.mem_append_left _ (List.mem_append_right _ h)
theorem bodyS_plain (l : List UInt8) (b t : Int) : ∀ c ∈ bodyS l b t, c ≠ 10 := by
  intro c hc
  have h1 := trimS_mem hc
  unfold textsL at h1
  obtain ⟨p, hp, hcp⟩ := List.mem_flatten.1 h1
  obtain ⟨x, hx, rfl⟩ := List.mem_map.1 hp
  have hbd := linesZ_bounds hx
  obtain ⟨j, hj, rfl⟩ := List.getElem_of_mem hcp
  have hlen := textOf_len (l := l) (x := x) (by omega)
  have hat := textOf_at (l := l) (x := x) (j := j) (by omega)
  rw [List.getD_eq_getElem?_getD, List.getElem?_eq_getElem hj] at hat
  simp only [Option.getD_some] at hat
  rw [hat]
  unfold linesZ at hx
  split at hx
  · next hw =>
    have hw := of_decide_eq_true hw
    exact linesS_plain l _ _ _ (Nat.le_refl _) (by omega) x hx (x.f + j) (by omega) (by omega)
  · cases hx
theorem piecesL_both (l : List UInt8) (ns : List ByteArray) (fs : List Fld) : (piecesL l ns false fs).length + (piecesL l ns true fs).length = (piecesL l [] true fs).length := by
  induction fs with
  | nil => rfl
  | cons x r ih =>
    have e : ∀ (m : List ByteArray) (bt : Bool), (piecesL l m bt (x :: r)).length = (if keepB m bt x = true then (pieceLH l x).length else 0) + (piecesL l m bt r).length := by
      intro m bt
      rw [show x :: r = [x] ++ r from rfl, piecesL_app, List.length_append]
      congr 1
      unfold piecesL
      by_cases hk : keepB m bt x = true
      · rw [List.filter_cons_of_pos hk, if_pos hk]
        simp
      · rw [List.filter_cons_of_neg hk, if_neg hk]
        rfl
    rw [e, e, e]
    have e3 : keepB [] true x = true := rfl
    rw [if_pos e3]
    unfold keepB
    cases inS ns x.nm <;> simp <;> omega
theorem piecesL_bound (l : List UInt8) (ns : List ByteArray) (but : Bool) (fs : List Fld) (h : inF l fs) : (piecesL l ns but fs).length ≤ fs.length * (l.length + 2) := by
  induction fs with
  | nil => simp [piecesL]
  | cons x r ih =>
    have ih' := ih (fun y hy => h y (List.mem_cons_of_mem _ hy))
    have hx := h x (List.mem_cons_self ..)
    have hp : (pieceLH l x).length ≤ l.length + 2 := by
      unfold pieceLH
      rw [List.length_append, partS_len l hx.2]
      split <;> simp <;> omega
    have e : (piecesL l ns but (x :: r)).length ≤ (pieceLH l x).length + (piecesL l ns but r).length := by
      rw [show x :: r = [x] ++ r from rfl, piecesL_app, List.length_append]
      have : (piecesL l ns but [x]).length ≤ (pieceLH l x).length := by
        unfold piecesL
        by_cases hk : keepB ns but x = true
        · rw [List.filter_cons_of_pos hk]
          simp
        · rw [List.filter_cons_of_neg hk]
          simp
      omega
    rw [List.length_cons, Nat.add_mul]
    omega
theorem trimS_len (l : List UInt8) : (trimS l).length ≤ l.length := by
  obtain ⟨a, b, e, _⟩ := trim_parts l
  have := congrArg List.length e
  simp only [List.length_append] at this
  omega
theorem textsL_bound (l : List UInt8) : ∀ ls : List Ln, (∀ x ∈ ls, x.t ≤ l.length) → (textsL l ls).length ≤ ls.length * l.length
  | [], _ => by simp [textsL]
  | x :: r, h => by
    have ih := textsL_bound l r (fun y hy => h y (List.mem_cons_of_mem _ hy))
    have hx := textOf_len (h x (List.mem_cons_self ..))
    have hx2 := h x (List.mem_cons_self ..)
    have e : (textsL l (x :: r)).length = (textOf l x).length + (textsL l r).length := by simp [textsL]
    rw [e, List.length_cons, Nat.add_mul]
    omega
theorem bodyS_len (l : List UInt8) (b t : Int) : (bodyS l b t).length ≤ l.length * l.length := by
  have h1 := trimS_len (textsL l (linesZ l b t))
  have h2 := textsL_bound l (linesZ l b t) (fun x hx => by have := linesZ_bounds hx; omega)
  have h3 := Nat.mul_le_mul_right l.length (linesZ_len l b t)
  unfold bodyS
  omega
end Go.Proofs.YtbphnlaoiikebaaGreatDoor

/- Plain words for HeaderFolds: the text, its lines, its fields. -/
namespace Go.Proofs.YtbphnlaoiikebaaGreatDoor
open Go Go.RowKit

/-- Lines with their ends. -/
def joinC (tx : List (List UInt8)) : List UInt8 := (tx.map fun t => t ++ [13, 10]).flatten
/-- Where such lines stand. -/
def posL : Nat → List (List UInt8) → List Ln
  | _, [] => []
  | a, t :: r => ⟨a, a + t.length, a + t.length + 2⟩ :: posL (a + t.length + 2) r
def plainT (tx : List (List UInt8)) : Prop := ∀ t ∈ tx, ∀ c ∈ t, plainB c = true
theorem joinC_cons (t : List UInt8) (r : List (List UInt8)) : joinC (t :: r) = t ++ [13, 10] ++ joinC r := by simp [joinC]
theorem joinC_app (a b : List (List UInt8)) : joinC (a ++ b) = joinC a ++ joinC b := by simp [joinC]
theorem lines_join : ∀ (tx : List (List UInt8)) (p s : List UInt8), plainT tx →
    linesS (p ++ joinC tx ++ s) p.length (p ++ joinC tx ++ s).length = posL p.length tx ++ linesS (p ++ joinC tx ++ s) (p ++ joinC tx).length (p ++ joinC tx ++ s).length
  | [], p, s, _ => by simp [joinC, posL]
  | t :: r, p, s, h => by
    have h1 := line_here p t (joinC r ++ s) true (h t (List.mem_cons_self ..))
    have e : p ++ (t ++ (if true = true then [13, 10] else [10]) ++ (joinC r ++ s)) = p ++ joinC (t :: r) ++ s := by
      rw [joinC_cons]
      simp
    have ih := lines_join r (p ++ t ++ [13, 10]) s (fun u hu => h u (List.mem_cons_of_mem _ hu))
    have e2 : p ++ t ++ [13, 10] ++ joinC r ++ s = p ++ joinC (t :: r) ++ s := by
      rw [joinC_cons]
      simp
    have e3 : (p ++ t ++ [13, 10]).length = p.length + t.length + 2 := by simp; omega
    have e4 : p ++ t ++ [13, 10] ++ joinC r = p ++ joinC (t :: r) := by
      rw [joinC_cons]
      simp
    rw [e] at h1
    rw [e2, e3, e4] at ih
    rw [h1]
    show _ :: linesS (p ++ joinC (t :: r) ++ s) (p.length + t.length + 2) _ = _
    rw [ih]
    rfl
theorem scanL_take (l : List UInt8) (b : Nat) : ∀ (k a i : Nat), i + k = b → scanL (l.take b) k a i = scanL l k a i
  | 0, a, i, _ => rfl
  | k + 1, a, i, h => by
    have g : ∀ j, j < b → (l.take b).getD j 0 = l.getD j 0 := by
      intro j hj
      rw [List.getD_eq_getElem?_getD, List.getD_eq_getElem?_getD, List.getElem?_take, if_pos hj]
    have e : endA (l.take b) a i = endA l a i := by
      unfold endA
      by_cases ha : a < i
      · rw [g (i - 1) (by omega)]
      · rw [if_neg (fun h => ha h.1), if_neg (fun h => ha h.1)]
    rw [scanL, scanL, g i (by omega), e, scanL_take l b k (i + 1) (i + 1) (by omega), scanL_take l b k a (i + 1) (by omega)]
theorem linesS_take (l : List UInt8) {a b : Nat} (h : a ≤ b) : linesS l a b = linesS (l.take b) a b := by
  unfold linesS
  rw [scanL_take l b (b - a) a a (by omega)]
theorem textOf_take {l : List UInt8} {b : Nat} {x : Ln} (h : x.t ≤ b) : textOf (l.take b) x = textOf l x := by
  unfold textOf partS
  rw [List.drop_take, List.take_take]
  congr 1
  omega
theorem posL_texts : ∀ (tx : List (List UInt8)) (p s : List UInt8), (posL p.length tx).map (textOf (p ++ joinC tx ++ s)) = tx
  | [], _, _ => rfl
  | t :: r, p, s => by
    have ih := posL_texts r (p ++ t ++ [13, 10]) s
    have e2 : p ++ t ++ [13, 10] ++ joinC r ++ s = p ++ joinC (t :: r) ++ s := by
      rw [joinC_cons]
      simp
    have e3 : (p ++ t ++ [13, 10]).length = p.length + t.length + 2 := by simp; omega
    rw [e2, e3] at ih
    show textOf _ _ :: (posL (p.length + t.length + 2) r).map _ = _
    rw [ih]
    congr 1
    have e : p ++ joinC (t :: r) ++ s = p ++ (t ++ ([13, 10] ++ joinC r ++ s)) := by
      rw [joinC_cons]
      simp
    rw [e]
    exact partS_mid p t _
/-- The body of a field whose text stands in lines with their ends, up to there. -/
theorem bodyS_join (tx : List (List UInt8)) (p s : List UInt8) (h : plainT tx) : bodyS (p ++ joinC tx ++ s) (p.length : Int) ((p ++ joinC tx).length : Int) = trimS tx.flatten := by
  obtain ⟨l, hl⟩ : ∃ l, l = p ++ joinC tx ++ s := ⟨_, rfl⟩
  have hle : (p ++ joinC tx).length ≤ l.length := by rw [hl]; simp only [List.length_append]; omega
  have hpe : p.length ≤ (p ++ joinC tx).length := by simp only [List.length_append]; omega
  have htk : l.take (p ++ joinC tx).length = p ++ joinC tx := by rw [hl, List.take_left]
  have h1 := lines_join tx p [] h
  rw [List.append_nil] at h1
  rw [linesS_nil _ (Nat.lt_irrefl _), List.append_nil] at h1
  have h2 := posL_texts tx p s
  rw [← hl] at h2 ⊢
  unfold bodyS textsL
  congr 2
  have hz : linesZ l (p.length : Int) ((p ++ joinC tx).length : Int) = posL p.length tx := by
    unfold linesZ
    rw [if_pos (withinB_yes ⟨by omega, by omega, by omega⟩)]
    simp only [Int.toNat_natCast]
    rw [linesS_take l hpe, htk, h1]
  rw [hz, h2]

theorem posL_len : ∀ (a : Nat) (tx : List (List UInt8)), (posL a tx).length = tx.length
  | _, [] => rfl
  | a, t :: r => by
    show (posL _ r).length + 1 = _
    rw [posL_len _ r, List.length_cons]
theorem posL_app : ∀ (u v : List (List UInt8)) (a : Nat), posL a (u ++ v) = posL a u ++ posL (a + (joinC u).length) v
  | [], v, a => by simp [joinC, posL]
  | t :: r, v, a => by
    show _ :: posL (a + t.length + 2) (r ++ v) = _ :: (posL (a + t.length + 2) r ++ _)
    rw [posL_app r v, joinC_cons]
    congr 3
    simp
    omega
theorem eI_here {A r : List Ln} {x : Ln} (hA : ∀ y ∈ A, y.f ≠ y.t) (hx : x.f = x.t) : eI (A ++ x :: r) = A.length := by
  unfold eI
  induction A with
  | nil =>
    rw [List.nil_append, List.findIdx_cons]
    have : (x.f == x.t) = true := by simpa using hx
    rw [this]
    rfl
  | cons y A ih =>
    rw [List.cons_append, List.findIdx_cons]
    have : (y.f == y.t) = false := by simpa using hA y (List.mem_cons_self ..)
    rw [this]
    simp only [cond_false, List.length_cons]
    rw [ih (fun z hz => hA z (List.mem_cons_of_mem _ hz))]
theorem posL_texted : ∀ (tx : List (List UInt8)) (a : Nat), (∀ t ∈ tx, t ≠ []) → ∀ y ∈ posL a tx, y.f ≠ y.t
  | [], _, _ => fun y hy => by cases hy
  | t :: r, a, h => fun y hy => by
    rcases List.mem_cons.1 hy with rfl | hy
    · have := List.length_pos_iff.2 (h t (List.mem_cons_self ..))
      simp only
      omega
    · exact posL_texted r _ (fun u hu => h u (List.mem_cons_of_mem _ hu)) y hy
theorem onB_text {l : List UInt8} {x : Ln} {c : UInt8} {r : List UInt8} (h : textOf l x = c :: r) : onB l x = blk c := by
  unfold onB
  have h1 : (textOf l x).getD 0 0 = c := by rw [h]; rfl
  have h2 : 0 < x.t - x.f := by
    have := congrArg List.length h
    unfold textOf partS at this
    rw [List.length_take, List.length_cons] at this
    omega
  rw [textOf_at h2, Nat.add_zero] at h1
  rw [h1]
/-- Lines that go on, at the front. -/
theorem goL_run (l : List UInt8) (z : List Ln) : ∀ (tx : List (List UInt8)) (a : Nat) (f : Fld), f.t = a → (∀ y ∈ posL a tx, onB l y = true) → goL l (some f) (posL a tx ++ z) = goL l (some { f with t := a + (joinC tx).length }) z
  | [], a, f, hf, _ => by
    subst hf
    rfl
  | t :: r, a, f, hf, h => by
    have ih := goL_run l z r (a + t.length + 2) { f with t := a + t.length + 2 } rfl (fun y hy => h y (List.mem_cons_of_mem _ hy))
    show goL l (some f) (⟨a, a + t.length, a + t.length + 2⟩ :: (posL (a + t.length + 2) r ++ z)) = _
    rw [goL_on (h _ (List.mem_cons_self ..))]
    show goL l (some { f with t := a + t.length + 2 }) _ = _
    rw [ih, joinC_cons]
    congr 3
    simp
    omega

/-- A piece as the law has it: some bytes that are seen. -/
def goodT (t : List UInt8) : Prop := t ≠ [] ∧ ∀ c ∈ t, 33 ≤ c.toNat ∧ c.toNat ≤ 126
theorem good_plain {c : UInt8} (h : 33 ≤ c.toNat ∧ c.toNat ≤ 126) : plainB c = true := by
  rw [plainB_iff]
  exact ⟨fun e => by subst e; revert h; decide, fun e => by subst e; revert h; decide⟩
theorem good_blk {c : UInt8} (h : 33 ≤ c.toNat ∧ c.toNat ≤ 126) : blk c = false := by
  unfold blk
  exact decide_eq_false (by omega)
def nX : List UInt8 := [88, 45, 66, 101, 102, 111, 114, 101, 58, 32, 49]
def nS : List UInt8 := [83, 117, 98, 106, 101, 99, 116, 58]
def nA : List UInt8 := [88, 45, 65, 102, 116, 101, 114, 58, 32, 50]
def bodyW : List UInt8 := [98, 111, 100, 121]
/-- What stands behind 'Subject:', line by line. -/
def tbL (tl : List (List UInt8)) : List (List UInt8) := if tl = [] then [[]] else tl.map fun t => 32 :: t
def p21 : List UInt8 := nX ++ [13, 10] ++ nS
def textF (tl : List (List UInt8)) : List UInt8 := p21 ++ joinC (tbL tl) ++ (nA ++ [13, 10] ++ [13, 10] ++ bodyW)
def subE (tl : List (List UInt8)) : Nat := (p21 ++ joinC (tbL tl)).length
def wantL (tl : List (List UInt8)) : List UInt8 := ((tl.map fun t => 32 :: t).flatten).drop 1
/-- The texts of its lines, up to the first without text. -/
def subLH : List (List UInt8) → List (List UInt8)
  | [] => [nS]
  | t :: r => (nS ++ 32 :: t) :: r.map fun t => 32 :: t
theorem textF_lines (tl : List (List UInt8)) : textF tl = joinC ((nX :: (subLH tl ++ [nA])) ++ [[]]) ++ bodyW := by
  unfold textF p21 tbL
  cases tl with
  | nil => simp [joinC, subLH]
  | cons t r => simp [joinC, subLH]
theorem subE_eq (tl : List (List UInt8)) : subE tl = 13 + (joinC (subLH tl)).length := by
  unfold subE p21 tbL
  cases tl with
  | nil => rfl
  | cons t r => simp [joinC, subLH, nX, nS]; omega
theorem tbL_plain {tl : List (List UInt8)} (h : ∀ t ∈ tl, goodT t) : plainT (tbL tl) := by
  unfold tbL
  intro t ht c hc
  split at ht
  · rw [List.mem_singleton.1 ht] at hc
    cases hc
  · obtain ⟨u, hu, rfl⟩ := List.mem_map.1 ht
    rcases List.mem_cons.1 hc with rfl | hc
    · decide
    · exact good_plain ((h u hu).2 c hc)
theorem subL_plain {tl : List (List UInt8)} (h : ∀ t ∈ tl, goodT t) : plainT (subLH tl) := by
  cases tl with
  | nil =>
    intro t ht c hc
    rw [List.mem_singleton.1 ht] at hc
    revert c
    decide
  | cons u r =>
    intro t ht c hc
    rcases List.mem_cons.1 ht with rfl | ht
    · rcases List.mem_append.1 hc with hc | hc
      · exact (by decide : ∀ c ∈ nS, plainB c = true) c hc
      · rcases List.mem_cons.1 hc with rfl | hc
        · decide
        · exact good_plain ((h u (List.mem_cons_self ..)).2 c hc)
    · obtain ⟨v, hv, rfl⟩ := List.mem_map.1 ht
      rcases List.mem_cons.1 hc with rfl | hc
      · decide
      · exact good_plain ((h v (List.mem_cons_of_mem _ hv)).2 c hc)
theorem subL_parts (tl : List (List UInt8)) : ∃ q rest, subLH tl = (nS ++ q) :: rest ∧ ∀ t ∈ rest, ∃ u, t = 32 :: u := by
  cases tl with
  | nil => exact ⟨[], [], rfl, fun _ h => by cases h⟩
  | cons t r =>
    refine ⟨32 :: t, r.map fun t => 32 :: t, rfl, fun u hu => ?_⟩
    obtain ⟨v, _, rfl⟩ := List.mem_map.1 hu
    exact ⟨v, rfl⟩
def nmX : List UInt8 := [88, 45, 66, 101, 102, 111, 114, 101]
def nmS : List UInt8 := [83, 117, 98, 106, 101, 99, 116]
def nmA : List UInt8 := [88, 45, 65, 102, 116, 101, 114]
theorem begun_X {l : List UInt8} {x : Ln} (h : textOf l x = nX) : begunS l x = some ⟨nmX, x.f, x.f + 9, x.n⟩ := by
  unfold begunS
  rw [h]
  rfl
theorem begun_A {l : List UInt8} {x : Ln} (h : textOf l x = nA) : begunS l x = some ⟨nmA, x.f, x.f + 8, x.n⟩ := by
  unfold begunS
  rw [h]
  rfl
theorem colI_S (q : List UInt8) : colI (nS ++ q) = 7 := rfl
theorem nameS_S (q : List UInt8) : nameS (nS ++ q) = nmS := by
  unfold nameS
  rw [colI_S]
  rfl
theorem begun_S {l : List UInt8} {x : Ln} {q : List UInt8} (h : textOf l x = nS ++ q) : begunS l x = some ⟨nmS, x.f, x.f + 8, x.n⟩ := by
  unfold begunS
  rw [h, colI_S, nameS_S, if_pos ⟨by rw [List.length_append]; show 7 < 8 + q.length; omega, by decide⟩]
def foldsF (E : Nat) : List Fld := [⟨nmX, 0, 9, 13⟩, ⟨nmS, 13, 21, E⟩, ⟨nmA, E, E + 8, E + 12⟩]
theorem folds_lines (tl : List (List UInt8)) (h : ∀ t ∈ tl, goodT t) :
    (linesS (textF tl) 0 (textF tl).length).take (eI (linesS (textF tl) 0 (textF tl).length)) = posL 0 (nX :: (subLH tl ++ [nA])) ∧
    behindN (linesS (textF tl) 0 (textF tl).length) (textF tl).length = subE tl + 14 ∧
    (posL 0 (nX :: (subLH tl ++ [nA]))).map (textOf (textF tl)) = nX :: (subLH tl ++ [nA]) := by
  obtain ⟨hs, hhs⟩ : ∃ hs, hs = nX :: (subLH tl ++ [nA]) := ⟨_, rfl⟩
  have hpl : plainT (hs ++ [[]]) := by
    intro t ht c hc
    rw [hhs] at ht
    rcases List.mem_append.1 ht with ht | ht
    · rcases List.mem_cons.1 ht with rfl | ht
      · exact (by decide : ∀ c ∈ nX, plainB c = true) c hc
      · rcases List.mem_append.1 ht with ht | ht
        · exact subL_plain h t ht c hc
        · rw [List.mem_singleton.1 ht] at hc
          exact (by decide : ∀ c ∈ nA, plainB c = true) c hc
    · rw [List.mem_singleton.1 ht] at hc
      cases hc
  have hne : ∀ t ∈ hs, t ≠ [] := by
    intro t ht
    rw [hhs] at ht
    rcases List.mem_cons.1 ht with rfl | ht
    · decide
    · rcases List.mem_append.1 ht with ht | ht
      · obtain ⟨q, rest, e, hr⟩ := subL_parts tl
        rw [e] at ht
        rcases List.mem_cons.1 ht with rfl | ht
        · simp [nS]
        · obtain ⟨u, rfl⟩ := hr t ht
          simp
      · rw [List.mem_singleton.1 ht]
        decide
  have hj : (joinC hs).length = subE tl + 12 := by
    rw [hhs, joinC_cons, joinC_app, subE_eq]
    simp [joinC, nX, nA]
    omega
  have h1 := lines_join (hs ++ [[]]) [] bodyW hpl
  have h2 := posL_texts (hs ++ [[]]) [] bodyW
  have ht : [] ++ joinC (hs ++ [[]]) ++ bodyW = textF tl := by rw [List.nil_append, textF_lines, hhs]
  rw [ht] at h1 h2
  rw [List.length_nil, posL_app, hj] at h1 h2
  have hp : posL (0 + (subE tl + 12)) [[]] = [⟨subE tl + 12, subE tl + 12, subE tl + 14⟩] := by simp [posL]
  rw [hp] at h1 h2
  rw [List.append_assoc] at h1
  have he : eI (linesS (textF tl) 0 (textF tl).length) = (posL 0 hs).length := by
    rw [h1]
    exact eI_here (posL_texted hs 0 hne) rfl
  refine ⟨?_, ?_, ?_⟩
  · rw [he, h1, List.take_left, hhs]
  · unfold behindN
    rw [dif_pos (by rw [he, h1]; simp)]
    have : ∀ (k : Nat) (hk : k < (linesS (textF tl) 0 (textF tl).length).length), k = (posL 0 hs).length → ((linesS (textF tl) 0 (textF tl).length)[k]).n = subE tl + 14 := by
      intro k hk e
      subst e
      simp only [h1]
      rw [List.getElem_append_right (Nat.le_refl _)]
      simp
    exact this _ _ he
  · rw [← hhs]
    rw [List.map_append] at h2
    have hl : ((posL 0 hs).map (textOf (textF tl))).length = hs.length := by rw [List.length_map, posL_len]
    have := congrArg (List.take hs.length) h2
    rw [← hl, List.take_left, hl, List.take_left] at this
    exact this
theorem folds_fields (tl : List (List UInt8)) (h : ∀ t ∈ tl, goodT t) :
    fieldsL (textF tl) ((linesS (textF tl) 0 (textF tl).length).take (eI (linesS (textF tl) 0 (textF tl).length))) = foldsF (subE tl) := by
  obtain ⟨h1, _, h3⟩ := folds_lines tl h
  rw [h1]
  clear h1
  obtain ⟨l, hl⟩ : ∃ l, l = textF tl := ⟨_, rfl⟩
  obtain ⟨q, rest, hsub, hrest⟩ := subL_parts tl
  have hE := subE_eq tl
  rw [hsub] at h3 hE ⊢
  rw [← hl] at h3 ⊢
  obtain ⟨E, hEe⟩ : ∃ E, E = subE tl := ⟨_, rfl⟩
  rw [← hEe] at hE ⊢
  have hA : posL 0 (nX :: ((nS ++ q) :: rest ++ [nA])) = ⟨0, 11, 13⟩ :: ⟨13, 13 + (nS ++ q).length, 13 + (nS ++ q).length + 2⟩ :: (posL (13 + (nS ++ q).length + 2) rest ++ [⟨E, E + 10, E + 12⟩]) := by
    show (⟨0, 0 + 11, 0 + 11 + 2⟩ : Ln) :: ⟨13, 13 + (nS ++ q).length, 13 + (nS ++ q).length + 2⟩ :: posL (13 + (nS ++ q).length + 2) (rest ++ [nA]) = _
    rw [posL_app]
    have e : 13 + (nS ++ q).length + 2 + (joinC rest).length = E := by
      rw [hE, joinC_cons]
      simp
      omega
    rw [e]
    rfl
  rw [hA] at h3 ⊢
  simp only [List.map_cons, List.map_append, List.map_nil, List.cons_append, List.cons.injEq] at h3
  obtain ⟨t0, t1, t2⟩ := h3
  have hl2 : (List.map (textOf l) (posL (13 + (nS ++ q).length + 2) rest)).length = rest.length := by rw [List.length_map, posL_len]
  have tr : List.map (textOf l) (posL (13 + (nS ++ q).length + 2) rest) = rest := by
    have := congrArg (List.take rest.length) t2
    rw [← hl2, List.take_left, hl2, List.take_left] at this
    exact this
  have ta : textOf l ⟨E, E + 10, E + 12⟩ = nA := by
    rw [tr] at t2
    have := List.append_cancel_left t2
    simpa using this
  have hon : ∀ y ∈ posL (13 + (nS ++ q).length + 2) rest, onB l y = true := by
    intro y hy
    have hm : textOf l y ∈ rest := by rw [← tr]; exact List.mem_map_of_mem hy
    obtain ⟨u, hu⟩ := hrest _ hm
    rw [onB_text hu]
    rfl
  show goL l (begunS l ⟨0, 11, 13⟩) _ = _
  rw [begun_X t0, goL_off (by rw [onB_text (c := 83) (r := [117, 98, 106, 101, 99, 116, 58] ++ q) t1]; rfl)]
  show _ :: goL l (begunS l ⟨13, 13 + (nS ++ q).length, 13 + (nS ++ q).length + 2⟩) _ = _
  rw [begun_S t1, goL_run l _ rest _ _ rfl hon, goL_off (by rw [onB_text (c := 88) (r := [45, 65, 102, 116, 101, 114, 58, 32, 50]) ta]; rfl)]
  show _ :: _ :: goL l (begunS l ⟨E, E + 10, E + 12⟩) [] = _
  rw [begun_A ta]
  have e : 13 + (nS ++ q).length + 2 + (joinC rest).length = E := by
    rw [hE, joinC_cons]
    simp
    omega
  simp only [goL, e]
  rfl
end Go.Proofs.YtbphnlaoiikebaaGreatDoor
