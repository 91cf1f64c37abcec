/- A law of my own, of no function: an append in a loop over an iterator, with where the new row lies. -/
import Derived.Test.YteallnjbpikhhaaGreatDoorKit2
import Derived.OwnWalkIn
import Derived.Test.YteallnjbpikhhaaGreatDoorGbLinesD
import Derived.Maps.AppendAt
namespace Go.Proofs.YteallnjbpikhhaaGreatDoor
open Go Go.RowKit

/-- Behind an append the row is the old one, or the heap's newest block. -/
theorem run_append_at {P : Program} (w : World) (base : Nat) (t ty e : TypeId) (i : TypeInfo) (z : Value) (size bytes : Nat) (ht : P.underlying t = some (.slice e)) (hi : P.info? e = some i) (hz : i.zero = some z)
    (hsize : i.size = size) (hby : i.bytes = bytes) (v : Value) (n : Nat) (xs : List Value) (hown : w.ownsRow base e size v n xs)
    (a : Addr) (m c : Nat) (news : List Value) (hl : news.length = m * size) (hnews : ∀ j u, news[j]? = some u → w.cell? (a.add j) = some u) (h1 : ∀ u ∈ news, u.oneCell' = true)
    (h63 : n + m ≤ maxLen) (hbytes : (n + m) * bytes ≤ 140737488355328) (hm : 0 < m) {v' : Value} {w' : World} (hr : (Builtin.append_ #[t, t] ty #[v, .slice (some a) m c]).run P w = .ok v' w') :
    v'.ownBlock = v.ownBlock ∨ v'.ownBlock = some w.heap.size := by
  subst hsize
  subst hby
  have hsmall : n + m ≤ 9223372036854775807 := by simp only [maxLen] at h63; omega
  rcases hown.2 with ⟨rfl, rfl⟩ | ⟨g, cap, cur, rfl, hbg, hg, hnc, hcm, hcs, htake⟩
  · have hr2 := run_append_nil (P := P) w t ty e i z ht hi hz a m c news hl hnews (by omega) (by omega) (by have hb := hbytes; simp only [Nat.zero_add] at hb; omega)
    rw [hr2] at hr
    cases hr
    exact .inr rfl
  · by_cases hroom : n + m ≤ cap
    · have hfit : n * i.size + news.length ≤ cur.size := by rw [hl, hcs, ← Nat.add_mul]; exact Nat.mul_le_mul_right _ hroom
      have hr2 := run_append_room (P := P) w t ty e i ht hi g n cap cur hg a m c news hl hnews h1 hroom hfit
      rw [hr2] at hr
      cases hr
      exact .inl rfl
    · have holds : ∀ j u, xs[j]? = some u → w.cell? ((⟨g, 0, none⟩ : Addr).add j) = some u := hown.cells (g := g) rfl
      have hr2 := run_append_grow (P := P) w t ty e i z ht hi hz ⟨g, 0, none⟩ n cap xs hown.1 holds a m c news hl hnews (by omega) (by omega) (growslice_fits (by omega) hbytes)
      rw [hr2] at hr
      cases hr
      exact .inr rfl
theorem wpListIn_append_at {F : Fence} {n : Nat} {P : Program} (w : World) {ops : Array Oper} {rest : List Oper} {o : Oper} {a : Act} {Q : Exit → Act → World → Prop}
    (hg : o.guard = none) (s x : Operand) (t : TypeId) (hop : o.op = Op.call { callee := Callee.builtin Builtin.append, args := #[s, x], argTypes := #[t, t] })
    (base : Nat) (e : TypeId) (i : TypeInfo) (z : Value) (size bytes : Nat) (h1 : P.underlying t = some (.slice e)) (h2 : P.info? e = some i) (h3 : i.zero = some z) (h4 : i.size = size) (h5 : i.bytes = bytes) (h6 : z.cells.size = size) (h7 : 0 < size)
    (v : Value) (k : Nat) (xs : List Value) (hs : a.eval s = v) (hown : w.ownsRow base e size v k xs) (ad : Addr) (m c : Nat) (news : List Value) (hx : a.eval x = .slice (some ad) m c) (hn : news.length = m * size)
    (hc : ∀ j u, news[j]? = some u → w.cell? (ad.add j) = some u) (h1c : ∀ u ∈ news, u.oneCell' = true) (b1 : k + m ≤ maxLen) (b2 : (k + m) * bytes ≤ 140737488355328) (b3 : base ≤ w.heap.size) (hm : 0 < m)
    (hK : ∀ v' w', w'.ownsRow base e size v' (k + m) (xs ++ news) → w.grownBy w' v.ownBlock → (v'.ownBlock = v.ownBlock ∨ v'.ownBlock = some w.heap.size) → wpListIn F n P ops Q rest (a.put o.dst v') w') :
    wpListIn F n P ops Q (o :: rest) a w := by
  refine wpListIn_plain hg fun K hK' => ?_
  obtain ⟨v', w', hrun, r1, r2, r3⟩ := run_append_own (P := P) w base t o.type e i z size bytes h1 h2 h3 h4 h5 h6 h7 v k xs hown ad m c news hn hc h1c b1 b2 b3
  have hat := run_append_at (P := P) w base t o.type e i z size bytes h1 h2 h3 h4 h5 v k xs hown ad m c news hn hc h1c b1 b2 hm hrun
  unfold Oper.wpIn
  refine ⟨?_, ?_⟩
  · simp [Oper.about, hop, resolve, Target.leads, Sem.run_pure]
  · rw [Oper.semAt_plain F _ _ (by rw [hop]; intro c hc'; cases hc')]
    simp [execOp, hop, resolve, invoke, builtin, hs, hx, hrun, Result.andThen]
    exact hK' _ _ (hK v' w' r1 r2 hat)
end Go.Proofs.YteallnjbpikhhaaGreatDoor

/- Contracts of package lines: each, Count, Of. -/
namespace Go.Proofs.YteallnjbpikhhaaGreatDoor
open Go Go.RowKit Go.Shelf
attribute [local go_sem] Oper.semAt_some

theorem each_any (v : Value) (f t : Int) (w : World) (ao : Option Addr) (n c : Nat) (hv : v = .slice ao n c) :
    Calls Tryz.prog 87 #[v, .agg #[.int .i64 f, .int .i64 t]] w fun e w' =>
      e = .returned (.func (.func 110) #[] #[.pointer (some ⟨w.heap.size + 1, 0, none⟩), .pointer (some ⟨w.heap.size, 0, none⟩)]) ∧
      w' = (w.alloc (.cells #[v] 22)).alloc (.cells #[.int .i64 f, .int .i64 t] 28) := by
  subst hv
  go_enter Tryz.func87, Tryz.ntmps87
  go_wp2
  go_ret
  exact ⟨rfl, rfl⟩

theorem each_stops (n : Nat) (hn : 1 ≤ n) (A Bs Bb : Nat) (wb w0 : World) (v : Value) (l : List UInt8) (f t : Int) (hv : bytesArg wb v l) (hbig : l.length ≤ 1048576) (hS : Seat wb A Bs Bb v f t w0) :
    SeqStopsK Fence.wide n Tryz.prog 110 #[.pointer (some ⟨Bs, 0, none⟩), .pointer (some ⟨Bb, 0, none⟩)] (fun x : Ln => #[lnV x]) (KeepK wb.heap.size A) (fun ys => ys = linesZ l f t) (fun _ => True) l.length w0 :=
  fun Lp J Jx W hW hJ _ hY h0 => (each1_in n hn Lp A Bs Bb wb v l f t hv hbig J Jx W hJ hY (hS.grow hW) h0).mono fun _ _ ⟨h1, h2⟩ => ⟨h1, h2.imp id fun ⟨pre, h⟩ => ⟨pre, trivial, h⟩⟩

theorem boxed_owns {W : World} {A : Nat} {t : TypeId} {v : Value} (h : Boxed W A t v) (k : Nat) : ownsB A W k ↔ k = A ∨ v.ownBlock = some k := by
  unfold ownsB
  rw [h.cell]
  constructor
  · rintro (h | ⟨u, hu, h⟩)
    · exact .inl h
    · cases hu
      exact .inr h
  · rintro (h | h)
    · exact .inl h
    · exact .inr ⟨v, rfl, h⟩
/-- A store into the body's own variable. -/
theorem keep_set {n0 A : Nat} {W : World} {t : TypeId} {v v' : Value} (hv : Boxed W A t v) (hn : n0 ≤ A) (h0 : v'.ownBlock = none) : KeepK n0 A W (W.setCell ⟨A, 0, none⟩ v') := by
  have hv' := hv.set v'
  refine ⟨(Below.refl n0 W).setCell (p := ⟨A, 0, none⟩) hn _, fun k o hk hc hno => ?_, fun hl k hk => ?_⟩
  · have hkA : k ≠ A := fun e => hno (.inl e)
    refine ⟨(Below.heap_setCell _ _ _ k hkA).trans hk, fun hh => ?_⟩
    rcases (boxed_owns hv' k).1 hh with h | h
    · exact hkA h
    · rw [h0] at h; cases h
  · rcases (boxed_owns hv' k).1 hk with h | h
    · subst h; exact hv'.lt
    · rw [h0] at h; cases h
theorem keep_append {W w1 : World} {n0 A : Nat} {t e : TypeId} {size : Nat} {v v' : Value} {k m : Nat} {xs ys : List Value} {tmp : Obj}
    (hv : Boxed W A t v) (hte : t ≠ e) (hrow : W.ownsRow n0 e size v k xs) (hn₀ : n0 ≤ W.heap.size) (hB : n0 ≤ A)
    (hown' : w1.ownsRow n0 e size v' m ys) (hgrow : (W.alloc tmp).grownBy w1 v.ownBlock) (hat : v'.ownBlock = v.ownBlock ∨ v'.ownBlock = some (W.alloc tmp).heap.size) :
    KeepK n0 A W (w1.setCell ⟨A, 0, none⟩ v') := by
  obtain ⟨h1, h2, h3, h4, h5⟩ := hv.appended hte hrow hn₀ hB hown' hgrow
  refine ⟨h5, fun j o hj hc hno => ?_, fun hl j hj => ?_⟩
  · have hlt := (Array.getElem?_eq_some_iff.1 hj).1
    have hjA : j ≠ A := fun e => hno ((boxed_owns hv j).2 (.inl e))
    have hjv : some j ≠ v.ownBlock := fun e => hno ((boxed_owns hv j).2 (.inr e.symm))
    refine ⟨?_, fun hh => ?_⟩
    · rw [Below.heap_setCell _ _ _ j hjA, hgrow.block j (by simp; omega) hjv, Below.heap_alloc _ _ _ hlt, hj]
    · rcases (boxed_owns h2 j).1 hh with h | h
      · exact hjA h
      · rcases hat with ha | ha
        · exact hjv (h.symm.trans ha)
        · rw [h] at ha
          simp at ha
          omega
  · rcases (boxed_owns h2 j).1 hj with h | h
    · subst h; exact h2.lt
    · rcases h3.2 with ⟨rfl, _⟩ | ⟨g, cap, cur, rfl, _, hg, _⟩
      · cases h
      · cases h
        exact (Array.getElem?_eq_some_iff.1 hg).1

def lnCells (ls : List Ln) : List Value := ls.flatMap lnC
theorem lnCells_len (ls : List Ln) : (lnCells ls).length = ls.length * 3 := by
  induction ls with
  | nil => rfl
  | cons x r ih => simp only [lnCells, List.flatMap_cons, List.length_append, lnC, List.length_cons, List.length_nil] at ih ⊢; omega
theorem lnCells_snoc (ls : List Ln) (x : Ln) : lnCells (ls ++ [x]) = lnCells ls ++ lnC x := by simp [lnCells]
theorem Tryz.infoL : (Tryz.prog.info? 91).map (fun i => (i.zero, i.size, i.bytes)) = some (some (.agg #[.int .i64 0, .int .i64 0, .int .i64 0]), 3, 24) := by kernel_rfl

theorem seat_new (w : World) (u : Obj) (v : Value) (t : TypeId) (x : Value) (f g : Int) (hx : x.ownBlock = none) (hu : u = .cells #[x] t) :
    Seat w (w.heap.size + 1) (w.heap.size + 3) (w.heap.size + 2) v f g ((((w.alloc (.cells #[.int .i64 f, .int .i64 g] 28)).alloc u).alloc (.cells #[v] 22)).alloc (.cells #[.int .i64 f, .int .i64 g] 28)) := by
  subst hu
  obtain ⟨W1, h1⟩ : ∃ W1, w.alloc (.cells #[.int .i64 f, .int .i64 g] 28) = W1 := ⟨_, rfl⟩
  have s1 : W1.heap.size = w.heap.size + 1 := by rw [← h1]; simp
  have hB : Below w.heap.size w W1 := by rw [← h1]; exact (Below.refl _ _).alloc (Nat.le_refl _) _
  rw [h1]
  clear h1
  have b1 := ((Boxed.new W1 t x).alloc (.cells #[v] 22)).alloc (.cells #[.int .i64 f, .int .i64 g] 28)
  rw [s1] at b1
  have own := boxed_owns b1
  refine ⟨((hB.alloc (by omega) _).alloc (by simp; omega) _).alloc (by simp; omega) _, by simp; omega, ?_, ?_, ?_, ?_, ?_⟩
  · have := heap_alloc_new ((W1.alloc (.cells #[x] t)).alloc (.cells #[v] 22)) (.cells #[.int .i64 f, .int .i64 g] 28)
    simp only [World.size_alloc, s1] at this
    exact this
  · have := Boxed.new (W1.alloc (.cells #[x] t)) 22 v
    simp only [World.size_alloc, s1] at this
    exact this.alloc _
  · rw [own, hx]
    rintro (h | h)
    · omega
    · cases h
  · rw [own, hx]
    rintro (h | h)
    · omega
    · cases h
  · intro k hk
    rw [own, hx] at hk
    rcases hk with h | h
    · subst h; exact b1.lt
    · cases h

end Go.Proofs.YteallnjbpikhhaaGreatDoor

/- Contracts: Empty, of package lines and of the document. -/
namespace Go.Proofs.YteallnjbpikhhaaGreatDoor
open Go Go.RowKit

/-- A slice of lines: what its cells hold. -/
def rowLn (W : World) (v : Value) (ls : List Ln) : Prop :=
  ∃ ao cap, v = .slice ao ls.length cap ∧ ls.length ≤ cap ∧ cap ≤ maxLen ∧ (ls = [] ∨ ∃ g, ao = some ⟨g, 0, none⟩ ∧ g < W.heap.size ∧
    ∀ i, (h : i < ls.length) → W.cell? ⟨g, i * 3, none⟩ = some (.int .i64 (ls[i].f : Int)) ∧ W.cell? ⟨g, i * 3 + 1, none⟩ = some (.int .i64 (ls[i].t : Int)) ∧ W.cell? ⟨g, i * 3 + 2, none⟩ = some (.int .i64 (ls[i].n : Int)))
theorem rowLn.below {W W' : World} {v : Value} {ls : List Ln} (h : rowLn W v ls) (hb : Below W.heap.size W W') : rowLn W' v ls := by
  obtain ⟨ao, cap, e, h1, h2, h3⟩ := h
  refine ⟨ao, cap, e, h1, h2, h3.imp id ?_⟩
  rintro ⟨g, e, hg, hc⟩
  refine ⟨g, e, Nat.lt_of_lt_of_le hg hb.size, fun i hi => ?_⟩
  obtain ⟨c0, c1, c2⟩ := hc i hi
  exact ⟨(hb.cell (p := ⟨g, i * 3, none⟩) hg).trans c0, (hb.cell (p := ⟨g, i * 3 + 1, none⟩) hg).trans c1, (hb.cell (p := ⟨g, i * 3 + 2, none⟩) hg).trans c2⟩
theorem lnCells_at (ls : List Ln) (i : Nat) (h : i < ls.length) : (lnCells ls)[i * 3]? = some (.int .i64 (ls[i].f : Int)) ∧ (lnCells ls)[i * 3 + 1]? = some (.int .i64 (ls[i].t : Int)) ∧ (lnCells ls)[i * 3 + 2]? = some (.int .i64 (ls[i].n : Int)) := by
  induction ls generalizing i with
  | nil => simp at h
  | cons x r ih =>
    have e : lnCells (x :: r) = lnC x ++ lnCells r := by simp [lnCells]
    rw [e]
    cases i with
    | zero => simp [lnC]
    | succ i =>
      have := ih i (by simpa using h)
      simp only [List.getElem_cons_succ]
      rw [List.getElem?_append_right (by simp [lnC]; omega), List.getElem?_append_right (by simp [lnC]; omega), List.getElem?_append_right (by simp [lnC]; omega)]
      simp only [lnC, List.length_cons, List.length_nil]
      rw [show (i + 1) * 3 - (0 + 1 + 1 + 1) = i * 3 by omega, show (i + 1) * 3 + 1 - (0 + 1 + 1 + 1) = i * 3 + 1 by omega, show (i + 1) * 3 + 2 - (0 + 1 + 1 + 1) = i * 3 + 2 by omega]
      exact this
theorem rowLn_owned {w : World} {base : Nat} {e : TypeId} {v : Value} {ls : List Ln} (h : w.ownsRow base e 3 v ls.length (lnCells ls)) : rowLn w v ls := by
  rcases h.2 with ⟨rfl, h0⟩ | ⟨g, cap, cur, rfl, _, hh, hc, hm, hs, ht⟩
  · obtain rfl : ls = [] := List.eq_nil_of_length_eq_zero h0
    exact ⟨none, 0, rfl, Nat.le_refl _, Nat.zero_le _, .inl rfl⟩
  · refine ⟨_, cap, rfl, hc, hm, .inr ⟨g, rfl, (Array.getElem?_eq_some_iff.1 hh).1, fun i hi => ?_⟩⟩
    obtain ⟨c0, c1, c2⟩ := lnCells_at ls i hi
    rw [← ht] at c0 c1 c2
    rw [List.getElem?_take, if_pos (by omega)] at c0 c1 c2
    simp only [World.cell?, hh]
    exact ⟨by simpa using c0, by simpa using c1, by simpa using c2⟩
theorem rowLn.at {W : World} {v : Value} {ls : List Ln} (h : rowLn W v ls) : ∃ ao cap, v = .slice ao ls.length cap ∧ ls.length ≤ cap ∧ cap ≤ maxLen ∧
    ∀ i, (h : i < ls.length) → ∃ g, ao = some ⟨g, 0, none⟩ ∧ g < W.heap.size ∧ W.cell? ⟨g, i * 3, none⟩ = some (.int .i64 (ls[i].f : Int)) ∧ W.cell? ⟨g, i * 3 + 1, none⟩ = some (.int .i64 (ls[i].t : Int)) ∧ W.cell? ⟨g, i * 3 + 2, none⟩ = some (.int .i64 (ls[i].n : Int)) := by
  obtain ⟨ao, cap, e, h1, h2, h3⟩ := h
  refine ⟨ao, cap, e, h1, h2, fun i hi => ?_⟩
  rcases h3 with rfl | ⟨g, e, hg, hc⟩
  · simp at hi
  · exact ⟨g, e, hg, hc i hi⟩

/-- Which line is the first without text. -/
def eI (ls : List Ln) : Nat := ls.findIdx (fun x => x.f == x.t)
def emptyS (ls : List Ln) : Int := if eI ls < ls.length then (eI ls : Int) else -1
theorem eI_step {ls : List Ln} {i : Nat} (h1 : i ≤ eI ls) (h : i < ls.length) (hne : ¬ ls[i].f = ls[i].t) : i + 1 ≤ eI ls := by
  rcases Nat.lt_or_ge i (eI ls) with h2 | h2
  · exact h2
  · have e : eI ls = i := by omega
    exfalso
    have h3 := List.findIdx_getElem (p := fun x : Ln => x.f == x.t) (xs := ls) (w := by show eI ls < _; omega)
    have h4 : (fun x : Ln => x.f == x.t) ls[i] = true := by
      have : ls.findIdx (fun x : Ln => x.f == x.t) = i := e
      simp only [this] at h3
      exact h3
    exact hne (by simpa using h4)
theorem eI_hit {ls : List Ln} {i : Nat} (h1 : i ≤ eI ls) (h : i < ls.length) (he : ls[i].f = ls[i].t) : emptyS ls = i := by
  have e : eI ls = i := by
    rcases Nat.lt_or_ge i (eI ls) with h2 | h2
    · have := List.not_of_lt_findIdx (p := fun x : Ln => x.f == x.t) h2
      simp [he] at this
    · omega
  unfold emptyS
  rw [e, if_pos h]
theorem eI_miss {ls : List Ln} (h1 : ls.length ≤ eI ls) : emptyS ls = -1 := by
  unfold emptyS
  rw [if_neg (by omega)]

set_option maxHeartbeats 1000000 in
theorem empty_any (v : Value) (ls : List Ln) (w : World) (hv : rowLn w v ls) :
    Calls Tryz.prog 58 #[v] w fun e w' => e = .returned (.int .i64 (emptyS ls)) ∧ Below w.heap.size w w' := by
  obtain ⟨ao, cap, rfl, hc, hm, hcell⟩ := hv.at
  have HC := Lib.hid hcell
  clear hv hcell
  unfold maxLen at hm
  go_enter Tryz.func58, Tryz.ntmps58
  go_wp2
  go_loopg [7] ls.length (fun q x7 wr => ∃ i : Nat, i ≤ ls.length ∧ q = ls.length - i ∧ x7 = .int .i64 i ∧ Hid (i ≤ eI ls) ∧ Hid (Below w.heap.size w wr))
  case atStart => exact ⟨0, by omega, by omega, rfl, Nat.zero_le _, Below.refl _ _⟩
  case round =>
    obtain ⟨i, hi, rfl, rfl, HE, HB⟩ := hrel
    by_cases hlt : i < ls.length
    · obtain ⟨g, rfl, hg, c0, c1, c2⟩ := HC.out i hlt
      have HS := Lib.hid (fun h => eI_step HE.out hlt h)
      have HT := Lib.hid (fun h => eI_hit HE.out hlt h)
      obtain ⟨x, hx⟩ : ∃ x, x = ls[i] := ⟨_, rfl⟩
      rw [← hx] at c0 c1 c2 HS HT
      replace c0 := (HB.out.cell (p := ⟨g, i * 3, none⟩) hg).trans c0
      replace c1 := (HB.out.cell (p := ⟨g, i * 3 + 1, none⟩) hg).trans c1
      replace c2 := (HB.out.cell (p := ⟨g, i * 3 + 2, none⟩) hg).trans c2
      have HBa : Hid (Below w.heap.size w (wr.alloc (.cells #[.int .i64 (x.f : Int), .int .i64 (x.t : Int), .int .i64 (x.n : Int)] 91))) := HB.out.alloc HB.out.size _
      clear hx
      by_cases heq : x.f = x.t
      · have HR := Lib.hid (HT.out heq)
        have hb : ((x.f : Int) == (x.t : Int)) = true := beq_yes (by omega)
        clear heq
        go_wp2
        go_ret
        exact ⟨ret_int HR.out.symm, HBa.out⟩
      · have HR := Lib.hid (HS.out heq)
        have hb : ((x.f : Int) == (x.t : Int)) = false := beq_no (by omega)
        go_wp2
        go_roundg (ls.length - (i + 1))
        case measure => omega
        case rel => exact ⟨i + 1, by omega, rfl, by go_num, HR.out, HBa.out⟩
    · obtain rfl : i = ls.length := by omega
      have HR := Lib.hid (eI_miss HE.out)
      go_wp2
      go_ret
      exact ⟨ret_int HR.out.symm, HB.out⟩

end Go.Proofs.YteallnjbpikhhaaGreatDoor
