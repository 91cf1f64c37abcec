/- Contracts of package addr: the reader's words; what it tells. -/
import Derived.Test.YtjlcphofkepajaaGreatAdF
import Derived.Deep.AppendLies
import Derived.Deep.RegionLaw
namespace Go.Proofs.YtjlcphofkepajaaGreat
open Go Go.RowKit

def wsV (l : List UInt8) : Value := .string ⟨l.toArray⟩
theorem Tryz.infoWs : (Tryz.prog.info? 9).map (fun i => (i.zero, i.size, i.bytes)) = some (some (.string ⟨#[]⟩), 1, 16) := by kernel_rfl
theorem wsCast {w : World} {base n n' size : Nat} {e : TypeId} {v : Value} {xs ys : List Value} (h : w.ownsRow base e size v n xs) (h1 : n = n') (h2 : xs = ys) : w.ownsRow base e size v n' ys := by subst h1 h2; exact h
theorem GrB.own {B : Nat} {w W W' : World} {row : Option Nat} (h : GrB B w W) (hg : W.grownBy W' row) (hr : ∀ q, row = some q → w.heap.size ≤ q) : GrB B w W' :=
  ⟨hg.os.trans h.os, hg.tape.trans h.tape, hg.output.trans h.output, Nat.le_trans h.size hg.size, fun k hk hB => (hg.block k (Nat.lt_of_lt_of_le hk h.size) (fun e => by have := hr k e.symm; omega)).trans (h.block k hk hB)⟩
theorem Rdr.block {W W' : World} {B : Nat} {s : ByteArray} {ts : List Tok} {b : Bool} {tv : Value} (h : Rdr W B s ts b tv) (hb : W'.heap[B]? = W.heap[B]?) : Rdr W' B s ts b tv := by
  obtain ⟨k, u, h1, h2⟩ := h
  exact ⟨k, u, h1.block hb, h2⟩
theorem Rdr.own {W W' : World} {B : Nat} {s : ByteArray} {ts : List Tok} {b : Bool} {tv : Value} {row : Option Nat} (h : Rdr W B s ts b tv) (hg : W.grownBy W' row) (hr : ∀ q, row = some q → q ≠ B) : Rdr W' B s ts b tv :=
  h.block (hg.block B h.lt (fun e => hr B e.symm rfl))

set_option maxRecDepth 100000 in
set_option maxHeartbeats 4000000 in
theorem wordsA_any (B : Nat) (s : ByteArray) (ts : List Tok) (b : Bool) (tv : Value) (w : World) (hr : Rdr w B s ts b tv) (hl : s.size ≤ 1000000000) :
    Calls Tryz.prog 23 #[.pointer (some ⟨B, 0, none⟩)] w fun e w' => ∃ v, e = .returned v ∧ w'.ownsRow w.heap.size 9 1 v (wordsT ts).1.length ((wordsT ts).1.map wsV) ∧
      Rdr w' B s (wordsT ts).2 b tv ∧ GrB B w w' := by
  have HWd := Lib.hid (fun ts W h => wordA_any B s ts b tv W h hl)
  obtain ⟨i0, hi, hz⟩ := Option.map_eq_some_iff.1 Tryz.infoWs
  simp only [Prod.mk.injEq] at hz
  obtain ⟨hz0, hz1, hz2⟩ := hz
  have hBlt := hr.lt
  have hlen : ts.length ≤ 2000000000 := by have := wt_len ts; have := hr.wt; omega
  have HR := Lib.hid hr
  clear hr
  go_enter Tryz.func23, Tryz.ntmps23
  go_wp2_with fail
  go_loopg [3] ts.length (fun g v3 wr => ∃ (v : Value) (acc : List (List UInt8)) (t1 : List Tok), v = v3 ∧ g = t1.length ∧ acc.length + t1.length ≤ ts.length ∧ Hid (wr.ownsRow w.heap.size 9 1 v3 acc.length (acc.map wsV)) ∧ Hid (Rdr wr B s t1 b tv) ∧ Hid (GrB B w wr) ∧
    Hid (wordsT ts = (acc ++ (wordsT t1).1, (wordsT t1).2)))
  case atStart => exact ⟨_, [], ts, rfl, rfl, by simp, World.ownsRow_nil _ _ _ _, HR.out, GrB.refl _ _, rfl⟩
  case round =>
    obtain ⟨v3, acc, t1, rfl, rfl, hal, HO, HRr, HG, HS⟩ := hrel
    have HW1 := Lib.hid (HWd.out t1 wr HRr.out)
    have hne : v3.ownBlock ≠ some B := fun e => by have := (HO.out.lt B e).1; omega
    cases t1 with
    | nil =>
      go_wp2_with fail
      with_reducible refine HW1.out.mono ?_
      rintro e w1 ⟨rfl, hr1, hg1⟩
      have HR1 := Lib.hid hr1
      have HG1 := Lib.hid (HG.out.trans hg1)
      have HO1 := Lib.hid (GrB.row hg1 HO.out hne)
      clear hr1 hg1 HW1
      unfold wordT wordV
      go_wp2_with fail
      go_ret
      refine ⟨v3, rfl, ?_, ?_, HG1.out⟩
      · rw [HS.out]
        exact wsCast HO1.out (by simp [wordsT]) (by simp [wordsT])
      · rw [HS.out]
        exact HR1.out
    | cons t t2 =>
      cases t with
      | sgn d =>
        go_wp2_with fail
        with_reducible refine HW1.out.mono ?_
        rintro e w1 ⟨rfl, hr1, hg1⟩
        have HR1 := Lib.hid hr1
        have HG1 := Lib.hid (HG.out.trans hg1)
        have HO1 := Lib.hid (GrB.row hg1 HO.out hne)
        clear hr1 hg1 HW1
        unfold wordT wordV
        go_wp2_with fail
        go_ret
        refine ⟨v3, rfl, ?_, ?_, HG1.out⟩
        · rw [HS.out]
          exact wsCast HO1.out (by simp [wordsT]) (by simp [wordsT])
        · rw [HS.out]
          exact HR1.out
      | wrd x =>
        rw [List.length_cons] at hal
        go_wp2_with fail
        with_reducible refine HW1.out.mono ?_
        rintro e w1 ⟨rfl, hr1, hg1⟩
        have HR1 : Hid (Rdr w1 B s t2 b tv) := hr1
        have HG1 := Lib.hid (HG.out.trans hg1)
        have HO1 := Lib.hid (GrB.row hg1 HO.out hne)
        have hsz := HG1.out.size
        clear hr1 hg1 HW1
        unfold wordT wordV
        go_wp2_with (at_builtin; refine wpList_append_own _ rfl _ _ 31 rfl w.heap.size 9 i0 (.string ⟨#[]⟩) 1 16 Tryz.underlying31 hi hz0 hz1 hz2 rfl (by decide) _ acc.length (acc.map wsV) rfl (HO1.out.alloc _) ⟨w1.heap.size, 0, none⟩ 1 1 [.string ⟨x.toArray⟩] rfl rfl (cell_one_new w1 _ _) (by simp [Value.oneCell']) (by unfold maxLen; omega) (by omega) (by simp; omega) ?_; intro v4 w4 hown4 hgrow4 _)
        have HA : Below w1.heap.size w1 (w1.alloc (.cells #[.string ⟨x.toArray⟩] 9)) := (Below.refl _ _).alloc (Nat.le_refl _) _
        have HG4 := Lib.hid (GrB.own (HG1.out.below HA) hgrow4 (fun q hq => (HO1.out.lt q hq).1))
        have HR4 := Lib.hid (Rdr.own (HR1.out.below HA) hgrow4 (fun q hq => by have := (HO1.out.lt q hq).1; omega))
        have HO4 := Lib.hid hown4
        clear hgrow4 hown4 HA
        go_roundg t2.length
        case measure => simp
        case rel =>
          refine ⟨_, acc ++ [x], t2, rfl, rfl, by simp; omega, wsCast HO4.out (by simp) (by simp [wsV]), HR4.out, HG4.out, ?_⟩
          unfold Hid
          rw [HS.out]
          simp [wordsT]

/-- strings.Join of words. -/
theorem joinA_any (v : Value) (ws : List (List UInt8)) (sep : ByteArray) (base : Nat) (w : World) (h : w.ownsRow base 9 1 v ws.length (ws.map wsV)) (hw : wsW ws ≤ 4000000000) (hs : sep.data.toList.length ≤ 1) :
    Calls Tryz.prog 44 #[v, .string sep] w fun e w' => e = .returned (.string ⟨(Lib.join ws sep.data.toList).toArray⟩) ∧ Below w.heap.size w w' := by
  have hj := join_len ws sep.data.toList hs
  have hwl : ws.length ≤ wsW ws := by
    clear h hw hj
    induction ws with
    | nil => exact Nat.le_refl _
    | cons x ws ih => rw [wsW_cons, List.length_cons]; omega
  rcases h.2 with ⟨rfl, h0⟩ | ⟨g, cap, cur, rfl, _, hh, hc, hm, hsz, ht⟩
  · obtain rfl : ws = [] := List.eq_nil_of_length_eq_zero h0
    exact (Tryz.strings_Join_none none 0 sep w).mono fun e w' ⟨he, hw'⟩ => ⟨he, by rw [hw']; exact Below.refl _ _⟩
  · have hx : (ws.map (fun l => (⟨l.toArray⟩ : ByteArray))).map (·.data.toList) = ws := by
      rw [List.map_map]
      exact List.map_id'' (fun l => rfl) ws
    have := Tryz.strings_Join g 0 cap (ws.map (fun l => (⟨l.toArray⟩ : ByteArray))) sep w ?_ (Array.getElem?_eq_some_iff.1 hh).1 (by rw [List.length_map]; omega) (by rw [List.length_map]; exact hc) (by rw [hx]; omega)
    · rw [hx, List.length_map] at this
      exact this
    · intro j x hx2
      rw [List.getElem?_map] at hx2
      cases hj2 : ws[j]? with
      | none => rw [hj2] at hx2; cases hx2
      | some l =>
        rw [hj2] at hx2
        cases hx2
        have hjl : j < ws.length := (List.getElem?_eq_some_iff.1 hj2).1
        have e1 : (ws.map wsV)[j]? = some (wsV l) := by rw [List.getElem?_map, hj2]; rfl
        rw [← ht, List.getElem?_take, if_pos (by omega)] at e1
        simp only [World.cell?, hh]
        simpa [wsV] using e1
set_option maxRecDepth 100000 in
theorem named_any (v : Value) (ws : List (List UInt8)) (base : Nat) (w : World) (h : w.ownsRow base 9 1 v ws.length (ws.map wsV)) (hw : wsW ws ≤ 4000000000) :
    Calls Tryz.prog 35 #[v] w fun e w' => e = .returned (.string ⟨(Lib.join ws [32]).toArray⟩) ∧ Below w.heap.size w w' := by
  have HJ := Lib.hid (joinA_any v ws ⟨#[32]⟩ base w h hw (by decide))
  clear h
  go_enter Tryz.func35, Tryz.ntmps35
  go_wp2_with fail
  with_reducible refine HJ.out.mono ?_
  rintro e w1 ⟨rfl, hb1⟩
  go_wp2_with fail
  go_ret
  exact ⟨rfl, hb1⟩
end Go.Proofs.YtjlcphofkepajaaGreat
