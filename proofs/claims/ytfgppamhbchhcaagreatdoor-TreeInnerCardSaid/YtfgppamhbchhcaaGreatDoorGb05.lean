/- Contracts of package lines: the iterator each. -/
import Derived.RangeFuncNested
import Derived.RangeFuncBound
import Derived.RangeFuncCalls
import Derived.RangeFuncLeaves
import Derived.Shelf.Abstract
import Derived.Shelf.RegionOpen
import Derived.WalkKit
import Derived.OwnWalkIn
import Derived.TacticsInMore
import Derived.LoopNIn
import Derived.LoopIn
import Derived.Test.YtfgppamhbchhcaaGreatDoorGb04
namespace Go.Proofs.YtfgppamhbchhcaaGreatDoor
open Go Go.RowKit Go.Shelf
attribute [local go_sem] Oper.semAt_some

/-- The blocks that are a loop body's own: its variable's box, and the row of the slice that this holds. -/
def ownsB (A : Nat) (W : World) (k : Nat) : Prop := k = A ∨ ∃ u, W.cell? ⟨A, 0, none⟩ = some u ∧ u.ownBlock = some k
/-- What a round keeps: what lay below, and all cells but the body's own. -/
structure KeepK (n0 A : Nat) (W W' : World) : Prop where
  below : Below n0 W W'
  kept : ∀ k o, W.heap[k]? = some o → o.isCells = true → ¬ ownsB A W k → W'.heap[k]? = some o ∧ ¬ ownsB A W' k
  lie : (∀ k, ownsB A W k → k < W.heap.size) → ∀ k, ownsB A W' k → k < W'.heap.size
theorem KeepK.trans {n0 A : Nat} {X Y Z : World} (h : KeepK n0 A X Y) (k : KeepK n0 A Y Z) : KeepK n0 A X Z :=
  ⟨h.below.trans k.below, fun i o h1 h2 h3 => by
    obtain ⟨e1, e2⟩ := h.kept i o h1 h2 h3
    exact k.kept i o e1 h2 e2, fun hl => k.lie (h.lie hl)⟩
theorem ownsB_same {A : Nat} {W W' : World} (h : W'.heap[A]? = W.heap[A]?) (k : Nat) : ownsB A W' k ↔ ownsB A W k := by
  unfold ownsB
  have : W'.cell? ⟨A, 0, none⟩ = W.cell? ⟨A, 0, none⟩ := World.cell?_of_block h
  rw [this]
theorem KeepK.turn {n0 A : Nat} {w : World} (hn : n0 ≤ w.heap.size) (hA : A < w.heap.size) (W : World) (l : Nat) (o o' : Obj) (hl : w.heap.size ≤ l) (h : W.heap[l]? = some o) (h1 : o.isCells = false) (h2 : o.isWalk = false) : KeepK n0 A W (W.putObj l o') := by
  have hs : ∀ k, ownsB A (W.putObj l o') k ↔ ownsB A W k := ownsB_same (World.putObj_heap_other (by omega))
  refine ⟨belowK_b hn W l o o' hl h h1 h2, fun k u hk hc hno => ⟨?_, fun hh => hno ((hs k).1 hh)⟩, fun hl k hk => ?_⟩
  · refine (World.putObj_heap_other ?_).trans hk
    rintro rfl
    rw [h] at hk
    cases hk
    rw [h1] at hc
    cases hc
  · have := hl k ((hs k).1 hk)
    simpa using this
/-- New blocks alone. -/
theorem KeepK.grow {n0 A : Nat} {W W' : World} (hn : n0 ≤ W.heap.size) (hA : A < W.heap.size) (h : Below W.heap.size W W') : KeepK n0 A W W' := by
  have hs : ∀ k, ownsB A W' k ↔ ownsB A W k := ownsB_same (h.block A hA)
  refine ⟨h.mono hn, fun k u hk hc hno => ⟨(h.block k (Array.getElem?_eq_some_iff.1 hk).1).trans hk, fun hh => hno ((hs k).1 hh)⟩, fun hl k hk => ?_⟩
  have := hl k ((hs k).1 hk)
  exact Nat.lt_of_lt_of_le this h.size
theorem below_grown {W W' : World} (h : Below W.heap.size W W') : W.grownBy W' none := ⟨h.os, h.tape, h.output, h.size, fun k hk _ => h.block k hk⟩

/-- What the iterator stands on. -/
structure Seat (wb : World) (A Bs Bb : Nat) (v : Value) (f t : Int) (W : World) : Prop where
  below : Below wb.heap.size wb W
  base : wb.heap.size ≤ W.heap.size
  span : W.heap[Bs]? = some (.cells #[.int .i64 f, .int .i64 t] 26 (0, 0))
  row : W.heap[Bb]? = some (.cells #[v] 24 (0, 0))
  nspan : ¬ ownsB A W Bs
  nrow : ¬ ownsB A W Bb
  lie : ∀ k, ownsB A W k → k < W.heap.size
theorem Seat.keep {wb : World} {A Bs Bb : Nat} {v : Value} {f t : Int} {W W' : World} (h : Seat wb A Bs Bb v f t W) (k : KeepK wb.heap.size A W W') : Seat wb A Bs Bb v f t W' := by
  obtain ⟨e1, e2⟩ := k.kept Bs _ h.span rfl h.nspan
  obtain ⟨e3, e4⟩ := k.kept Bb _ h.row rfl h.nrow
  exact ⟨h.below.trans k.below, Nat.le_trans h.base k.below.size, e1, e3, e2, e4, k.lie h.lie⟩
theorem Seat.own {wb : World} {A Bs Bb : Nat} {v : Value} {f t : Int} {W : World} (h : Seat wb A Bs Bb v f t W) : A < W.heap.size := h.lie A (.inl rfl)
theorem Seat.grow {wb : World} {A Bs Bb : Nat} {v : Value} {f t : Int} {W W' : World} (h : Seat wb A Bs Bb v f t W) (k : Below W.heap.size W W') : Seat wb A Bs Bb v f t W' := h.keep (.grow h.base h.own k)
theorem Seat.c0 {wb : World} {A Bs Bb : Nat} {v : Value} {f t : Int} {W : World} (h : Seat wb A Bs Bb v f t W) : W.cell? ⟨Bs, 0, none⟩ = some (.int .i64 f) := by simp [World.cell?, h.span]
theorem Seat.c1 {wb : World} {A Bs Bb : Nat} {v : Value} {f t : Int} {W : World} (h : Seat wb A Bs Bb v f t W) : W.cell? ⟨Bs, 1, none⟩ = some (.int .i64 t) := by simp [World.cell?, h.span]
theorem Seat.cb {wb : World} {A Bs Bb : Nat} {v : Value} {f t : Int} {W : World} (h : Seat wb A Bs Bb v f t W) : W.cell? ⟨Bb, 0, none⟩ = some v := by simp [World.cell?, h.row]

/-- The lines of a part, none if it isn't there. -/
def linesZ (l : List UInt8) (f t : Int) : List Ln := if withinB f t l.length = true then linesS l f.toNat t.toNat else []

set_option maxRecDepth 100000 in
set_option maxHeartbeats 2000000 in
theorem each1_in (n : Nat) (hn : 1 ≤ n) (Lp A Bs Bb : Nat) (wb : World) (v : Value) (l : List UInt8) (f t : Int) (hv : bytesArg wb v l) (hbig : l.length ≤ 1048576) (J Jx : List Ln → World → Prop)
    (W : World) (hJ : AbidesFrom W.heap.size J)
    (hY : ∀ pre x W1, J pre W1 → pre.length < l.length → YieldAt Fence.wide (n - 1) Tryz.prog Lp #[lnV x] W1 fun e W' =>
      (e = .returned (.bool true) ∧ J (pre ++ [x]) W' ∧ KeepK wb.heap.size A W1 W') ∨ (e = .returned (.bool false) ∧ Jx (pre ++ [x]) W'))
    (hS : Seat wb A Bs Bb v f t W) (h0 : J [] W) :
    CallsIn Fence.wide n Tryz.prog 84 #[.func (.yield Lp) #[] #[], .pointer (some ⟨Bs, 0, none⟩), .pointer (some ⟨Bb, 0, none⟩)] W fun e W' => (∃ v, e = .returned v) ∧
      ((∃ ys, ys = linesZ l f t ∧ J ys W') ∨ (∃ pre, Jx pre W')) := by
  obtain ⟨ao, cap, rfl, hc, hm, hs⟩ := hv
  have c0 := hS.c0
  have c1 := hS.c1
  have cb := hS.cb
  have HV : Hid (bytesArg wb (.slice ao l.length cap) l) := ⟨ao, cap, rfl, hc, hm, hs⟩
  have HSe := Lib.hid hS
  clear hS hs
  rcases Bool.eq_false_or_eq_true (withinB f t l.length) with hw | hw
  · have hw' := of_decide_eq_true hw
    obtain ⟨F, rfl⟩ : ∃ F : Nat, f = F := ⟨f.toNat, by omega⟩
    obtain ⟨T, rfl⟩ : ∃ T : Nat, t = T := ⟨t.toNat, by omega⟩
    have hft : F ≤ T := by omega
    have htl : T ≤ l.length := by omega
    have HW := Lib.hid (within_any (F : Int) (T : Int) (l.length : Int))
    have HE := Lib.hid hw
    have HL : Hid (linesZ l (F : Int) (T : Int) = linesS l F T) := by unfold Hid linesZ; rw [if_pos hw]; rfl
    clear hw hw'
    refine callsIn_of_wp Tryz.func84 rfl trivial ?_ rfl
    simp only [Tryz.ntmps84, List.size_toArray, List.length_cons, List.length_nil, Nat.reduceAdd, Nat.reduceSub, Array.replicate_succ, Array.replicate_zero, List.push_toArray, List.append_toArray, List.nil_append, List.cons_append]
    gi_wp2
    refine ⟨trivial, ?_⟩
    with_reducible refine (callsIn_wide.2 (HW.out _)).mono ?_
    rintro e w1 ⟨rfl, hb1⟩
    rw [HE.out]
    have HS1 := Lib.hid (HSe.out.grow hb1)
    have HJ1 : Hid (J [] w1) := hJ [] W w1 none h0 (below_grown hb1) (fun r e => by cases e)
    clear c0 c1 cb hb1
    have c0 := HS1.out.c0
    gi_wp2
    gi_loopw [4] (fun i wr => ∃ (a : Nat) (pre : List Ln), i = .int .i64 a ∧ F ≤ a ∧ a ≤ T ∧ Hid (linesS l F T = pre ++ linesS l a T) ∧ Hid (J pre wr) ∧ Hid (Seat wb A Bs Bb (.slice ao l.length cap) F T wr))
      (fun i _ => T - (intOf i).toNat)
    case atStart => exact ⟨F, [], rfl, Nat.le_refl _, hft, rfl, HJ1, HS1⟩
    case round =>
      obtain ⟨a, pre, rfl, h1, h2, HP, HJr, HSr⟩ := hrel
      have c1 := HSr.out.c1
      have cb := HSr.out.cb
      by_cases hlt : a < T
      · have HB3 : Hid (bytesArg wr (.slice ao l.length cap) l) := HV.out.below HSr.out.below
        have HF := Lib.hid (first_any _ l a T wr HB3.out hlt htl hbig)
        have HSt := Lib.hid (linesS_step l hlt htl)
        have HBo := Lib.hid (firstS_bounds l hlt)
        obtain ⟨x, hx⟩ : ∃ x, x = firstS l a T := ⟨_, rfl⟩
        rw [← hx] at HF HSt HBo
        have hlen : pre.length < l.length := by
          have e := HP.out
          rw [HSt.out] at e
          have e2 := congrArg List.length e
          have e3 := linesS_len l F T
          simp only [List.length_append, List.length_cons] at e2
          omega
        clear hx
        gi_wp2
        refine ⟨trivial, ?_⟩
        with_reducible refine (callsIn_wide.2 HF.out).mono ?_
        rintro e w2 ⟨rfl, hb2⟩
        simp only [lnV]
        have hb3 := hb2.alloc hb2.size (.cells #[.int .i64 (x.f : Int), .int .i64 (x.t : Int), .int .i64 (x.n : Int)] 88)
        have HS3 := Lib.hid (HSr.out.grow hb3)
        have HJ3 : Hid (J pre (w2.alloc (.cells #[.int .i64 (x.f : Int), .int .i64 (x.t : Int), .int .i64 (x.n : Int)] 88))) := hJ pre wr _ none HJr.out (below_grown hb3) (fun r e => by cases e)
        have HN3 : Hid (¬ ownsB A (w2.alloc (.cells #[.int .i64 (x.f : Int), .int .i64 (x.t : Int), .int .i64 (x.n : Int)] 88)) w2.heap.size) := by
          intro hh
          have h5 := HSr.out.lie _ ((ownsB_same (hb3.block A HSr.out.own) _).1 hh)
          have := hb2.size
          omega
        have HH3 : Hid ((w2.alloc (.cells #[.int .i64 (x.f : Int), .int .i64 (x.t : Int), .int .i64 (x.n : Int)] 88)).heap[w2.heap.size]? = some (.cells #[.int .i64 (x.f : Int), .int .i64 (x.t : Int), .int .i64 (x.n : Int)] 88 (0, 0))) := heap_alloc_new w2 _
        obtain ⟨fn, tmps, assign, body, hy, hR⟩ := hY pre x _ HJ3.out hlen
        have HR := Lib.hid hR
        dsimp only [lnV] at hy
        clear hb2 hb3 c1 cb hR
        gi_wp2
        refine HR.out.mono ?_
        rintro e W3 (⟨rfl, hJ4, hk4⟩ | ⟨rfl, hJx4⟩)
        · have HS4 := Lib.hid (HS3.out.keep hk4)
          have HJ4 := Lib.hid hJ4
          have hc5 : W3.cell? ⟨w2.heap.size, 2, none⟩ = some (.int .i64 (x.n : Int)) := by
            have := (hk4.kept _ _ HH3.out rfl HN3.out).1
            simp [World.cell?, this]
          clear hk4 hJ4
          gi_wp2
          go_roundw
          case rel =>
            obtain ⟨e1, e2, e3, e4, e5, e6⟩ := HBo.out
            exact ⟨x.n, pre ++ [x], rfl, by omega, by omega, by unfold Hid; rw [HP.out, HSt.out]; simp, HJ4, HS4⟩
          case measure =>
            obtain ⟨e1, e2, e3, e4, e5, e6⟩ := HBo.out
            simp [intOf]
            omega
        · gi_wp2
          refine bodyPost_ret (results_none rfl _ _ _) rfl ?_
          exact ⟨⟨_, rfl⟩, .inr ⟨_, hJx4⟩⟩
      · obtain rfl : a = T := by omega
        gi_wp2
        go_end0
        exact ⟨⟨_, rfl⟩, .inl ⟨pre, by rw [HL.out, HP.out, linesS_nil l (Nat.lt_irrefl _), List.append_nil], HJr.out⟩⟩
  · have HW := Lib.hid (within_any f t (l.length : Int))
    have HE := Lib.hid hw
    have HL : Hid (linesZ l f t = []) := by unfold Hid linesZ; rw [hw]; rfl
    clear hw
    refine callsIn_of_wp Tryz.func84 rfl trivial ?_ rfl
    simp only [Tryz.ntmps84, List.size_toArray, List.length_cons, List.length_nil, Nat.reduceAdd, Nat.reduceSub, Array.replicate_succ, Array.replicate_zero, List.push_toArray, List.append_toArray, List.nil_append, List.cons_append]
    gi_wp2
    refine ⟨trivial, ?_⟩
    with_reducible refine (callsIn_wide.2 (HW.out _)).mono ?_
    rintro e w1 ⟨rfl, hb1⟩
    rw [HE.out]
    have HJ1 : Hid (J [] w1) := hJ [] W w1 none h0 (below_grown hb1) (fun r e => by cases e)
    clear hb1
    gi_wp2
    refine bodyPost_ret (results_none rfl _ _ _) rfl ?_
    exact ⟨⟨_, rfl⟩, .inl ⟨[], HL.out.symm, HJ1.out⟩⟩
end Go.Proofs.YtfgppamhbchhcaaGreatDoor
