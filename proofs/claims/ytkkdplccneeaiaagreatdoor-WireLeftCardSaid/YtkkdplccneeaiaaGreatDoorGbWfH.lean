/- Layer 18: contracts of package wire: Feed, Left. -/
import Derived.Test.YtkkdplccneeaiaaGreatDoorGbWfF
import Derived.Test.YtkkdplccneeaiaaGreatDoorGbWfG
import Derived.Test.YtkkdplccneeaiaaGreatDoorGbWrM
namespace Go.Proofs.YtkkdplccneeaiaaGreatDoor
open Go Go.RowKit

def evC (p : Ev × Value) : List Value := [.int .i64 (evK p.1 : Int), p.2]
def evCells (ps : List (Ev × Value)) : List Value := ps.flatMap evC
theorem evCells_snoc (ps : List (Ev × Value)) (p : Ev × Value) : evCells (ps ++ [p]) = evCells ps ++ evC p := by simp [evCells]
theorem evCells_at (ps : List (Ev × Value)) (i : Nat) (h : i < ps.length) : (evCells ps)[i * 2]? = some (.int .i64 (evK ps[i].1 : Int)) ∧ (evCells ps)[i * 2 + 1]? = some ps[i].2 := by
  induction ps generalizing i with
  | nil => simp at h
  | cons x r ih =>
    have e : evCells (x :: r) = evC x ++ evCells r := by simp [evCells]
    rw [e]
    cases i with
    | zero => simp [evC]
    | succ i =>
      have := ih i (by simpa using h)
      simp only [List.getElem_cons_succ]
      rw [List.getElem?_append_right (by simp [evC]; omega), List.getElem?_append_right (by simp [evC]; omega)]
      simp only [evC, List.length_cons, List.length_nil]
      rw [show (i + 1) * 2 - (0 + 1 + 1) = i * 2 by omega, show (i + 1) * 2 + 1 - (0 + 1 + 1) = i * 2 + 1 by omega]
      exact this
theorem Tryz.infoEv : (Tryz.prog.info? 44).map (fun i => (i.zero, i.size, i.bytes)) = some (some (.agg #[.int .i64 0, .slice none 0 0]), 2, 32) := by kernel_rfl
theorem evT.slot {W : World} {B : Nat} {e : Ev} {u : Value} (h : evT W B e u) : u.oneCell' = true := by
  cases e with
  | cmd t => obtain ⟨g, off, rfl, _⟩ := h; rfl
  | go => have h' : u = .slice none 0 0 := h; subst h'; rfl
  | bad => have h' : u = .slice none 0 0 := h; subst h'; rfl
theorem evT.block {W W' : World} {B : Nat} {e : Ev} {u : Value} (h : evT W B e u) (hs : W.heap.size ≤ W'.heap.size) (hb : ∀ q, u.ownBlock = some q → W'.heap[q]? = W.heap[q]?) : evT W' B e u := by
  cases e with
  | cmd t =>
    obtain ⟨g, off, rfl, h1, h2, h3, h4⟩ := h
    refine ⟨g, off, rfl, h1, Nat.lt_of_lt_of_le h2 hs, h3, ?_⟩
    rcases h4 with h4 | ⟨b', o', e', _, hc⟩
    · exact .inl h4
    · cases e'
      exact .inr ⟨g, off, rfl, Nat.lt_of_lt_of_le h2 hs, fun j hj => (World.cell?_of_block (a := ⟨g, off + j, none⟩) (hb g rfl)).trans (hc j hj)⟩
  | go => exact h
  | bad => exact h
theorem evT.own {W : World} {B : Nat} {e : Ev} {u : Value} (h : evT W B e u) : ∀ q, u.ownBlock = some q → q ≠ B ∧ q < W.heap.size := by
  intro q hq
  cases e with
  | cmd t => obtain ⟨g, off, rfl, h1, h2, _⟩ := h; cases hq; exact ⟨h1, h2⟩
  | go => have h' : u = .slice none 0 0 := h; subst h'; cases hq
  | bad => have h' : u = .slice none 0 0 := h; subst h'; cases hq
theorem FrAt.low {W W' : World} {base B H : Nat} {v : Value} {s : Fr} (h : FrAt W base B v s) (hb : Below H W W') (h1 : B < H) (h2 : ∀ q, v.ownBlock = some q → q < H) : FrAt W' base B v s :=
  ⟨h.box.block (hb.block B h1), h.wt.block (fun q hq => hb.block q (h2 q hq)), h.ne, h.le, h.hi, h.lin, h.sz, h.big⟩
theorem own_baseN {w : World} {base base' n k : Nat} {e : TypeId} {v : Value} {xs : List Value} (h : w.ownsRow base e k v n xs) (hb : base' ≤ base) : w.ownsRow base' e k v n xs :=
  ⟨h.1, h.2.imp id fun ⟨g, cap, cur, h1, h2, h3⟩ => ⟨g, cap, cur, h1, Nat.le_trans hb h2, h3⟩⟩
/-- All that lay lies as it lay, but for the framer's box and the bytes that waited. -/
def Kf (B : Nat) (v : Value) (w w' : World) : Prop := ∀ k, k < w.heap.size → k ≠ B → v.ownBlock ≠ some k → w'.heap[k]? = w.heap[k]?
/-- What Feed answers. -/
def FdW (base B : Nat) (v : Value) (w : World) (r : List Ev × Fr) (e : Ending) (w' : World) : Prop :=
  ∃ u ps v' H, e = .returned u ∧ FrAt w' base B v' r.2 ∧ ps.map Prod.fst = r.1 ∧ w'.ownsRow H 44 2 u ps.length (evCells ps) ∧ w.heap.size ≤ H ∧ (∀ q, v'.ownBlock = some q → q < H) ∧ (∀ p ∈ ps, evT w' B p.1 p.2) ∧ Below base w w' ∧ Kf B v w w'
theorem FrAt.feed {w w1 : World} {base B : Nat} {v v1 : Value} {s : Fr} {c : List UInt8} (h : FrAt w base B v s) (hw : Wt w1 base v1 (s.l ++ c)) (hg : w.grownBy w1 v.ownBlock) (ho : v1.ownBlock = v.ownBlock ∨ v1.ownBlock = some w.heap.size) (hbig : s.l.length + c.length ≤ 1000000000) :
    FrAt (w1.setCell ⟨B, 0, none⟩ v1) base B v1 (s.ext c) := by
  have hne : v1.ownBlock ≠ some B := by
    rcases ho with e | e
    · rw [e]; exact h.ne
    · rw [e]; intro e2; have := h.box.lt; cases e2; omega
  have hb : B4 w1 B 34 v (.int .i64 (s.line : Int)) (.int .i64 (s.pos : Int)) (.int .i64 (s.size : Int)) := h.box.block (hg.block B h.box.lt (fun e => h.ne e.symm))
  refine ⟨hb.set0 v1, hw.block (fun q hq => Below.heap_setCell w1 ⟨B, 0, none⟩ v1 q (fun e => hne (by rw [hq, e]))), hne, h.le, ?_, ?_, h.sz, ?_⟩
  · have := h.hi
    show s.pos ≤ (s.l ++ c).length + _
    rw [List.length_append]
    omega
  · intro hl
    have hl' : (s.l ++ c).length < s.pos := hl
    rw [List.length_append] at hl'
    exact h.lin (by omega)
  · show (s.l ++ c).length ≤ _
    rw [List.length_append]
    exact hbig
set_option maxRecDepth 100000 in
set_option maxHeartbeats 4000000 in
theorem wfeed_any (B base : Nat) (v a : Value) (s : Fr) (c : List UInt8) (w : World) (h : FrAt w base B v s) (ha : bytesArg w a c) (hbig : s.l.length + c.length ≤ 1000000000) (hB : base ≤ B) :
    Calls Tryz.prog 15 #[.pointer (some ⟨B, 0, none⟩), a] w (FdW base B v w (feedF (s.ext c))) := by
  obtain ⟨i0, hi, hz⟩ := Option.map_eq_some_iff.1 Tryz.infoB
  simp only [Prod.mk.injEq] at hz
  obtain ⟨hz0, hz1, hz2⟩ := hz
  obtain ⟨i1, hi1, hy⟩ := Option.map_eq_some_iff.1 Tryz.infoEv
  simp only [Prod.mk.injEq] at hy
  obtain ⟨hy0, hy1, hy2⟩ := hy
  obtain ⟨ao, cp, rfl, hc1, hc2, hc3⟩ := ha
  have HSl := Lib.hid hc3
  have HF := Lib.hid h
  have hlt := h.box.lt
  have hbase : base ≤ w.heap.size := by omega
  obtain ⟨c0, c1, c2, c3⟩ := h.box.c
  have HNx := Lib.hid (fun v s W (h : FrAt W base B v s) => wnext_any B base v s W h)
  unfold NxW at HNx
  clear h hc3
  go_enter Tryz.func15, Tryz.ntmps15
  go_wp2_with (at_builtin; refine wpList_append_wt rfl _ _ 29 rfl base i0 Tryz.underlying29 hi hz0 hz1 hz2 v s.l rfl HF.out.wt _ c.length cp c rfl rfl HSl.out ?c1 hbase ?_)
  case c1 => omega
  intro v1 w1 hw1 hg1 ho1
  obtain ⟨a1, n1, k1, rfl⟩ : ∃ a n k, v1 = .slice a n k := by obtain ⟨x, y, e⟩ := hw1.nilOr; exact ⟨x, _, y, e⟩
  have hF1 := HF.out.feed hw1 hg1 ho1 hbig
  have hB1 : B < w1.heap.size := Nat.lt_of_lt_of_le hlt hg1.size
  have hbx : B4 w1 B 34 v (.int .i64 (s.line : Int)) (.int .i64 (s.pos : Int)) (.int .i64 (s.size : Int)) := HF.out.box.block (hg1.block B hlt (fun e => HF.out.ne e.symm))
  have b0 := hbx.c.1
  have f0 := hbx.f 0
  have hb1 : Below base w (w1.setCell ⟨B, 0, none⟩ (.slice a1 n1 k1)) := (below_grown hg1 (fun q hq => (HF.out.wt.lt q hq).1) hbase).setCell (p := ⟨B, 0, none⟩) hB (.slice a1 n1 k1)
  have hk1 : Kf B v w (w1.setCell ⟨B, 0, none⟩ (.slice a1 n1 k1)) := fun k hk h1 h2 => (Below.heap_setCell w1 ⟨B, 0, none⟩ (.slice a1 n1 k1) k h1).trans (hg1.block k hk (fun e => h2 e.symm))
  have hH : w.heap.size ≤ (w1.setCell ⟨B, 0, none⟩ (.slice a1 n1 k1)).heap.size := hb1.size
  obtain ⟨w2, hw2⟩ : ∃ x, x = w1.setCell ⟨B, 0, none⟩ (.slice a1 n1 k1) := ⟨_, rfl⟩
  have HW2 := Lib.hid hw2
  rw [← hw2] at hF1 hb1 hH hk1
  have HK2 := Lib.hid hk1
  have HF2 := Lib.hid hF1
  have HB2 := Lib.hid hb1
  obtain ⟨H, hHH⟩ : ∃ H, H = w2.heap.size := ⟨_, rfl⟩
  have HH := Lib.hid hHH
  have hBH : B < H := by omega
  have hwH : w.heap.size ≤ H := by omega
  have HvH : Hid (∀ q, (Value.slice a1 n1 k1).ownBlock = some q → q < H) := fun q hq => by rw [HH.out]; exact (HF2.out.wt.lt q hq).2
  clear hw2 hF1 hb1 hk1 hH hHH hw1 hg1 ho1 hbx c0 c1 c2 c3
  go_wp2_with fail
  rw [← HW2.out]
  go_loopg [5] (s.ext c).mu (fun g x wr => ∃ (sj : Fr) (vj : Value) (ps : List (Ev × Value)), g = sj.mu ∧ Hid (FrAt wr base B vj sj) ∧ Hid (∀ q, vj.ownBlock = some q → q < H) ∧ Hid (wr.ownsRow H 44 2 x ps.length (evCells ps)) ∧
    Hid (∀ p ∈ ps, evT wr B p.1 p.2 ∧ ∀ q, p.2.ownBlock = some q → q < H) ∧ Hid (feedF (s.ext c) = (ps.map Prod.fst ++ (feedF sj).1, (feedF sj).2)) ∧ Hid (Below base w wr) ∧ Hid (Kf B v w wr) ∧ Hid (H ≤ wr.heap.size) ∧ Hid (ps.length + sj.mu ≤ (s.ext c).mu))
  case atStart => exact ⟨s.ext c, .slice a1 n1 k1, [], rfl, HF2.out, HvH.out, ⟨rfl, .inl ⟨rfl, rfl⟩⟩, fun p hp => by simp at hp, rfl, HB2.out, HK2.out, by unfold Hid; rw [HH.out]; exact Nat.le_refl _, by unfold Hid; simp⟩
  case round =>
    obtain ⟨sj, vj, ps, rfl, HFj, HVj, HO, HE, HS, HBj, HKj, HHj, HLn⟩ := hrel
    have HN := HNx.out vj sj wr HFj.out
    have hmu := nextF_mu sj
    cases hn : nextF sj with
    | mk o s' =>
      rw [hn] at HN hmu
      cases o with
      | none =>
        have hfe := feedF_end hn
        have HN := Lib.hid HN
        simp only at HN
        have HE2 : Hid (feedF (s.ext c) = (ps.map Prod.fst, s')) := by unfold Hid; rw [HS.out, hfe]; simp
        clear hn hmu hfe
        go_wp2_with fail
        with_reducible refine HN.out.mono ?_
        rintro e w3 ⟨⟨v3, hf3, hv3⟩, hg3, rfl⟩
        have hb3 : Below base wr w3 := hg3.toBelow hB (by have := HHj.out; omega)
        have HF3 := Lib.hid hf3
        have HB3 := Lib.hid (HBj.out.trans hb3)
        have HO3 := Lib.hid (own_grN HO.out hg3 hBH)
        have HE3 : Hid (∀ p ∈ ps, evT w3 B p.1 p.2) := fun p hp => (HE.out p hp).1.block hg3.size (fun q hq => hg3.block q ((HE.out p hp).1.own q hq).2 (fun e => ((HE.out p hp).1.own q hq).1 (Option.some.inj e)))
        have HK3 : Hid (Kf B v w w3) := fun k hk h1 h2 => (hg3.block k (Nat.lt_of_lt_of_le hk HBj.out.size) (fun e => h1 (Option.some.inj e))).trans (HKj.out k hk h1 h2)
        have HV3 : Hid (∀ q, v3.ownBlock = some q → q < H) := fun q hq => HVj.out q (hv3 q hq)
        clear hf3 hv3 hg3 hb3
        go_wp2_with fail
        try rw [Exit.noGoto_ret]
        go_ret
        rw [HE2.out]
        have hA : Below w3.heap.size w3 (w3.alloc (.cells #[.int .i64 0, .slice none 0 0] 44)) := (Below.refl _ _).alloc (Nat.le_refl _) _
        exact ⟨_, ps, v3, H, rfl, HF3.out.below hA, rfl, own_belowN HO3.out hA, hwH, HV3.out, fun p hp => (HE3.out p hp).block hA.size (fun q hq => hA.block q ((HE3.out p hp).own q hq).2), HB3.out.trans (hA.mono (by have := HB3.out.size; omega)), fun k hk h1 h2 => (hA.block k (Nat.lt_of_lt_of_le hk HB3.out.size)).trans (HK3.out k hk h1 h2)⟩
      | some ev =>
        have hm2 := hmu ev rfl
        have hfs := feedF_step hn
        have HN := Lib.hid HN
        simp only at HN hm2
        have HE2 : Hid (feedF (s.ext c) = ((ps.map Prod.fst ++ [ev]) ++ (feedF s').1, (feedF s').2)) := by unfold Hid; rw [HS.out, hfs]; simp
        have hln := HLn.out
        have hmx : (s.ext c).mu ≤ 1000000001 := by
          unfold Fr.mu
          show (s.l ++ c).length + _ ≤ _
          rw [List.length_append]
          split <;> omega
        have hps : ps.length ≤ 1000000001 := by omega
        clear hn hmu hfs hln hmx
        go_wp2_with fail
        with_reducible refine HN.out.mono ?_
        rintro e w3 ⟨⟨v3, hf3, hv3⟩, hg3, u3, rfl, he3, hu3⟩
        have hb3 : Below base wr w3 := hg3.toBelow hB (by have := HHj.out; omega)
        have HF3 := Lib.hid hf3
        have HB3 := Lib.hid (HBj.out.trans hb3)
        have HO3 := Lib.hid (own_grN HO.out hg3 hBH)
        have HV3 : Hid (∀ q, v3.ownBlock = some q → q < H) := fun q hq => HVj.out q (hv3 q hq)
        have HE3 : Hid (∀ p ∈ ps ++ [(ev, u3)], evT w3 B p.1 p.2 ∧ ∀ q, p.2.ownBlock = some q → q < H) := by
          intro p hp
          rcases List.mem_append.1 hp with hp | hp
          · exact ⟨(HE.out p hp).1.block hg3.size (fun q hq => hg3.block q ((HE.out p hp).1.own q hq).2 (fun e => ((HE.out p hp).1.own q hq).1 (Option.some.inj e))), (HE.out p hp).2⟩
          · obtain rfl := List.mem_singleton.1 hp
            exact ⟨he3, fun q hq => HVj.out q (hu3 q hq)⟩
        have HK3 : Hid (Kf B v w w3) := fun k hk h1 h2 => (hg3.block k (Nat.lt_of_lt_of_le hk HBj.out.size) (fun e => h1 (Option.some.inj e))).trans (HKj.out k hk h1 h2)
        have HH3 : Hid (H ≤ w3.heap.size) := Nat.le_trans HHj.out hg3.size
        have HSl3 := Lib.hid he3.slot
        obtain ⟨ua, un, uc, hua⟩ : ∃ a n k, u3 = .slice a n k := by
          cases ev with
          | cmd t => obtain ⟨g, off, h, _⟩ := he3; exact ⟨_, _, _, h⟩
          | go => exact ⟨_, _, _, he3⟩
          | bad => exact ⟨_, _, _, he3⟩
        subst hua
        clear hf3 hv3 hg3 hb3 he3 hu3 HFj HVj HO HE HBj HHj HN
        obtain ⟨kd, hkd⟩ : ∃ k : Nat, k = evK ev := ⟨_, rfl⟩
        rw [← hkd]
        have HKd := Lib.hid hkd
        clear hkd
        go_wp2_with (at_builtin; refine wpList_append_own _ rfl _ _ 37 rfl H 44 i1 (.agg #[.int .i64 0, .slice none 0 0]) 2 32 Tryz.underlying37 hi1 hy0 hy1 hy2 rfl (by decide) _ ps.length (evCells ps) rfl (own_belowN HO3.out ?ca) ⟨w3.heap.size + 1, 0, none⟩ 1 1 [.int .i64 (kd : Int), .slice ua un uc] rfl rfl ?c1 ?c2 ?c3 ?c4 ?c5 ?_)
        case ca => exact ((Below.refl w3.heap.size w3).alloc (Nat.le_refl _) _).alloc (by simp) _
        case c1 => simpa using cells_two_new (w3.alloc (.cells #[.int .i64 (kd : Int), .slice ua un uc] 44)) 44 (.int .i64 (kd : Int)) (.slice ua un uc)
        case c2 => intro u hu; simp at hu; rcases hu with rfl | rfl <;> rfl
        case c3 => unfold maxLen; omega
        case c4 => omega
        case c5 => have := HH3.out; simp; omega
        intro v4 w4 hown4 hgrow4 _
        have HA4 : Hid (Below w3.heap.size w3 ((w3.alloc (.cells #[.int .i64 (kd : Int), .slice ua un uc] 44)).alloc (.cells #[.int .i64 (kd : Int), .slice ua un uc] 44))) := ((Below.refl w3.heap.size w3).alloc (Nat.le_refl _) _).alloc (by simp) _
        have hlow : Below H w3 w4 := (HA4.out.mono HH3.out).trans (below_grown hgrow4 (fun q hq => (HO3.out.lt q hq).1) (by have := HA4.out.size; have := HH3.out; omega))
        have HF4 := Lib.hid (HF3.out.low hlow hBH HV3.out)
        have HB4 := Lib.hid (HB3.out.trans (hlow.mono (by omega)))
        have HK4 : Hid (Kf B v w w4) := fun k hk h1 h2 => (hlow.block k (by omega)).trans (HK3.out k hk h1 h2)
        have HH4 : Hid (H ≤ w4.heap.size) := Nat.le_trans HH3.out hlow.size
        have HE4 : Hid (∀ p ∈ ps ++ [(ev, Value.slice ua un uc)], evT w4 B p.1 p.2 ∧ ∀ q, p.2.ownBlock = some q → q < H) := fun p hp => ⟨(HE3.out p hp).1.block hlow.size (fun q hq => hlow.block q ((HE3.out p hp).2 q hq)), (HE3.out p hp).2⟩
        have HO4 : Hid (w4.ownsRow H 44 2 v4 (ps ++ [(ev, Value.slice ua un uc)]).length (evCells (ps ++ [(ev, Value.slice ua un uc)]))) := own_castN hown4 (by simp) (by rw [evCells_snoc]; unfold evC; rw [← HKd.out])
        have HS4 : Hid (feedF (s.ext c) = ((ps ++ [(ev, Value.slice ua un uc)]).map Prod.fst ++ (feedF s').1, (feedF s').2)) := by unfold Hid; rw [HE2.out]; simp
        clear hown4 hgrow4 hlow HA4 HF3 HB3 HO3 HE3 HH3
        go_wp2_with fail
        go_roundg s'.mu
        case measure => exact hm2
        case rel => exact ⟨s', v3, ps ++ [(ev, Value.slice ua un uc)], rfl, HF4.out, HV3.out, HO4.out, HE4.out, HS4.out, HB4.out, HK4.out, HH4.out, by have := HLn.out; unfold Hid; simp; omega⟩
set_option maxRecDepth 100000 in
theorem wleft_any (B base : Nat) (v : Value) (s : Fr) (w : World) (h : FrAt w base B v s) :
    Calls Tryz.prog 16 #[.pointer (some ⟨B, 0, none⟩)] w fun e w' => e = .returned (.int .i64 (s.l.length : Int)) ∧ w = w' := by
  obtain ⟨c0, _⟩ := h.box.c
  obtain ⟨ao, cap, rfl⟩ := h.wt.nilOr
  obtain ⟨n, hn⟩ : ∃ n, n = s.l.length := ⟨_, rfl⟩
  rw [← hn] at c0 ⊢
  clear h hn
  go_enter Tryz.func16, Tryz.ntmps16
  go_wp2
  go_ret
  exact ⟨rfl, rfl⟩
/-- A row of twos, read. -/
theorem row2_read {W : World} {base n : Nat} {e : TypeId} {v : Value} {xs : List Value} (h : W.ownsRow base e 2 v n xs) (hn : 0 < n) : ∃ g cap, v = .slice (some ⟨g, 0, none⟩) n cap ∧ n ≤ cap ∧ base ≤ g ∧ g < W.heap.size ∧ ∀ j, j < n * 2 → W.cell? ⟨g, j, none⟩ = xs[j]? := by
  have h0 := h
  rcases h.2 with ⟨_, h1⟩ | ⟨g, cap, cur, rfl, h1, h2, h3, _⟩
  · omega
  · exact ⟨g, cap, rfl, h3, h1, (Array.getElem?_eq_some_iff.1 h2).1, fun j hj => h0.cellAt j hj⟩
theorem row2_len {W : World} {base n : Nat} {e : TypeId} {v : Value} {xs : List Value} (h : W.ownsRow base e 2 v n xs) : ∃ ao cap, v = .slice ao n cap := by
  rcases h.2 with ⟨rfl, h1⟩ | ⟨g, cap, cur, rfl, _⟩
  · exact ⟨_, _, by rw [h1]⟩
  · exact ⟨_, _, rfl⟩
end Go.Proofs.YtkkdplccneeaiaaGreatDoor
