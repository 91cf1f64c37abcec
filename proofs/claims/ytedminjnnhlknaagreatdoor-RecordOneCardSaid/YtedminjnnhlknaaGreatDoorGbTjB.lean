/- Trees of any make, in plain words: too many parts, parts that aren't formed, tiles that aren't one behind the other. No program. -/
import Derived.Test.YtedminjnnhlknaaGreatDoorGbRcM
import Derived.Test.YtedminjnnhlknaaGreatDoorGbTiG
import Derived.Test.YtedminjnnhlknaaGreatDoorGbTiJ
namespace Go.Proofs.YtedminjnnhlknaaGreatDoor
open Go Go.RowKit

theorem partsK_append (d : Nat) : ∀ a b : List Tr, partsK d (a ++ b) = partsK d a ++ partsK d b
  | [], b => by rw [partsK_nil]; rfl
  | t :: a, b => by
    rw [List.cons_append, partsK_cons, partsK_cons, partsK_append d a b, List.append_assoc]
theorem partsK_front (d : Nat) (ks : List Tr) (k : Nat) : partsK d (ks.take k) <+: partsK d ks := by
  refine ⟨partsK d (ks.drop k), ?_⟩
  rw [← partsK_append, List.take_append_drop]
mutual
theorem good_of : ∀ (d : Nat) (t : Tr), (∀ x ∈ partsT d t, formed x.2) → goodT t
  | d, .mk k hd bd ks cs e, h => by
    unfold goodT
    refine ⟨h (d, _) (by simp only [partsT]; exact List.mem_cons_self ..), goodK_of (d + 1) ks (fun x hx => h x ?_)⟩
    simp only [partsT]
    exact List.mem_cons_of_mem _ hx
theorem goodK_of : ∀ (d : Nat) (ts : List Tr), (∀ x ∈ partsK d ts, formed x.2) → goodK ts
  | _, [], _ => by unfold goodK; trivial
  | d, t :: r, h => by
    unfold goodK
    refine ⟨good_of d t (fun x hx => h x ?_), goodK_of d r (fun x hx => h x ?_)⟩
    · rw [partsK_cons]; exact List.mem_append_left _ hx
    · rw [partsK_cons]; exact List.mem_append_right _ hx
end
/-! How many parts a tree that is read has, and how deep they stand. -/
theorem numP_less {s r : List UInt8} {n : Nat} (h : numP s = .ok n r) : r.length < s.length := by
  have h1 := (numP_inv h).1
  have h2 : 1 ≤ (numB n).length := by
    unfold numB numF
    split
    · exact Nat.le_refl _
    · simp
  rw [h1, List.length_append]
  omega
def boundT (D : Nat) (F : Nat → List UInt8 → Rs Tr) : Prop := ∀ a s t r, F a s = .ok t r → deepT t ≤ D ∧ countT t + r.length ≤ s.length
theorem rkidsP_bound {D : Nat} {F : Nat → List UInt8 → Rs Tr} (hF : boundT D F) : ∀ (n a : Nat) (s : List UInt8) (q : List Tr × List Sp × Nat) (r : List UInt8), rkidsP F n a s = .ok q r → deepK q.1 ≤ D + 1 ∧ countK q.1 + r.length ≤ s.length
  | 0, a, s, q, r, h => by
    cases h
    have e1 : countK ([] : List Tr) = 0 := rfl
    have e2 : deepK ([] : List Tr) = 0 := rfl
    simp only [e1, e2]
    omega
  | n + 1, a, s, q, r, h => by
    obtain ⟨x, s1, h1, h⟩ := bind_ok h
    obtain ⟨y, s2, h2, h⟩ := bind_ok h
    obtain ⟨k, s3, h3, h⟩ := bind_ok h
    obtain ⟨p, s4, h4, h⟩ := bind_ok h
    cases h
    have i1 := numP_less h1
    have i2 := numP_less h2
    have i3 := hF _ _ _ _ h3
    have i4 := rkidsP_bound hF n _ _ _ _ h4
    have e1 : countK (k :: p.1) = countT k + countK p.1 := rfl
    have e2 : deepK (k :: p.1) = max (1 + deepT k) (deepK p.1) := rfl
    simp only [e1, e2]
    omega
theorem treeP_bound : ∀ (d : Nat), boundT d (treeP (d + 1))
  | d, a, s, t, r, h => by
    have ih : ∀ d', d = d' + 1 → boundT d' (treeP d) := fun d' e => by subst e; exact treeP_bound d'
    obtain ⟨k, s1, h1, h⟩ := bind_ok h
    by_cases hk : 2 < k
    · rw [if_pos hk] at h; cases h
    · rw [if_neg hk] at h
      obtain ⟨x, s2, h2, h⟩ := bind_ok h
      obtain ⟨y, s3, h3, h⟩ := bind_ok h
      have i1 := numP_less h1
      have i2 := numP_less h2
      have i3 := numP_less h3
      by_cases k1 : k = 1
      · rw [if_pos k1] at h
        obtain ⟨n, s4, h4, h⟩ := bind_ok h
        by_cases hn : 1000 < n
        · rw [if_pos hn] at h; cases h
        · rw [if_neg hn] at h
          obtain ⟨q, s5, h5, h⟩ := bind_ok h
          obtain ⟨u, s6, h6, h⟩ := bind_ok h
          obtain ⟨v, s7, h7, h⟩ := bind_ok h
          cases h
          have i4 := numP_less h4
          have i6 := numP_less h6
          have i7 := numP_less h7
          show deepK q.1 ≤ d ∧ 1 + countK q.1 + r.length ≤ s.length
          cases d with
          | zero =>
            cases n with
            | zero =>
              cases h5
              have e1 : countK ([] : List Tr) = 0 := rfl
              have e2 : deepK ([] : List Tr) = 0 := rfl
              simp only [e1, e2]
              omega
            | succ n =>
              obtain ⟨_, _, _, h5⟩ := bind_ok h5
              obtain ⟨_, _, _, h5⟩ := bind_ok h5
              obtain ⟨_, _, h6, _⟩ := bind_ok h5
              cases h6
          | succ d =>
            have i5 := rkidsP_bound (ih d rfl) n _ _ _ _ h5
            omega
      · rw [if_neg k1] at h
        by_cases k2 : k = 2
        · rw [if_pos k2] at h
          obtain ⟨q, s4, h4, h⟩ := bind_ok h
          cases h
          show max (1 + deepT q) 0 ≤ d ∧ 1 + (countT q + 0) + r.length ≤ s.length
          cases d with
          | zero => cases h4
          | succ d =>
            have i4 := ih d rfl _ _ _ _ h4
            omega
        · rw [if_neg k2] at h
          cases h
          show (0 : Nat) ≤ d ∧ 1 + 0 + r.length ≤ s.length
          omega
end Go.Proofs.YtedminjnnhlknaaGreatDoor

/- Contracts of package tiles: the iterator parts, over a tree of any make. -/
namespace Go.Proofs.YtedminjnnhlknaaGreatDoor
open Go Go.RowKit Go.Shelf
attribute [local go_sem] Oper.semAt_some

/-- A part as it is handed on: how deep it stands, its tree, its value. -/
abbrev PtB (S : Nat → Prop) (wb : World) := { x : Nat × Tr × Value // treeAt S wb x.2.1 x.2.2 ∧ x.1 ≤ 32 }
def prB {S : Nat → Prop} {wb : World} (x : PtB S wb) : Nat × Tr := (x.1.1, x.1.2.1)
def encB {S : Nat → Prop} {wb : World} (x : PtB S wb) : Array Value := #[.int .i64 (x.1.1 : Int), x.1.2.2]
def partPostB {S : Nat → Prop} (A : Nat) (wb : World) (J Jx : List (PtB S wb) → World → Prop) (pre : List (PtB S wb)) (L : List (Nat × Tr)) (W : World) (e : Ending) (W' : World) : Prop :=
  (e = .returned (.bool true) ∧ (∃ xs : List (PtB S wb), xs.map prB = L ∧ J (pre ++ xs) W') ∧ KeepK wb.heap.size A W W') ∨ (e = .returned (.bool false) ∧ ∃ q : List (PtB S wb), q.map prB <+: L ∧ Jx (pre ++ q) W')
def kidPartB {S : Nat → Prop} (Lp A N : Nat) (wb : World) (J Jx : List (PtB S wb) → World → Prop) (ka : Option Addr) (d i : Nat) (q : Tr) : Prop := ∃ g a n c a2 n2 c2, ka = some ⟨g, 0, none⟩ ∧ g < wb.heap.size ∧ nineAt wb g i q (.slice a n c) (.slice a2 n2 c2) ∧
  ∀ n' pre W', J pre W' → On wb A W' → pre.length + countT q ≤ N → CallsIn Fence.wide n' Tryz.prog 96 #[.agg #[.int .i64 (q.kind : Int), .int .i64 (q.hd.1 : Int), .int .i64 (q.hd.2 : Int), .int .i64 (q.bd.1 : Int), .int .i64 (q.bd.2 : Int), .slice a n c, .slice a2 n2 c2, .int .i64 (q.e.1 : Int), .int .i64 (q.e.2 : Int)], .int .i64 ((d : Int) + 1), .func (.yield Lp) #[] #[]] W'
    (partPostB A wb J Jx pre (partsT (d + 1) q) W')
set_option maxRecDepth 100000 in
set_option maxHeartbeats 4000000 in
theorem tellPartsB_step {S : Nat → Prop} (n Lp A N : Nat) (wb : World) (J Jx : List (PtB S wb) → World → Prop) (hJ : ∀ pre W W', J pre W → Below W.heap.size W W' → J pre W') (hY : Yields encB Lp A wb N J Jx)
    (t : Tr) (d : Nat) (hd : d ≤ 32) (ka ca : Option Addr) (kc cn cc : Nat) (hbig : t.kids.length ≤ 1000000)
    (hu : treeAt S wb t (.agg #[.int .i64 (t.kind : Int), .int .i64 (t.hd.1 : Int), .int .i64 (t.hd.2 : Int), .int .i64 (t.bd.1 : Int), .int .i64 (t.bd.2 : Int), .slice ka t.kids.length kc, .slice ca cn cc, .int .i64 (t.e.1 : Int), .int .i64 (t.e.2 : Int)]))
    (hk : ∀ i, (h : i < t.kids.length) → kidPartB Lp A N wb J Jx ka d i t.kids[i]) (W : World) (hon : On wb A W) (pre : List (PtB S wb)) (h0 : J pre W) (hN : pre.length + (1 + countK t.kids) ≤ N) :
    CallsIn Fence.wide n Tryz.prog 96 #[.agg #[.int .i64 (t.kind : Int), .int .i64 (t.hd.1 : Int), .int .i64 (t.hd.2 : Int), .int .i64 (t.bd.1 : Int), .int .i64 (t.bd.2 : Int), .slice ka t.kids.length kc, .slice ca cn cc, .int .i64 (t.e.1 : Int), .int .i64 (t.e.2 : Int)], .int .i64 (d : Int), .func (.yield Lp) #[] #[]] W
      (partPostB A wb J Jx pre ((d, t) :: partsK (d + 1) t.kids) W) := by
  obtain ⟨x0, hx0⟩ : ∃ x0 : PtB S wb, x0.1 = (d, t, .agg #[.int .i64 (t.kind : Int), .int .i64 (t.hd.1 : Int), .int .i64 (t.hd.2 : Int), .int .i64 (t.bd.1 : Int), .int .i64 (t.bd.2 : Int), .slice ka t.kids.length kc, .slice ca cn cc, .int .i64 (t.e.1 : Int), .int .i64 (t.e.2 : Int)]) := ⟨⟨_, hu, hd⟩, rfl⟩
  have HX0 : Hid (prB x0 = (d, t)) := by unfold Hid prB; rw [hx0]
  have hE0 : encB x0 = #[.int .i64 (d : Int), .agg #[.int .i64 (t.kind : Int), .int .i64 (t.hd.1 : Int), .int .i64 (t.hd.2 : Int), .int .i64 (t.bd.1 : Int), .int .i64 (t.bd.2 : Int), .slice ka t.kids.length kc, .slice ca cn cc, .int .i64 (t.e.1 : Int), .int .i64 (t.e.2 : Int)]] := by unfold encB; rw [hx0]
  have HP := Lib.hid (Pb.new hon #[.int .i64 (t.kind : Int), .int .i64 (t.hd.1 : Int), .int .i64 (t.hd.2 : Int), .int .i64 (t.bd.1 : Int), .int .i64 (t.bd.2 : Int), .slice ka t.kids.length kc, .slice ca cn cc, .int .i64 (t.e.1 : Int), .int .i64 (t.e.2 : Int)] 31)
  have HK := Lib.hid (hon.kept (below_new W (.cells #[.int .i64 (t.kind : Int), .int .i64 (t.hd.1 : Int), .int .i64 (t.hd.2 : Int), .int .i64 (t.bd.1 : Int), .int .i64 (t.bd.2 : Int), .slice ka t.kids.length kc, .slice ca cn cc, .int .i64 (t.e.1 : Int), .int .i64 (t.e.2 : Int)] 31)))
  have hJX := hJ pre W _ h0 (below_new W (.cells #[.int .i64 (t.kind : Int), .int .i64 (t.hd.1 : Int), .int .i64 (t.hd.2 : Int), .int .i64 (t.bd.1 : Int), .int .i64 (t.bd.2 : Int), .slice ka t.kids.length kc, .slice ca cn cc, .int .i64 (t.e.1 : Int), .int .i64 (t.e.2 : Int)] 31))
  obtain ⟨fn, tmps, assign, body, hy, hR⟩ := hY (n - 1) pre x0 _ hJX (by omega)
  rw [hE0] at hy
  have HP0 : Hid ([x0].map prB <+: (d, t) :: partsK (d + 1) t.kids) := ⟨partsK (d + 1) t.kids, by rw [List.map_cons, HX0.out]; rfl⟩
  have HR := Lib.hid hR
  have HJ := Lib.hid hJ
  have HKd := Lib.hid hk
  have HN := Lib.hid hN
  obtain ⟨ks, hks⟩ : ∃ ks, ks = t.kids := ⟨_, rfl⟩
  rw [← hks] at hy HP HK HR HKd hbig HN HP0 ⊢
  obtain ⟨kd, h1, h2, b1, b2, e1, e2, g1, g2, g3, g4, g5, g6, g7⟩ : ∃ kd h1 h2 b1 b2 e1 e2 : Nat, t.kind = kd ∧ t.hd.1 = h1 ∧ t.hd.2 = h2 ∧ t.bd.1 = b1 ∧ t.bd.2 = b2 ∧ t.e.1 = e1 ∧ t.e.2 = e2 := ⟨_, _, _, _, _, _, _, rfl, rfl, rfl, rfl, rfl, rfl, rfl⟩
  rw [g1, g2, g3, g4, g5, g6, g7] at hy HP HK HR ⊢
  clear hR hJX h0 hJ hY hon hE0 hx0 hu hk hN hks g1 g2 g3 g4 g5 g6 g7
  refine callsIn_of_wp Tryz.func96 rfl trivial ?_ rfl
  simp only [Tryz.ntmps96, List.size_toArray, List.length_cons, List.length_nil, Nat.reduceAdd, Nat.reduceSub, Array.replicate_succ, Array.replicate_zero, List.push_toArray, List.append_toArray, List.nil_append, List.cons_append]
  gi_wp2
  refine ⟨fun h => (by cases h), ?_⟩
  refine HR.out.mono ?_
  rintro e W3 (⟨rfl, hJ4, hk4⟩ | ⟨rfl, hJx4⟩)
  · have HP3 := Lib.hid (HP.out.keep hk4)
    have HK3 := Lib.hid (HK.out.trans hk4)
    have HJ4 := Lib.hid hJ4
    have c5 : W3.cell? ⟨W.heap.size, 5, none⟩ = some (.slice ka ks.length kc) := by rw [HP3.out.cell]; rfl
    clear hk4 hy HR hJ4
    gi_wp2
    gi_loopw [17] (fun i wr => ∃ (k : Nat) (xs : List (PtB S wb)), i = .int .i64 (k : Int) ∧ k ≤ ks.length ∧ Hid (J (pre ++ xs) wr) ∧ Hid (xs.map prB = (d, t) :: partsK (d + 1) (ks.take k)) ∧ Hid (On wb A wr) ∧ Hid (KeepK wb.heap.size A W wr))
      (fun i _ => ks.length - (intOf i).toNat)
    case atStart => exact ⟨0, [x0], rfl, Nat.zero_le _, HJ4.out, by unfold Hid; rw [List.take_zero, partsK_nil, List.map_cons, HX0.out]; rfl, HP3.out.on, HK3.out⟩
    case round =>
      obtain ⟨k, xs, rfl, hkl, HJr, HFr, HOr, HKr⟩ := hrel
      by_cases hlt : k < ks.length
      · obtain ⟨g, ga, gn, gc, ga2, gn2, gc2, rfl, hg, h9, hcall⟩ := HKd.out k hlt
        have HTk := Lib.hid (partsK_take (d := d + 1) hlt)
        have HCt := Lib.hid (countK_take hlt)
        have hfr := partsK_front (d + 1) ks (k + 1)
        rw [partsK_take hlt] at hfr
        obtain ⟨tl, htl⟩ := hfr
        have HCl := Lib.hid hcall
        obtain ⟨q, hq⟩ : ∃ q, q = ks[k] := ⟨_, rfl⟩
        rw [← hq] at HTk HCt HCl h9 htl
        have HPre : Hid (∀ q' : List (PtB S wb), q'.map prB <+: partsT (d + 1) q → (xs ++ q').map prB <+: (d, t) :: partsK (d + 1) ks) := by
          rintro q' ⟨r', hr'⟩
          refine ⟨r' ++ tl, ?_⟩
          rw [List.map_append, HFr.out, ← htl, ← hr']
          simp only [List.cons_append, List.append_assoc]
        have HLen : Hid ((pre ++ xs).length + countT q ≤ N) := by
          have h1 := congrArg List.length HFr.out
          have h2 := HCt.out
          have h3 := HN.out
          simp only [List.length_map, List.length_cons, partsK_len] at h1
          unfold Hid
          rw [List.length_append]
          omega
        have hb1 := below_new wr (.cells #[.int .i64 (q.kind : Int), .int .i64 (q.hd.1 : Int), .int .i64 (q.hd.2 : Int), .int .i64 (q.bd.1 : Int), .int .i64 (q.bd.2 : Int), .slice ga gn gc, .slice ga2 gn2 gc2, .int .i64 (q.e.1 : Int), .int .i64 (q.e.2 : Int)] 31)
        have HO2 := Lib.hid (HOr.out.grow hb1)
        have HK2 := Lib.hid (HKr.out.trans (HOr.out.kept hb1))
        have hJ2 := HJ.out _ _ _ HJr.out hb1
        have HC2 := Lib.hid (HCl.out (n - 1) (pre ++ xs) _ hJ2 HO2.out HLen.out)
        have h9' := h9.block (HOr.out.below.block g hg)
        unfold nineAt at h9'
        obtain ⟨p0, p1, p2, p3, p4, p5, p6, p7, p8⟩ := h9'
        clear h9 hcall hq hb1 hJ2 HCl htl tl
        gi_wp2
        refine ⟨trivial, fun h => (by cases h), ?_⟩
        with_reducible refine (HC2.out).mono ?_
        rintro e W5 (⟨rfl, ⟨ys, hys, hJ5⟩, hk5⟩ | ⟨rfl, q', hq', hJx5⟩)
        · have HO5 := Lib.hid (HO2.out.keep hk5)
          have HK5 := Lib.hid (HK2.out.trans hk5)
          have HJ5 : Hid (J (pre ++ (xs ++ ys)) W5) := by unfold Hid; rw [← List.append_assoc]; exact hJ5
          have HF5 : Hid ((xs ++ ys).map prB = (d, t) :: partsK (d + 1) (ks.take (k + 1))) := by unfold Hid; rw [List.map_append, HFr.out, hys, HTk.out]; rfl
          clear hJ5 hk5 hys p0 p1 p2 p3 p4 p5 p6 p7 p8 HC2
          gi_wp2
          go_roundw
          case rel => exact ⟨k + 1, xs ++ ys, by go_num, by omega, HJ5.out, HF5.out, HO5.out, HK5.out⟩
          case measure => simp [intOf]; omega
        · have HE : Hid (partPostB A wb J Jx pre ((d, t) :: partsK (d + 1) ks) W (.returned (.bool false)) W5) := .inr ⟨rfl, xs ++ q', HPre.out q' hq', by rw [← List.append_assoc]; exact hJx5⟩
          clear hJx5 p0 p1 p2 p3 p4 p5 p6 p7 p8 HC2
          gi_wp2
          go_ret
          exact HE.out
      · obtain rfl : k = ks.length := by omega
        have HE : Hid (partPostB A wb J Jx pre ((d, t) :: partsK (d + 1) ks) W (.returned (.bool true)) wr) := .inl ⟨rfl, ⟨xs, by rw [HFr.out, List.take_length], HJr.out⟩, HKr.out⟩
        gi_wp2
        go_ret
        exact HE.out
  · have HE : Hid (partPostB A wb J Jx pre ((d, t) :: partsK (d + 1) ks) W (.returned (.bool false)) W3) := .inr ⟨rfl, [x0], HP0.out, hJx4⟩
    clear hJx4
    gi_wp2
    go_ret
    exact HE.out
theorem tellPartsB_any {S : Nat → Prop} (Lp A N : Nat) (wb : World) (J Jx : List (PtB S wb) → World → Prop) (hJ : ∀ pre W W', J pre W → Below W.heap.size W W' → J pre W') (hY : Yields encB Lp A wb N J Jx) (k : Nat) :
    ∀ (t : Tr), SizeOf.sizeOf t ≤ k → countT t ≤ 1000000 → ∀ (d : Nat), d + deepT t ≤ 32 → ∀ (n : Nat) (u : Value) (W : World) (pre : List (PtB S wb)), treeAt S wb t u → On wb A W → J pre W → pre.length + countT t ≤ N →
      CallsIn Fence.wide n Tryz.prog 96 #[u, .int .i64 (d : Int), .func (.yield Lp) #[] #[]] W (partPostB A wb J Jx pre (partsT d t) W) := by
  induction k with
  | zero => intro t ht; cases t; rw [Tr.mk.sizeOf_spec] at ht; omega
  | succ k ih =>
    intro t ht hcb d hd n u W pre hu hon h0 hN
    have hu0 := hu
    obtain ⟨ka, kn, kc, ca, cn, cc, us, rfl, hcs, ho, hkd⟩ := treeAt_open hu
    obtain ⟨rfl, hk1, hk2, hkat⟩ := kids_at ho hkd
    have hC := countT_eq t
    have hD := deepT_eq t
    have hL := lenK_le t.kids
    have hkid : ∀ i, (h : i < t.kids.length) → kidPartB Lp A N wb J Jx ka d i t.kids[i] := fun i h => by
      obtain ⟨g, a, m, c, a2, n2, c2, e, hg1, _, h9, htr⟩ := hkat i h
      have h1 := countK_drop t.kids i h
      have h2 := countK_le t.kids i
      have h3 := deepK_get t.kids i h
      refine ⟨g, a, m, c, a2, n2, c2, e, hg1, h9, fun n' pre' W' hj' hon' hN' => ?_⟩
      have := ih t.kids[i] (by have := size_kid i h; omega) (by omega) (d + 1) (by omega) n' _ W' pre' htr hon' hj' hN'
      exact this
    rw [partsT_eq]
    exact tellPartsB_step n Lp A N wb J Jx hJ hY t d (by omega) ka ca kc cn cc (by omega) hu0 hkid W hon pre h0 (by omega)
set_option maxHeartbeats 2000000 in
theorem tparts1B_in {S : Nat → Prop} (n Lp A B : Nat) (wb : World) (J Jx : List (PtB S wb) → World → Prop) (hJ : ∀ pre W W', J pre W → Below W.heap.size W W' → J pre W') (t : Tr) (hY : Yields encB Lp A wb (countT t) J Jx) (hcb : countT t ≤ 1000000) (hd : deepT t ≤ 32)
    (kd h1 h2 b1 b2 e1 e2 : Int) (ka ca : Option Addr) (kn kc cn cc : Nat) (hu : treeAt S wb t (.agg #[.int .i64 kd, .int .i64 h1, .int .i64 h2, .int .i64 b1, .int .i64 b2, .slice ka kn kc, .slice ca cn cc, .int .i64 e1, .int .i64 e2]))
    (W : World) (hp : W.heap[B]? = some (.cells #[.int .i64 kd, .int .i64 h1, .int .i64 h2, .int .i64 b1, .int .i64 b2, .slice ka kn kc, .slice ca cn cc, .int .i64 e1, .int .i64 e2] 31 (0, 0))) (hon : On wb A W) (h0 : J [] W) :
    CallsIn Fence.wide n Tryz.prog 95 #[.func (.yield Lp) #[] #[], .pointer (some ⟨B, 0, none⟩)] W fun e W' => (∃ v, e = .returned v) ∧ ((∃ ys : List (PtB S wb), ys.map prB = partsT 0 t ∧ J ys W') ∨ (∃ pre : List (PtB S wb), pre.map prB <+: partsT 0 t ∧ Jx pre W')) := by
  have HT := Lib.hid (tellPartsB_any Lp A (countT t) wb J Jx hJ hY _ t (Nat.le_refl _) hcb 0 (by omega) (n - 1) _ W [] hu hon h0 (by simp))
  have c0 : W.cell? ⟨B, 0, none⟩ = some (.int .i64 kd) := by simp [World.cell?, hp]
  have c1 : W.cell? ⟨B, 1, none⟩ = some (.int .i64 h1) := by simp [World.cell?, hp]
  have c2 : W.cell? ⟨B, 2, none⟩ = some (.int .i64 h2) := by simp [World.cell?, hp]
  have c3 : W.cell? ⟨B, 3, none⟩ = some (.int .i64 b1) := by simp [World.cell?, hp]
  have c4 : W.cell? ⟨B, 4, none⟩ = some (.int .i64 b2) := by simp [World.cell?, hp]
  have c5 : W.cell? ⟨B, 5, none⟩ = some (.slice ka kn kc) := by simp [World.cell?, hp]
  have c6 : W.cell? ⟨B, 6, none⟩ = some (.slice ca cn cc) := by simp [World.cell?, hp]
  have c7 : W.cell? ⟨B, 7, none⟩ = some (.int .i64 e1) := by simp [World.cell?, hp]
  have c8 : W.cell? ⟨B, 8, none⟩ = some (.int .i64 e2) := by simp [World.cell?, hp]
  clear hp hu hon h0 hJ hY
  refine callsIn_of_wp Tryz.func95 rfl trivial ?_ rfl
  simp only [Tryz.ntmps95, List.size_toArray, List.length_cons, List.length_nil, Nat.reduceAdd, Nat.reduceSub, Array.replicate_succ, Array.replicate_zero, List.push_toArray, List.append_toArray, List.nil_append, List.cons_append]
  gi_wp2
  refine ⟨trivial, fun h => (by cases h), ?_⟩
  refine (HT.out).mono ?_
  rintro e W1 (⟨rfl, ⟨ys, hys, hJ1⟩, _⟩ | ⟨rfl, q, hq, hx⟩)
  · have HE : Hid (((∃ ys : List (PtB S wb), ys.map prB = partsT 0 t ∧ J ys W1) ∨ (∃ pre : List (PtB S wb), pre.map prB <+: partsT 0 t ∧ Jx pre W1))) := .inl ⟨ys, hys, by simpa using hJ1⟩
    clear hJ1 hys
    gi_wp2
    go_end0
    exact ⟨⟨_, rfl⟩, HE.out⟩
  · have HE : Hid (((∃ ys : List (PtB S wb), ys.map prB = partsT 0 t ∧ J ys W1) ∨ (∃ pre : List (PtB S wb), pre.map prB <+: partsT 0 t ∧ Jx pre W1))) := .inr ⟨q, hq, by simpa using hx⟩
    clear hx hq
    gi_wp2
    go_end0
    exact ⟨⟨_, rfl⟩, HE.out⟩
theorem tpartsB_stops {S : Nat → Prop} (n A B : Nat) (wb w0 : World) (t : Tr) (hcb : countT t ≤ 1000000) (hd : deepT t ≤ 32) (kd h1 h2 b1 b2 e1 e2 : Int) (ka ca : Option Addr) (kn kc cn cc : Nat)
    (hu : treeAt S wb t (.agg #[.int .i64 kd, .int .i64 h1, .int .i64 h2, .int .i64 b1, .int .i64 b2, .slice ka kn kc, .slice ca cn cc, .int .i64 e1, .int .i64 e2]))
    (hp : w0.heap[B]? = some (.cells #[.int .i64 kd, .int .i64 h1, .int .i64 h2, .int .i64 b1, .int .i64 b2, .slice ka kn kc, .slice ca cn cc, .int .i64 e1, .int .i64 e2] 31 (0, 0))) (hon : On wb A w0) :
    SeqStopsK Fence.wide n Tryz.prog 95 #[.pointer (some ⟨B, 0, none⟩)] (encB : PtB S wb → Array Value) (KeepK wb.heap.size A) (fun ys => ys.map prB = partsT 0 t) (fun pre => pre.map prB <+: partsT 0 t) (countT t) w0 :=
  fun Lp J Jx W hW hJ _ hY h0 => tparts1B_in n Lp A B wb J Jx (abides_of hJ) t (yields_of hY) hcb hd kd h1 h2 b1 b2 e1 e2 ka ca kn kc cn cc hu W ((hW.block B (Array.getElem?_eq_some_iff.1 hp).1).trans hp) (hon.grow hW) h0
end Go.Proofs.YtedminjnnhlknaaGreatDoor

/- Contracts of package tiles: isBig, of a tree of any make. -/
namespace Go.Proofs.YtedminjnnhlknaaGreatDoor
open Go Go.RowKit Go.Shelf
attribute [local go_sem] Oper.semAt_some

set_option maxRecDepth 100000 in
set_option maxHeartbeats 4000000 in
theorem isBigB_any {S : Nat → Prop} (t : Tr) (hcb : countT t ≤ 1000000) (hd : deepT t ≤ 32) (kd h1 h2 b1 b2 e1 e2 : Int) (ka ca : Option Addr) (kn kc cn cc : Nat) (w : World) (hu : treeAt S w t (.agg #[.int .i64 kd, .int .i64 h1, .int .i64 h2, .int .i64 b1, .int .i64 b2, .slice ka kn kc, .slice ca cn cc, .int .i64 e1, .int .i64 e2])) :
    Calls Tryz.prog 37 #[.agg #[.int .i64 kd, .int .i64 h1, .int .i64 h2, .int .i64 b1, .int .i64 b2, .slice ka kn kc, .slice ca cn cc, .int .i64 e1, .int .i64 e2]] w fun e w' => ∃ bb : Bool, e = .returned (.bool bb) ∧ (bb = true ↔ 1000 < countT t) ∧ Below w.heap.size w w' := by
  have HU := Lib.hid hu
  clear hu
  have HE := Lib.hid (fun W => tpartsI_any kd h1 h2 b1 b2 e1 e2 ka ca kn kc cn cc W)
  refine (callsIn_wide (n := 3)).1 ?_
  refine callsIn_of_wp_marks Tryz.func37 rfl trivial ?_ rfl
  simp only [Tryz.ntmps37, List.size_toArray, List.length_cons, List.length_nil, Nat.reduceAdd, Nat.reduceSub, Array.replicate_succ, Array.replicate_zero, List.push_toArray, List.append_toArray, List.nil_append, List.cons_append]
  gi_wp2
  refine ⟨trivial, ?_⟩
  with_reducible refine (callsIn_wide.2 (HE.out _)).mono ?_
  rintro e w1 ⟨rfl, rfl⟩
  gi_wp2
  have HSe := Lib.hid (on_new3 w (.cells #[.int .i64 kd, .int .i64 h1, .int .i64 h2, .int .i64 b1, .int .i64 b2, .slice ka kn kc, .slice ca cn cc, .int .i64 e1, .int .i64 e2] 31) (.cells #[.bool false] 4) (.cells #[.int .i64 kd, .int .i64 h1, .int .i64 h2, .int .i64 b1, .int .i64 b2, .slice ka kn kc, .slice ca cn cc, .int .i64 e1, .int .i64 e2] 31) (.int .i64 0) 3 rfl)
  have bR := ((Boxed.new (w.alloc (.cells #[.int .i64 kd, .int .i64 h1, .int .i64 h2, .int .i64 b1, .int .i64 b2, .slice ka kn kc, .slice ca cn cc, .int .i64 e1, .int .i64 e2] 31)) 4 (.bool false)).alloc (.cells #[.int .i64 0] 3)).alloc (.cells #[.int .i64 kd, .int .i64 h1, .int .i64 h2, .int .i64 b1, .int .i64 b2, .slice ka kn kc, .slice ca cn cc, .int .i64 e1, .int .i64 e2] 31)
  have bN := (Boxed.new ((w.alloc (.cells #[.int .i64 kd, .int .i64 h1, .int .i64 h2, .int .i64 b1, .int .i64 b2, .slice ka kn kc, .slice ca cn cc, .int .i64 e1, .int .i64 e2] 31)).alloc (.cells #[.bool false] 4)) 3 (.int .i64 0)).alloc (.cells #[.int .i64 kd, .int .i64 h1, .int .i64 h2, .int .i64 b1, .int .i64 b2, .slice ka kn kc, .slice ca cn cc, .int .i64 e1, .int .i64 e2] 31)
  have hp := heap_alloc_new (((w.alloc (.cells #[.int .i64 kd, .int .i64 h1, .int .i64 h2, .int .i64 b1, .int .i64 b2, .slice ka kn kc, .slice ca cn cc, .int .i64 e1, .int .i64 e2] 31)).alloc (.cells #[.bool false] 4)).alloc (.cells #[.int .i64 0] 3)) (.cells #[.int .i64 kd, .int .i64 h1, .int .i64 h2, .int .i64 b1, .int .i64 b2, .slice ka kn kc, .slice ca cn cc, .int .i64 e1, .int .i64 e2] 31)
  obtain ⟨W0, hW0⟩ : ∃ W0, (((w.alloc (.cells #[.int .i64 kd, .int .i64 h1, .int .i64 h2, .int .i64 b1, .int .i64 b2, .slice ka kn kc, .slice ca cn cc, .int .i64 e1, .int .i64 e2] 31)).alloc (.cells #[.bool false] 4)).alloc (.cells #[.int .i64 0] 3)).alloc (.cells #[.int .i64 kd, .int .i64 h1, .int .i64 h2, .int .i64 b1, .int .i64 b2, .slice ka kn kc, .slice ca cn cc, .int .i64 e1, .int .i64 e2] 31) = W0 := ⟨_, rfl⟩
  have hsz : W0.heap.size = w.heap.size + 4 := by rw [← hW0]; simp
  simp only [World.size_alloc] at bN bR hp
  rw [hW0] at HSe bN bR hp ⊢
  clear hW0
  refine wpIn_rangeFunc_ownF rfl (by omega) (gf := 95) (lb := #[.pointer (some ⟨w.heap.size + 1 + 1 + 1, 0, none⟩)]) rfl trivial (enters_of Tryz.func95 (by kernel_rfl) rfl)
    (tpartsB_stops 2 (w.heap.size + 1 + 1) (w.heap.size + 1 + 1 + 1) w W0 t hcb hd kd h1 h2 b1 b2 e1 e2 ka ca kn kc cn cc HU.out hp HSe.out) (fun h k => h.trans k) (KeepK.turn (by omega) (by omega)) (Below.refl _ _) (fun _ => rfl)
    (fun pre W => Boxed W (w.heap.size + 1 + 1) 3 (.int .i64 (pre.length : Int)) ∧ Boxed W (w.heap.size + 1) 4 (.bool false) ∧ Below w.heap.size w W ∧ pre.length ≤ 1000)
    (fun c pre W => c = .ret ∧ Boxed W (w.heap.size + 1) 4 (.bool true) ∧ Below w.heap.size w W ∧ 1000 < pre.length)
    (OwnFrom.and (Own.from (boxed_own _ _ _) _) (OwnFrom.and (Own.from (boxed_own _ _ _) _) (OwnFrom.and (ownFrom_below (Nat.le_refl _) (by omega)) (fun _ _ _ _ hs _ _ => hs))))
    (fun _ => OwnFrom.and (fun _ _ _ _ hs _ _ => hs) (OwnFrom.and (Own.from (boxed_own _ _ _) _) (OwnFrom.and (ownFrom_below (Nat.le_refl _) (by omega)) (fun _ _ _ _ hs _ _ => hs))))
    ⟨bN, bR, HSe.out.below, Nat.zero_le _⟩
    (fun x => Act.mk #[.agg #[.int .i64 kd, .int .i64 h1, .int .i64 h2, .int .i64 b1, .int .i64 b2, .slice ka kn kc, .slice ca cn cc, .int .i64 e1, .int .i64 e2], .pointer (some ⟨w.heap.size, 0, none⟩), .pointer (some ⟨w.heap.size + 1, 0, none⟩), .pointer (some ⟨w.heap.size + 1 + 1, 0, none⟩), .int .i64 (x.1.1 : Int), .agg #[.int .i64 kd, .int .i64 h1, .int .i64 h2, .int .i64 b1, .int .i64 b2, .slice ka kn kc, .slice ca cn cc, .int .i64 e1, .int .i64 e2],
        .func (.func 95) #[] #[.pointer (some ⟨w.heap.size + 1 + 1 + 1, 0, none⟩)], .int .i64 (x.1.1 : Int), x.1.2.2, undef, undef, undef, undef, undef, undef, undef, undef] []) ?assign ?body ?done ?stop
  case assign =>
    intro lp x W K hK
    simp only [encB]
    gi_wp2
    simpa using hK
  case body =>
    rintro lp pre x W ⟨hb, hr, hB, hle⟩ hlt
    have hc2 := hr.cell
    have hf2 := hr.frozen
    have hc1 := hb.cell
    have hf1 := hb.frozen
    have hd1 := x.2.2
    obtain ⟨dd, hdd⟩ : ∃ dd, dd = x.1.1 := ⟨_, rfl⟩
    rw [← hdd] at hd1 ⊢
    clear hdd
    have hb' : Boxed (W.setCell ⟨w.heap.size + 1 + 1, 0, none⟩ (.int .i64 ((pre.length : Int) + 1))) (w.heap.size + 1 + 1) 3 (.int .i64 ((pre ++ [x]).length : Int)) := by
      have := hb.set (.int .i64 ((pre.length : Int) + 1))
      simpa using this
    by_cases hk : 1000 < pre.length + 1
    · have n1 : (1000 : Int) < (pre.length : Int) + 1 := by omega
      have hr2 := hr.other (B' := w.heap.size + 1 + 1) (by omega) (.int .i64 ((pre.length : Int) + 1))
      have hB2 := hB.setCell (p := ⟨w.heap.size + 1 + 1, 0, none⟩) (by simp; omega) (.int .i64 ((pre.length : Int) + 1))
      gi_wp2
      exact ⟨(KeepsOthers.setCell _ _ _).trans (KeepsOthers.setCell _ _ _), rfl, hr2.set _, hB2.setCell (p := ⟨w.heap.size + 1, 0, none⟩) (by simp) _, by rw [List.length_append]; exact hk⟩
    have n1 : ¬ (1000 : Int) < (pre.length : Int) + 1 := by omega
    have n2 : ¬ (32 : Int) < (dd : Int) := by omega
    gi_wp2
    refine ⟨KeepsOthers.setCell _ _ _, keep_set hb (by omega) rfl, ?_, hr.other (by omega) _, hB.setCell (p := ⟨w.heap.size + 1 + 1, 0, none⟩) (by simp; omega) _, by rw [List.length_append]; show pre.length + 1 ≤ 1000; omega⟩
    exact hb'
  case done =>
    rintro D ys W hD hys ⟨hb, hr, hB, hle⟩ hK
    have hcn : ¬ 1000 < countT t := by
      rw [← partsT_len 0 t, ← hys, List.length_map]
      omega
    have hc1 := hr.cell
    have hf1 := hr.frozen
    have hr2 := hr.set (.bool false)
    have hK2 := (KeepsOthers.setCell W (⟨w.heap.size + 1, 0, none⟩ : Addr) (.bool false)).same D _ hK rfl
    gi_wp2
    refine ⟨by simp, .inl ⟨_, _, rfl, run_takeDeferred hK2, ?_⟩⟩
    refine ⟨_, results_cell_bool rfl _ _ (w.heap.size + 1) false rfl (boxed_put hr2 _ hK2), false, rfl, ⟨fun h => (by cases h), fun h => absurd h hcn⟩, ?_⟩
    exact (hB.setCell (p := ⟨w.heap.size + 1, 0, none⟩) (by simp) _).trans (belowK_b (w := w) (Nat.le_refl _) _ D _ _ (by omega) hK2 rfl rfl)
  case stop =>
    rintro D c pre W hD ⟨r, hr0⟩ ⟨rfl, hr, hB, hgt⟩ hK
    have hcn : 1000 < countT t := by
      rw [← partsT_len 0 t, ← hr0, List.length_append, List.length_map]
      omega
    gi_wp2
    refine ⟨by simp, .inl ⟨_, _, rfl, run_takeDeferred hK, ?_⟩⟩
    refine ⟨_, results_cell_bool rfl _ _ (w.heap.size + 1) true rfl (boxed_put hr _ hK), true, rfl, ⟨fun _ => hcn, fun _ => rfl⟩, ?_⟩
    exact hB.trans (belowK_b (w := w) (Nat.le_refl _) _ D _ _ (by omega) hK rfl rfl)
end Go.Proofs.YtedminjnnhlknaaGreatDoor
