/- Contracts of package fetch: ofMessage. -/
import Derived.Test.YteallnjbpikhhaaGreatDoorGbFeB
import Derived.Test.YteallnjbpikhhaaGreatDoorGbTrI
import Derived.StillTailTactics
namespace Go.Proofs.YteallnjbpikhhaaGreatDoor
open Go Go.RowKit

/-- A spec, and its names as header.Some takes them. -/
structure SpF (W : World) (s : Spc) (a1 a2 : Option Addr) (c1 c2 : Nat) : Prop where
  sp : SpA W s a1 a2 c1 c2
  sn : strsArg W (.slice a2 s.names.length c2) (bsL s.names)
theorem SpF.below {W W' : World} {s : Spc} {a1 a2 : Option Addr} {c1 c2 : Nat} (h : SpF W s a1 a2 c1 c2) (hb : Below W.heap.size W W') : SpF W' s a1 a2 c1 c2 := ⟨h.sp.below hb, strsArg.below h.sn hb⟩
/-- A part's value. -/
def ptV (t : Tr) (ks cs : Value) : Value :=
  .agg #[.int .i64 (t.kind : Int), .int .i64 (t.hd.1 : Int), .int .i64 (t.hd.2 : Int), .int .i64 (t.bd.1 : Int), .int .i64 (t.bd.2 : Int), ks, cs, .int .i64 (t.e.1 : Int), .int .i64 (t.e.2 : Int)]
def ptO (t : Tr) (ks cs : Value) : Obj := partO t.kind t.hd.1 t.hd.2 t.bd.1 t.bd.2 ks cs t.e.1 t.e.2
def spO (s : Spc) (a1 a2 : Option Addr) (c1 c2 : Nat) : Obj :=
  .cells #[.slice a1 s.path.length c1, .int .i64 s.what, .slice a2 s.names.length c2, .bool s.cut, .int .i64 s.frm, .int .i64 s.many] 41 (0, 0)
theorem alloc3 {w X : World} {o1 o2 o3 : Obj} (h : X = ((w.alloc o1).alloc o2).alloc o3) : X.heap.size = w.heap.size + 3 ∧ Below w.heap.size w X ∧ X.heap[w.heap.size]? = some o1 ∧ X.heap[w.heap.size + 1]? = some o2 ∧ X.heap[w.heap.size + 2]? = some o3 := by
  subst h
  refine ⟨by simp, (((Below.refl _ _).alloc (Nat.le_refl _) _).alloc (by simp) _).alloc (by simp; omega) _, ?_, ?_, ?_⟩
  · rw [Below.heap_alloc _ _ _ (by simp; omega), Below.heap_alloc _ _ _ (by simp)]
    exact heap_alloc_new w _
  · rw [Below.heap_alloc _ _ _ (by simp)]
    have := heap_alloc_new (w.alloc o1) o2
    simpa using this
  · have := heap_alloc_new ((w.alloc o1).alloc o2) o3
    simpa using this
theorem alloc2 {w X : World} {o1 o2 : Obj} (h : X = (w.alloc o1).alloc o2) : X.heap.size = w.heap.size + 2 ∧ Below w.heap.size w X ∧ X.heap[w.heap.size]? = some o1 ∧ X.heap[w.heap.size + 1]? = some o2 := by
  subst h
  refine ⟨by simp, ((Below.refl _ _).alloc (Nat.le_refl _) _).alloc (by simp) _, ?_, ?_⟩
  · rw [Below.heap_alloc _ _ _ (by simp)]
    exact heap_alloc_new w _
  · have := heap_alloc_new (w.alloc o1) o2
    simpa using this
theorem sp_cells {W : World} {B : Nat} {p n : Value} {q x y : Int} {c : Bool} (h : W.heap[B]? = some (.cells #[p, .int .i64 q, n, .bool c, .int .i64 x, .int .i64 y] 41 (0, 0))) :
    W.cell? ⟨B, 0, none⟩ = some p ∧ W.cell? ⟨B, 1, none⟩ = some (.int .i64 q) ∧ W.cell? ⟨B, 2, none⟩ = some n ∧ W.cell? ⟨B, 3, none⟩ = some (.bool c) ∧ W.cell? ⟨B, 4, none⟩ = some (.int .i64 x) ∧ W.cell? ⟨B, 5, none⟩ = some (.int .i64 y) := by
  simp [World.cell?, h]
set_option maxRecDepth 100000 in
set_option maxHeartbeats 4000000 in
theorem ofMessage_any (v : Value) (l : List UInt8) (t : Tr) (ks cs : Value) (s : Spc) (a1 a2 : Option Addr) (c1 c2 : Nat) (w : World) (hv : bytesArg w v l) (hl : l.length ≤ 100000) (ht : okT l.length t) (hs : SpF w s a1 a2 c1 c2) :
    Calls Tryz.prog 35 #[v, ptV t ks cs, spV s a1 a2 c1 c2] w (bytesPost (msgL l t s) w) := by
  obtain ⟨⟨o1, o2, o3, o4⟩, _⟩ := okT_open ht
  have HV := Lib.hid hv
  obtain ⟨ao, cap, rfl, hc, hm, _⟩ := hv
  unfold maxLen at hm
  have HSn := Lib.hid hs.sn
  have HBy := Lib.hid (fun F T W h1 h2 h3 => bytesOf_any (.slice ao l.length cap) l F T W h1 h2 h3)
  have HOf := Lib.hid (fun W h1 => of_walk (.slice ao l.length cap) l t.hd.1 t.hd.2 W h1 o1 (by omega) (by omega))
  unfold OfPost at HOf
  have hfs : fieldsL l ((linesS l t.hd.1 t.hd.2).take (eI (linesS l t.hd.1 t.hd.2))) = fsOf l t.hd.1 t.hd.2 := rfl
  rw [hfs] at HOf
  have HSh := Lib.hid (fsOf_short l (f := t.hd.1) (t := t.hd.2) o1 (by omega) (by omega))
  have HIn := Lib.hid (fsOf_in l (f := t.hd.1) (t := t.hd.2) o1 (by omega))
  have HLn : Hid (∀ ns but, (piecesL l ns but (fsOf l t.hd.1 t.hd.2)).length ≤ 1048000) := fun ns but => by
    have := pieces_len3 l ns but _ _ _ (fsOf_chainF l (f := t.hd.1) (t := t.hd.2) o1 (by omega)) (by omega)
    omega
  have HSo := Lib.hid (fun W vf vn ns but h1 h2 h3 => some_any (.slice ao l.length cap) vf vn l (fsOf l t.hd.1 t.hd.2) ns but W h1 h2 h3 HSh.out HIn.out (HLn.out ns but))
  have HM : Hid (msgL l t s = if s.what = 2 then someS l (fsOf l t.hd.1 t.hd.2) (bsL s.names) false
    else if s.what = 3 then someS l (fsOf l t.hd.1 t.hd.2) (bsL s.names) true
    else if s.what = 4 then partS l t.bd.1 t.bd.2
    else if s.what = 0 then partS l t.hd.1 t.bd.2
    else partS l t.hd.1 t.hd.2) := rfl
  obtain ⟨r, hr⟩ : ∃ r, r = msgL l t s := ⟨_, rfl⟩
  rw [← hr] at HM ⊢
  clear hr ht hs hfs HSh HIn HLn
  obtain ⟨fs, hfd⟩ : ∃ fs, fs = fsOf l t.hd.1 t.hd.2 := ⟨_, rfl⟩
  rw [← hfd] at HOf HSo HM
  clear hfd
  obtain ⟨kd, ⟨h1, h2⟩, ⟨b1, b2⟩, kk, cc, ⟨e1, e2⟩⟩ := t
  obtain ⟨p, q, ns, ct, x, y⟩ := s
  simp only [Tr.hd, Tr.bd] at o1 o2 o3 o4 HOf HM
  simp only at HSn HM
  subst o2
  unfold ptV spV bytesPost
  simp only [Tr.hd, Tr.bd, Tr.kind, Tr.e]
  obtain ⟨X, hX⟩ : ∃ X, X = ((w.alloc (.cells #[.int .i64 (kd : Int), .int .i64 (h1 : Int), .int .i64 (h2 : Int), .int .i64 (h2 : Int), .int .i64 (b2 : Int), ks, cs, .int .i64 (e1 : Int), .int .i64 (e2 : Int)] 32)).alloc (.cells #[.slice a1 p.length c1, .int .i64 q, .slice a2 ns.length c2, .bool ct, .int .i64 x, .int .i64 y] 41)).alloc (.cells #[.int .i64 (h1 : Int), .int .i64 (h2 : Int)] 28) := ⟨_, rfl⟩
  obtain ⟨hz, hbX, p0, p1, p2⟩ := alloc3 hX
  obtain ⟨t0, t1, t2, t3, t4, t5, t6, t7, t8⟩ := part_cells p0
  obtain ⟨s0, s1, s2, s3, s4, s5⟩ := sp_cells p1
  have HBX := Lib.hid hbX
  have HP2 := Lib.hid p2
  have u0 : X.cell? ⟨w.heap.size + 2, 0, none⟩ = some (.int .i64 (h1 : Int)) := by simp [World.cell?, p2]
  have u1 : X.cell? ⟨w.heap.size + 2, 1, none⟩ = some (.int .i64 (h2 : Int)) := by simp [World.cell?, p2]
  have g0 : X.frozen? ⟨w.heap.size + 2, 0, none⟩ = false := by simp [World.frozen?, p2]
  have g1 : X.frozen? ⟨w.heap.size + 2, 1, none⟩ = false := by simp [World.frozen?, p2]
  have HXe := Lib.hid hX.symm
  have HZ := Lib.hid hz
  clear hX hz hbX p0 p1 p2
  by_cases w2 : q = 2
  · subst w2
    have HMr : Hid (r = someS l fs (bsL ns) false) := by unfold Hid; rw [HM.out]; simp
    go_enter Tryz.func35, Tryz.ntmps35
    go_upto_region 2 with fail
    rw [HXe.out]
    go_wp2_with fail
    with_reducible refine (HOf.out X (bytesArg.below HV.out HBX.out)).mono ?_
    rintro e w3 ⟨u, rfl, ho, hb3⟩
    have HR3 : Hid (rowF w3 u fs) := rowF_owned ho
    obtain ⟨fo, fc, rfl, hfc, hfm, _⟩ := HR3.out.at
    have HB3 := Lib.hid (HBX.out.trans (hb3.mono HBX.out.size))
    replace s1 := (hb3.cell (p := ⟨w.heap.size + 1, 1, none⟩) (by have := HZ.out; show w.heap.size + 1 < X.heap.size; omega)).trans s1
    replace s2 := (hb3.cell (p := ⟨w.heap.size + 1, 2, none⟩) (by have := HZ.out; show w.heap.size + 1 < X.heap.size; omega)).trans s2
    clear ho hb3 t0 t1 t2 t3 t4 t5 t6 t7 t8 s0 s3 s4 s5 u0 u1 g0 g1
    go_wp2_with fail
    with_reducible refine (HSo.out w3 _ _ (bsL ns) false (bytesArg.below HV.out HB3.out) HR3.out (strsArg.below HSn.out HB3.out)).mono ?_
    rintro e w4 ⟨u4, rfl, ho4, hb4⟩
    have HU := Lib.hid (bytesArg_owned ho4)
    have HB4 := Lib.hid (HB3.out.trans (hb4.mono HB3.out.size))
    clear ho4 hb4
    go_wp2_with fail
    go_ret
    rw [HMr.out]
    exact ⟨u4, rfl, HU.out, HB4.out⟩
  by_cases w3 : q = 3
  · subst w3
    have HMr : Hid (r = someS l fs (bsL ns) true) := by unfold Hid; rw [HM.out]; simp
    go_enter Tryz.func35, Tryz.ntmps35
    go_upto_region 2 with fail
    rw [HXe.out]
    go_wp2_with fail
    with_reducible refine (HOf.out X (bytesArg.below HV.out HBX.out)).mono ?_
    rintro e w3 ⟨u, rfl, ho, hb3⟩
    have HR3 : Hid (rowF w3 u fs) := rowF_owned ho
    obtain ⟨fo, fc, rfl, hfc, hfm, _⟩ := HR3.out.at
    have HB3 := Lib.hid (HBX.out.trans (hb3.mono HBX.out.size))
    replace s1 := (hb3.cell (p := ⟨w.heap.size + 1, 1, none⟩) (by have := HZ.out; show w.heap.size + 1 < X.heap.size; omega)).trans s1
    replace s2 := (hb3.cell (p := ⟨w.heap.size + 1, 2, none⟩) (by have := HZ.out; show w.heap.size + 1 < X.heap.size; omega)).trans s2
    clear ho hb3 t0 t1 t2 t3 t4 t5 t6 t7 t8 s0 s3 s4 s5 u0 u1 g0 g1
    go_wp2_with fail
    with_reducible refine (HSo.out w3 _ _ (bsL ns) true (bytesArg.below HV.out HB3.out) HR3.out (strsArg.below HSn.out HB3.out)).mono ?_
    rintro e w4 ⟨u4, rfl, ho4, hb4⟩
    have HU := Lib.hid (bytesArg_owned ho4)
    have HB4 := Lib.hid (HB3.out.trans (hb4.mono HB3.out.size))
    clear ho4 hb4
    go_wp2_with fail
    go_ret
    rw [HMr.out]
    exact ⟨u4, rfl, HU.out, HB4.out⟩
  have bq2 := beq_no w2
  have bq3 := beq_no w3
  by_cases w4 : q = 4
  · subst w4
    have HMr : Hid (r = partS l h2 b2) := by unfold Hid; rw [HM.out]; simp
    clear HM
    go_enter Tryz.func35, Tryz.ntmps35
    go_upto_region 2 with fail
    rw [HXe.out]
    go_wp2_with fail
    with_reducible refine (HBy.out h2 b2 _ ?k1 ?k2 ?k3).mono ?_
    case k1 => exact bytesArg.below HV.out ((HBX.out.setCell (p := ⟨w.heap.size + 2, 0, none⟩) (by simp) _).setCell (p := ⟨w.heap.size + 2, 1, none⟩) (by simp) _)
    case k2 => omega
    case k3 => omega
    rintro e w3 ⟨u, rfl, hu, hb⟩
    have HU := Lib.hid hu
    have HB3 : Hid (Below w.heap.size w w3) := ((HBX.out.setCell (p := ⟨w.heap.size + 2, 0, none⟩) (by simp) _).setCell (p := ⟨w.heap.size + 2, 1, none⟩) (by simp) _).trans (hb.mono (Below.size ((HBX.out.setCell (p := ⟨w.heap.size + 2, 0, none⟩) (by simp) _).setCell (p := ⟨w.heap.size + 2, 1, none⟩) (by simp) _)))
    clear hu hb
    go_wp2_with fail
    go_ret
    rw [HMr.out]
    exact ⟨u, rfl, HU.out, HB3.out⟩
  have bq4 := beq_no w4
  by_cases w0 : q = 0
  · subst w0
    have HMr : Hid (r = partS l h1 b2) := by unfold Hid; rw [HM.out]; simp
    clear HM
    go_enter Tryz.func35, Tryz.ntmps35
    go_upto_region 2 with fail
    rw [HXe.out]
    go_wp2_with fail
    with_reducible refine (HBy.out h1 b2 _ ?k1 ?k2 ?k3).mono ?_
    case k1 => exact bytesArg.below HV.out (HBX.out.setCell (p := ⟨w.heap.size + 2, 1, none⟩) (by simp) _)
    case k2 => omega
    case k3 => omega
    rintro e w3 ⟨u, rfl, hu, hb⟩
    have HU := Lib.hid hu
    have HB3 : Hid (Below w.heap.size w w3) := (HBX.out.setCell (p := ⟨w.heap.size + 2, 1, none⟩) (by simp) _).trans (hb.mono (Below.size (HBX.out.setCell (p := ⟨w.heap.size + 2, 1, none⟩) (by simp) _)))
    clear hu hb
    go_wp2_with fail
    go_ret
    rw [HMr.out]
    exact ⟨u, rfl, HU.out, HB3.out⟩
  have bq0 := beq_no w0
  have HMr : Hid (r = partS l h1 h2) := by unfold Hid; rw [HM.out]; rw [if_neg w2, if_neg w3, if_neg w4, if_neg w0]
  clear HM
  go_enter Tryz.func35, Tryz.ntmps35
  go_upto_region 2 with fail
  rw [HXe.out]
  go_wp2_with fail
  with_reducible refine (HBy.out h1 h2 _ ?k1 ?k2 ?k3).mono ?_
  case k1 => exact bytesArg.below HV.out (HBX.out)
  case k2 => omega
  case k3 => omega
  rintro e w3 ⟨u, rfl, hu, hb⟩
  have HU := Lib.hid hu
  have HB3 : Hid (Below w.heap.size w w3) := (HBX.out).trans (hb.mono (Below.size (HBX.out)))
  clear hu hb
  go_wp2_with fail
  go_ret
  rw [HMr.out]
  exact ⟨u, rfl, HU.out, HB3.out⟩
end Go.Proofs.YteallnjbpikhhaaGreatDoor

/- Contracts of package fetch: ofPart. -/
namespace Go.Proofs.YteallnjbpikhhaaGreatDoor
open Go Go.RowKit

/-- A tree in memory, wherever its rows lie. -/
def tAt (W : World) (t : Tr) (u : Value) : Prop := treeAt (fun _ => True) W t u
theorem tAt.below {W W' : World} {t : Tr} {u : Value} (h : tAt W t u) (hb : Below W.heap.size W W') : tAt W' t u := treeAt.keep (fun q _ hq => ⟨hb.block q hq, trivial⟩) _ _ h
theorem tAt.of {S : Nat → Prop} {W : World} {t : Tr} {u : Value} (h : treeAt S W t u) : tAt W t u := treeAt.keep (fun _ _ _ => ⟨rfl, trivial⟩) _ _ h
/-- A row of parts: its cells in one world, what hangs on them in another. -/
def rowQ (w0 W : World) (ka : Option Addr) (kc : Nat) (ts : List Tr) : Prop :=
  ts.length ≤ kc ∧ kc ≤ maxLen ∧ ∀ i, (h : i < ts.length) → ∃ g a n c a2 n2 c2, ka = some ⟨g, 0, none⟩ ∧ g < W.heap.size ∧ nineAt W g i ts[i] (.slice a n c) (.slice a2 n2 c2) ∧ tAt w0 ts[i] (ptV ts[i] (.slice a n c) (.slice a2 n2 c2))
theorem tAt.kids {W : World} {t : Tr} {ks cs : Value} (h : tAt W t (ptV t ks cs)) : ∃ ka kc ca cn cc, ks = .slice ka t.kids.length kc ∧ cs = .slice ca cn cc ∧ rowQ W W ka kc t.kids := by
  obtain ⟨ka, kn, kc, ca, cn, cc, us, he, _, ho, hk⟩ := treeAt_open h
  unfold ptV at he
  simp only [Value.agg.injEq, Array.mk.injEq, List.cons.injEq] at he
  obtain ⟨_, _, _, _, _, rfl, rfl, _⟩ := he
  obtain ⟨rfl, hkc, hkm, hat⟩ := kids_at ho hk
  refine ⟨ka, kc, ca, cn, cc, rfl, rfl, hkc, hkm, fun i hi => ?_⟩
  obtain ⟨g, a, n, c, a2, n2, c2, h1, h2, _, h3, h4⟩ := hat i hi
  exact ⟨g, a, n, c, a2, n2, c2, h1, h2, h3, h4⟩
theorem rowQ.below {w0 W W' : World} {ka : Option Addr} {kc : Nat} {ts : List Tr} (h : rowQ w0 W ka kc ts) (hb : Below W.heap.size W W') : rowQ w0 W' ka kc ts := by
  obtain ⟨h1, h2, h3⟩ := h
  refine ⟨h1, h2, fun i hi => ?_⟩
  obtain ⟨g, a, n, c, a2, n2, c2, e, hg, hn, ht⟩ := h3 i hi
  exact ⟨g, a, n, c, a2, n2, c2, e, Nat.lt_of_lt_of_le hg hb.size, hn.block (hb.block g hg), ht⟩
set_option maxRecDepth 100000 in
set_option maxHeartbeats 4000000 in
theorem ofPart_any (v : Value) (l : List UInt8) (t : Tr) (ks cs : Value) (s : Spc) (a1 a2 : Option Addr) (c1 c2 : Nat) (w : World) (hv : bytesArg w v l) (hl : l.length ≤ 100000) (ht : okT l.length t) (hta : tAt w t (ptV t ks cs)) (hs : SpF w s a1 a2 c1 c2) :
    Calls Tryz.prog 36 #[v, ptV t ks cs, spV s a1 a2 c1 c2] w (bytesPost (prtL l t s) w) := by
  obtain ⟨⟨o1, o2, o3, o4⟩, hok⟩ := okT_open ht
  obtain ⟨ka, kc, ca, cn, cc, rfl, rfl, hrow⟩ := hta.kids
  have HV := Lib.hid hv
  obtain ⟨ao, cap, rfl, hc, hm, _⟩ := hv
  unfold maxLen at hm
  have HSp := Lib.hid hs
  have HBy := Lib.hid (fun F T W h1 h2 h3 => bytesOf_any (.slice ao l.length cap) l F T W h1 h2 h3)
  have HM0 : Hid (s.what = 0 → prtL l t s = partS l t.bd.1 t.bd.2) := fun h => by unfold prtL; rw [if_pos h]
  have HM5 : Hid (s.what = 5 → prtL l t s = partS l t.hd.1 t.hd.2) := fun h => by unfold prtL; rw [if_neg (by omega), if_pos h]
  have HMk : Hid (¬ s.what = 0 → ¬ s.what = 5 → t.kind = 2 → prtL l t s = kidL l t s) := fun h1 h2 h3 => by unfold prtL; rw [if_neg h1, if_neg h2, if_pos h3]
  have HMn : Hid (¬ s.what = 0 → ¬ s.what = 5 → ¬ t.kind = 2 → prtL l t s = []) := fun h1 h2 h3 => by unfold prtL; rw [if_neg h1, if_neg h2, if_neg h3]
  have HOm := Lib.hid (fun (k : Tr) ks' cs' W h1 h2 h3 => ofMessage_any (.slice ao l.length cap) l k ks' cs' s a1 a2 c1 c2 W h1 hl h2 h3)
  have HOk := Lib.hid hok
  have HRow := Lib.hid hrow
  obtain ⟨r, hr⟩ : ∃ r, r = prtL l t s := ⟨_, rfl⟩
  rw [← hr] at HM0 HM5 HMk HMn ⊢
  have HKl : Hid (∀ k q, t.kids = k :: q → kidL l t s = msgL l k s) := fun k q e => by unfold kidL; rw [e]
  have HKn : Hid (t.kids = [] → kidL l t s = []) := fun e => by unfold kidL; rw [e]
  obtain ⟨kr, hkr⟩ : ∃ kr, kr = kidL l t s := ⟨_, rfl⟩
  rw [← hkr] at HMk HKl HKn
  clear hr ht hs hta hok hrow hkr
  obtain ⟨kd, ⟨h1, h2⟩, ⟨b1, b2⟩, kk, cc', ⟨e1, e2⟩⟩ := t
  simp only [Tr.hd, Tr.bd, Tr.kids, Tr.kind] at o1 o2 o3 o4 HM0 HM5 HMk HMn HOk HRow HKl HKn
  subst o2
  obtain ⟨p, q, ns, ct, x, y⟩ := s
  simp only at HM0 HM5 HMk HMn
  unfold ptV spV bytesPost
  unfold ptV spV bytesPost at HOm
  simp only [Tr.hd, Tr.bd, Tr.kind, Tr.e, Tr.kids]
  simp only at HOm
  obtain ⟨X, hX⟩ : ∃ X, X = (w.alloc (.cells #[.int .i64 (kd : Int), .int .i64 (h1 : Int), .int .i64 (h2 : Int), .int .i64 (h2 : Int), .int .i64 (b2 : Int), .slice ka kk.length kc, .slice ca cn cc, .int .i64 (e1 : Int), .int .i64 (e2 : Int)] 32)).alloc (.cells #[.slice a1 p.length c1, .int .i64 q, .slice a2 ns.length c2, .bool ct, .int .i64 x, .int .i64 y] 41) := ⟨_, rfl⟩
  obtain ⟨hz, hbX, p0, p1⟩ := alloc2 hX
  obtain ⟨t0, t1, t2, t3, t4, t5, t6, t7, t8⟩ := part_cells p0
  obtain ⟨s0, s1, s2, s3, s4, s5⟩ := sp_cells p1
  have HBX := Lib.hid hbX
  have HXe := Lib.hid hX.symm
  have HVX := Lib.hid (bytesArg.below HV.out hbX)
  have HSX := Lib.hid (HSp.out.below hbX)
  clear hX hz hbX p0 p1
  by_cases w0 : q = 0
  · subst w0
    have HMr : Hid (r = partS l h2 b2) := HM0.out rfl
    go_enter Tryz.func36, Tryz.ntmps36
    go_upto_region 2 with fail
    rw [HXe.out]
    go_wp2_with fail
    with_reducible refine (HBy.out h2 b2 X HVX.out o3 o4).mono ?_
    rintro e w3 ⟨u, rfl, hu, hb⟩
    have HU := Lib.hid hu
    have HB3 : Hid (Below w.heap.size w w3) := HBX.out.trans (hb.mono HBX.out.size)
    clear hu hb
    go_wp2_with fail
    go_ret
    rw [HMr.out]
    exact ⟨u, rfl, HU.out, HB3.out⟩
  have bq0 := beq_no w0
  by_cases w5 : q = 5
  · subst w5
    have HMr : Hid (r = partS l h1 h2) := HM5.out rfl
    have ho : h2 ≤ l.length := by omega
    go_enter Tryz.func36, Tryz.ntmps36
    go_upto_region 2 with fail
    rw [HXe.out]
    go_wp2_with fail
    with_reducible refine (HBy.out h1 h2 X HVX.out o1 ho).mono ?_
    rintro e w3 ⟨u, rfl, hu, hb⟩
    have HU := Lib.hid hu
    have HB3 : Hid (Below w.heap.size w w3) := HBX.out.trans (hb.mono HBX.out.size)
    clear hu hb
    go_wp2_with fail
    go_ret
    rw [HMr.out]
    exact ⟨u, rfl, HU.out, HB3.out⟩
  have bq5 := beq_no w5
  by_cases k2 : kd = 2
  · have bk2 : ((kd : Int) == 2) = true := beq_yes (by omega)
    have HMr : Hid (r = kr) := HMk.out w0 w5 k2
    cases kk with
    | nil =>
      have HR : Hid (r = []) := by unfold Hid; rw [HMr.out]; exact HKn.out rfl
      simp only [List.length_nil] at t5 HXe ⊢
      clear HM0 HM5 HMk HMn HMr HKn HKl w0 w5 k2
      go_enter Tryz.func36, Tryz.ntmps36
      go_upto_region 2 with fail
      rw [HXe.out]
      go_wp2_with fail
      go_ret
      rw [HR.out]
      exact ⟨_, rfl, bytesArg_nil _, HBX.out⟩
    | cons k kr' =>
      have HR : Hid (r = msgL l k ⟨p, q, ns, ct, x, y⟩) := by unfold Hid; rw [HMr.out]; exact HKl.out k kr' rfl
      obtain ⟨hkc, hkm, hat⟩ := HRow.out
      obtain ⟨g, ga, gn, gc, ga2, gn2, gc2, hka, hg, h9, _⟩ := hat 0 (by simp)
      have hok : okT l.length k := okK_mem HOk.out k List.mem_cons_self
      have HOk1 := Lib.hid hok
      subst hka
      obtain ⟨n0, n1, n2, n3, n4, n5, n6, n7, n8⟩ := h9.block (HBX.out.block g hg)
      simp only [List.getElem_cons_zero, Nat.zero_mul, Nat.zero_add] at n0 n1 n2 n3 n4 n5 n6 n7 n8
      simp only [List.length_cons] at t5 hkc HXe ⊢
      have HC := Lib.hid (HOm.out k (.slice ga gn gc) (.slice ga2 gn2 gc2))
      clear HM0 HM5 HMk HMn HMr HKn HKl hat h9 w0 w5 k2 hok
      go_enter Tryz.func36, Tryz.ntmps36
      go_upto_region 2 with fail
      rw [HXe.out]
      go_wp2_with fail
      go_still_tail 6, (by kernel_rfl)
      change wpList _ _ _ _ _ X.drew
      obtain ⟨Y, hY⟩ : ∃ Y, Y = X.drew := ⟨_, rfl⟩
      rw [← hY]
      have HBY : Hid (Below X.heap.size X Y) := by rw [hY]; exact (Below.refl _ _).drew
      clear hY
      go_wp2_with fail
      with_reducible refine (HC.out Y ?k1 ?k2 ?k3).mono ?_
      case k1 => exact bytesArg.below HVX.out HBY.out
      case k2 => exact HOk1.out
      case k3 => exact HSX.out.below HBY.out
      rintro e w3 ⟨u, rfl, hu, hb⟩
      have HU := Lib.hid hu
      have HB3 : Hid (Below w.heap.size w w3) := HBX.out.trans ((HBY.out.trans (hb.mono HBY.out.size)).mono HBX.out.size)
      clear hu hb
      go_wp2_with fail
      go_ret
      rw [HR.out]
      exact ⟨u, rfl, HU.out, HB3.out⟩
  · have bk2 : ((kd : Int) == 2) = false := beq_no (by omega)
    have HR : Hid (r = []) := HMn.out w0 w5 k2
    clear HM0 HM5 HMk HMn HKn HKl w0 w5 k2
    go_enter Tryz.func36, Tryz.ntmps36
    go_upto_region 2 with fail
    rw [HXe.out]
    go_wp2_with fail
    go_ret
    rw [HR.out]
    exact ⟨_, rfl, bytesArg_nil _, HBX.out⟩
end Go.Proofs.YteallnjbpikhhaaGreatDoor

/- Contracts of package fetch: partsOf. -/
namespace Go.Proofs.YteallnjbpikhhaaGreatDoor
open Go Go.RowKit

def rowPost (w0 : World) (ts : List Tr) (w : World) (e : Ending) (w' : World) : Prop := ∃ ka kc, e = .returned (.slice ka ts.length kc) ∧ rowQ w0 w' ka kc ts ∧ Below w.heap.size w w'
theorem rowQ_nil (w0 W : World) : rowQ w0 W none 0 [] := ⟨Nat.le_refl _, Nat.zero_le _, fun i h => by simp at h⟩
theorem rowQ_one {w0 W : World} {g : Nat} {t : Tr} {a a2 : Option Addr} {n c n2 c2 : Nat} (hg : W.heap[g]? = some (ptO t (.slice a n c) (.slice a2 n2 c2))) (h : tAt w0 t (ptV t (.slice a n c) (.slice a2 n2 c2))) : rowQ w0 W (some ⟨g, 0, none⟩) 1 [t] := by
  refine ⟨Nat.le_refl _, by unfold maxLen; decide, fun i hi => ?_⟩
  obtain rfl : i = 0 := by simpa using hi
  obtain ⟨t0, t1, t2, t3, t4, t5, t6, t7, t8⟩ := part_cells hg
  refine ⟨g, a, n, c, a2, n2, c2, rfl, (Array.getElem?_eq_some_iff.1 hg).1, ?_, h⟩
  exact ⟨t0, t1, t2, t3, t4, t5, t6, t7, t8⟩
set_option maxRecDepth 100000 in
set_option maxHeartbeats 4000000 in
theorem partsOf_true (t : Tr) (ks cs : Value) (w0 w : World) (hb0 : Below w0.heap.size w0 w) (hta : tAt w0 t (ptV t ks cs)) :
    Calls Tryz.prog 47 #[ptV t ks cs, .bool true] w (rowPost w0 (partsM t) w) := by
  obtain ⟨ka, kc, ca, cn, cc, rfl, rfl, hrow⟩ := hta.kids
  have HRow : Hid (rowQ w0 w ka kc t.kids) := by
    obtain ⟨h1, h2, h3⟩ := hrow
    refine ⟨h1, h2, fun i hi => ?_⟩
    obtain ⟨g, a, n, c, a2, n2, c2, e, hg, hn, ht⟩ := h3 i hi
    exact ⟨g, a, n, c, a2, n2, c2, e, Nat.lt_of_lt_of_le hg hb0.size, hn.block (hb0.block g hg), ht⟩
  have HTa := Lib.hid hta
  have HM1 : Hid (t.kind = 1 → partsM t = t.kids) := fun h => by unfold partsM; rw [if_pos h]
  have HM0 : Hid (¬ t.kind = 1 → partsM t = [t]) := fun h => by unfold partsM; rw [if_neg h]
  obtain ⟨r, hr⟩ : ∃ r, r = partsM t := ⟨_, rfl⟩
  rw [← hr] at HM1 HM0 ⊢
  clear hr hta hrow hb0
  obtain ⟨kd, ⟨h1, h2⟩, ⟨b1, b2⟩, kk, cc', ⟨e1, e2⟩⟩ := t
  simp only [Tr.kind, Tr.kids] at HM1 HM0 HRow
  unfold ptV rowPost
  simp only [Tr.hd, Tr.bd, Tr.kind, Tr.e, Tr.kids]
  obtain ⟨X, hX⟩ : ∃ X, X = w.alloc (.cells #[.int .i64 (kd : Int), .int .i64 (h1 : Int), .int .i64 (h2 : Int), .int .i64 (b1 : Int), .int .i64 (b2 : Int), .slice ka kk.length kc, .slice ca cn cc, .int .i64 (e1 : Int), .int .i64 (e2 : Int)] 32) := ⟨_, rfl⟩
  have hbX : Below w.heap.size w X := by rw [hX]; exact (Below.refl _ _).alloc (Nat.le_refl _) _
  have p0 : X.heap[w.heap.size]? = some (partO kd h1 h2 b1 b2 (.slice ka kk.length kc) (.slice ca cn cc) e1 e2) := by rw [hX]; exact heap_alloc_new w _
  obtain ⟨t0, t1, t2, t3, t4, t5, t6, t7, t8⟩ := part_cells p0
  have HBX := Lib.hid hbX
  have HXe := Lib.hid hX.symm
  clear hX hbX p0
  by_cases k1 : kd = 1
  · have bk1 : ((kd : Int) == 1) = true := beq_yes (by omega)
    have HR : Hid (r = kk) := HM1.out k1
    clear HM1 HM0 k1
    go_enter Tryz.func47, Tryz.ntmps47
    go_upto_region 2 with fail
    rw [HXe.out]
    go_wp2_with fail
    go_ret
    rw [HR.out]
    exact ⟨ka, kc, rfl, HRow.out.below HBX.out, HBX.out⟩
  · have bk1 : ((kd : Int) == 1) = false := beq_no (by omega)
    have HR : Hid (r = [.mk kd (h1, h2) (b1, b2) kk cc' (e1, e2)]) := HM0.out k1
    clear HM1 HM0 k1
    go_enter Tryz.func47, Tryz.ntmps47
    go_upto_region 2 with fail
    rw [HXe.out]
    go_wp2_with fail
    go_ret
    rw [HR.out]
    have HBY := Lib.hid (HBX.out.alloc HBX.out.size (.cells #[.int .i64 (kd : Int), .int .i64 (h1 : Int), .int .i64 (h2 : Int), .int .i64 (b1 : Int), .int .i64 (b2 : Int), .slice ka kk.length kc, .slice ca cn cc, .int .i64 (e1 : Int), .int .i64 (e2 : Int)] 32))
    exact ⟨some ⟨X.heap.size, 0, none⟩, 1, rfl, rowQ_one (heap_alloc_new X _) HTa.out, HBY.out⟩
set_option maxRecDepth 100000 in
set_option maxHeartbeats 4000000 in
theorem partsOf_false (t : Tr) (ks cs : Value) (w0 w : World) (hb0 : Below w0.heap.size w0 w) (hta : tAt w0 t (ptV t ks cs)) :
    Calls Tryz.prog 47 #[ptV t ks cs, .bool false] w (rowPost w0 (partsP t) w) := by
  obtain ⟨ka, kc, ca, cn, cc, rfl, rfl, hrow⟩ := hta.kids
  have HRow : Hid (rowQ w0 w ka kc t.kids) := by
    obtain ⟨h1, h2, h3⟩ := hrow
    refine ⟨h1, h2, fun i hi => ?_⟩
    obtain ⟨g, a, n, c, a2, n2, c2, e, hg, hn, ht⟩ := h3 i hi
    exact ⟨g, a, n, c, a2, n2, c2, e, Nat.lt_of_lt_of_le hg hb0.size, hn.block (hb0.block g hg), ht⟩
  have HB0 := Lib.hid hb0
  have HM1 : Hid (t.kind = 1 → partsP t = t.kids) := fun h => by unfold partsP; rw [if_pos h]
  have HM2 : Hid (t.kind = 2 → ∀ k q, t.kids = k :: q → partsP t = partsM k) := fun h k q e => by unfold partsP kidM; rw [if_neg (by omega), if_pos h, e]
  have HMn : Hid (t.kind = 2 → t.kids = [] → partsP t = []) := fun h e => by unfold partsP kidM; rw [if_neg (by omega), if_pos h, e]
  have HM0 : Hid (¬ t.kind = 1 → ¬ t.kind = 2 → partsP t = []) := fun h h2 => by unfold partsP; rw [if_neg h, if_neg h2]
  obtain ⟨r, hr⟩ : ∃ r, r = partsP t := ⟨_, rfl⟩
  rw [← hr] at HM1 HM2 HMn HM0 ⊢
  clear hr hta hrow hb0
  obtain ⟨kd, ⟨h1, h2⟩, ⟨b1, b2⟩, kk, cc', ⟨e1, e2⟩⟩ := t
  simp only [Tr.kind, Tr.kids] at HM1 HM2 HMn HM0 HRow
  unfold ptV rowPost
  simp only [Tr.hd, Tr.bd, Tr.kind, Tr.e, Tr.kids]
  obtain ⟨X, hX⟩ : ∃ X, X = w.alloc (.cells #[.int .i64 (kd : Int), .int .i64 (h1 : Int), .int .i64 (h2 : Int), .int .i64 (b1 : Int), .int .i64 (b2 : Int), .slice ka kk.length kc, .slice ca cn cc, .int .i64 (e1 : Int), .int .i64 (e2 : Int)] 32) := ⟨_, rfl⟩
  have hbX : Below w.heap.size w X := by rw [hX]; exact (Below.refl _ _).alloc (Nat.le_refl _) _
  have p0 : X.heap[w.heap.size]? = some (partO kd h1 h2 b1 b2 (.slice ka kk.length kc) (.slice ca cn cc) e1 e2) := by rw [hX]; exact heap_alloc_new w _
  obtain ⟨t0, t1, t2, t3, t4, t5, t6, t7, t8⟩ := part_cells p0
  have HBX := Lib.hid hbX
  have HXe := Lib.hid hX.symm
  clear hX hbX p0
  by_cases k1 : kd = 1
  · have bk1 : ((kd : Int) == 1) = true := beq_yes (by omega)
    have HR : Hid (r = kk) := HM1.out k1
    clear HM1 HM2 HMn HM0 k1
    go_enter Tryz.func47, Tryz.ntmps47
    go_upto_region 2 with fail
    rw [HXe.out]
    go_wp2_with fail
    go_ret
    rw [HR.out]
    exact ⟨ka, kc, rfl, HRow.out.below HBX.out, HBX.out⟩
  have bk1 : ((kd : Int) == 1) = false := beq_no (by omega)
  by_cases k2 : kd = 2
  · have bk2 : ((kd : Int) == 2) = true := beq_yes (by omega)
    cases kk with
    | nil =>
      have HR : Hid (r = []) := HMn.out k2 rfl
      clear HM1 HM2 HMn HM0 k1 k2
      simp only [List.length_nil] at t5 HXe ⊢
      go_enter Tryz.func47, Tryz.ntmps47
      go_upto_region 2 with fail
      rw [HXe.out]
      go_wp2_with fail
      go_ret
      rw [HR.out]
      exact ⟨none, 0, rfl, rowQ_nil _ _, HBX.out⟩
    | cons k kr' =>
      have HR : Hid (r = partsM k) := HM2.out k2 k kr' rfl
      obtain ⟨hkc, hkm, hat⟩ := HRow.out
      obtain ⟨g, ga, gn, gc, ga2, gn2, gc2, hka, hg, h9, htk⟩ := hat 0 (by simp)
      subst hka
      obtain ⟨n0, n1, n2, n3, n4, n5, n6, n7, n8⟩ := h9.block (HBX.out.block g hg)
      simp only [List.getElem_cons_zero, Nat.zero_mul, Nat.zero_add] at n0 n1 n2 n3 n4 n5 n6 n7 n8 htk
      simp only [List.length_cons] at t5 hkc HXe ⊢
      have HC := Lib.hid (partsOf_true k (.slice ga gn gc) (.slice ga2 gn2 gc2) w0 X (HB0.out.trans (HBX.out.mono HB0.out.size)) htk)
      unfold ptV rowPost at HC
      clear HM1 HM2 HMn HM0 hat h9 htk k1 k2
      go_enter Tryz.func47, Tryz.ntmps47
      go_upto_region 2 with fail
      rw [HXe.out]
      go_wp2_with fail
      with_reducible refine HC.out.mono ?_
      rintro e w3 ⟨ka3, kc3, rfl, hq, hb⟩
      have HQ := Lib.hid hq
      have HB3 : Hid (Below w.heap.size w w3) := HBX.out.trans (hb.mono HBX.out.size)
      clear hq hb
      go_wp2_with fail
      go_ret
      rw [HR.out]
      exact ⟨ka3, kc3, rfl, HQ.out, HB3.out⟩
  · have bk2 : ((kd : Int) == 2) = false := beq_no (by omega)
    have HR : Hid (r = []) := HM0.out k1 k2
    clear HM1 HM2 HMn HM0 k1 k2
    go_enter Tryz.func47, Tryz.ntmps47
    go_upto_region 2 with fail
    rw [HXe.out]
    go_wp2_with fail
    go_ret
    rw [HR.out]
    exact ⟨none, 0, rfl, rowQ_nil _ _, HBX.out⟩
end Go.Proofs.YteallnjbpikhhaaGreatDoor
