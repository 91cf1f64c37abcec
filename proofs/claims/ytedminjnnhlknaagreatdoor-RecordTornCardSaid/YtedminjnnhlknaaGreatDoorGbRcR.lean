/- Contract of package record's appendNumbers, to the row of a literal: that row is marked behind its last cell, so it is no row of the call's own; the first append leaves it. -/
import Derived.Test.YtedminjnnhlknaaGreatDoorGbRcJ
import Derived.Test.YtedminjnnhlknaaGreatDoorGbRcL
import Derived.Test.YtedminjnnhlknaaGreatDoorGbRcN
import Derived.Test.YtedminjnnhlknaaGreatDoorGbCrcC
import Derived.Lib.SlBytesConst
import Derived.Test.YtedminjnnhlknaaGreatDoorGbRcF
import Derived.Test.YtedminjnnhlknaaGreatDoorGbTrB
namespace Go.Proofs.YtedminjnnhlknaaGreatDoor
open Go Go.RowKit
theorem run_append_full {P : Program} (w : World) (base : Nat) (t ty e : TypeId) (i : TypeInfo) (ht : P.underlying t = some (.slice e)) (hi : P.info? e = some i) (hz : i.zero = some (.int .u8 0)) (hsize : i.size = 1) (hby : i.bytes = 1)
  (g n : Nat) (xs : List Value) (hn : xs.length = n) (hold : ∀ j u, xs[j]? = some u → w.cell? ((⟨g, 0, none⟩ : Addr).add j) = some u) (ad : Addr) (m c : Nat) (news : List Value) (hl : news.length = m) (hnews : ∀ j u, news[j]? = some u → w.cell? (ad.add j) = some u)
  (hm : 0 < m) (h63 : n + m ≤ maxLen) (hbytes : (n + m) * 1 ≤ 140737488355328) (hbase : base ≤ w.heap.size) :
  ∃ cap w', (Builtin.append_ #[t, t] ty #[.slice (some ⟨g, 0, none⟩) n n, .slice (some ad) m c]).run P w = .ok (.slice (some ⟨w.heap.size, 0, none⟩) (n + m) cap) w' ∧
   w'.ownsRow base e 1 (.slice (some ⟨w.heap.size, 0, none⟩) (n + m) cap) (n + m) (xs ++ news) ∧ (∀ row, w.grownBy w' row) ∧ w.heap.size < w'.heap.size := by
 subst hn hl
 have hsmall : xs.length + news.length ≤ 9223372036854775807 := by simp only [maxLen] at h63; omega
 have hb2 : (xs.length + news.length) * i.bytes ≤ 140737488355328 := by rw [hby]; exact hbytes
 have hr := run_append_grow (P := P) w t ty e i _ ht hi hz ⟨g, 0, none⟩ xs.length xs.length xs (by rw [hsize, Nat.mul_one]) hold ad news.length c news (by rw [hsize, Nat.mul_one]) hnews (by omega) (by omega) (growslice_fits (by omega) hb2)
 have hge := grownCap_ge w (xs.length + news.length) xs.length e
 have hcm : grownCap w (xs.length + news.length) xs.length e ≤ maxLen := grownCap_le_maxLen w _ _ e h63
 refine ⟨_, _, hr, ⟨by rw [List.length_append, Nat.mul_one], .inr ⟨w.heap.size, _, _, rfl, hbase, heap_alloc_new w.drew _, hge, hcm, ?_, ?_⟩⟩, fun row => ⟨rfl, rfl, rfl, by simp, fun k hk _ => heap_alloc_old w.drew _ hk⟩, by simp⟩
 ·simp only [Array.size_append, List.size_toArray, size_zeroCells]
  show xs.length + news.length + _ * 1 = _
  omega
 ·simp only [Array.toList_append, Nat.mul_one]
  rw [show xs.length + news.length = (xs ++ news).length by rw [List.length_append]]
  exact List.take_left
def rowC (base : Nat) (xs0 : List UInt8) (v : Value) (xs : List UInt8) (w : World) : Prop := rowB base v xs w ∨ (xs = xs0 ∧ ∃ g, v = .slice (some ⟨g, 0, none⟩) xs.length xs.length ∧ base ≤ g ∧ g < w.heap.size ∧ ∀ j u, (xs.map byteV)[j]? = some u → w.cell? ((⟨g, 0, none⟩ : Addr).add j) = some u)
theorem rowC.alloc {base : Nat} {xs0 xs : List UInt8} {v : Value} {w : World} (h : rowC base xs0 v xs w) (o : Obj) : rowC base xs0 v xs (w.alloc o) := by
 rcases h with h | ⟨h1, g, h2, h3, h4, h5⟩
 ·exact .inl (World.ownsRow.alloc h o)
 ·refine .inr ⟨h1, g, h2, h3, by simp; omega, fun j u hu => ?_⟩
  rw [← h5 j u hu]
  refine World.cell?_of_block ?_
  have hadd : ((⟨g, 0, none⟩ : Addr).add j).block = g := by unfold Addr.add; split <;> simp_all
  rw [hadd]
  exact heap_alloc_old w o h4
theorem wpList_append_C {P : Program} (w : World) {ops : Array Oper} {rest : List Oper} {o : Oper} {a : Act} {Q : Exit → Act → World → Prop} (hgd : o.guard = none) (s x : Operand) (t : TypeId)
  (ho : o.op = .call { callee := .builtin .append, args := #[s, x], argTypes := #[t, t] })
  (base : Nat) (i : TypeInfo) (ht : P.underlying t = some (.slice 5)) (hi : P.info? 5 = some i) (hz : i.zero = some (.int .u8 0)) (hsize : i.size = 1) (hby : i.bytes = 1)
  (v : Value) (xs0 ws : List UInt8) (hs : a.eval s = v) (hown : rowC base xs0 v ws w)
  (ad : Addr) (m c : Nat) (news : List Value) (hx : a.eval x = .slice (some ad) m c) (hl : news.length = m) (hnews : ∀ j u, news[j]? = some u → w.cell? (ad.add j) = some u) (h1 : ∀ u ∈ news, u.oneCell' = true)
  (hm : 0 < m) (h63 : ws.length + m ≤ maxLen) (hbytes : (ws.length + m) * 1 ≤ 140737488355328) (hbase : base ≤ w.heap.size) (H : Nat) (hH : w.heap.size = H)
  (h : ∀ g cap w', w'.ownsRow base 5 1 (.slice (some ⟨g, 0, none⟩) (ws.length + m) cap) (ws.length + m) (ws.map byteV ++ news) → w.grownBy w' v.ownBlock → (v.ownBlock = some g ∨ g = H) → g < w'.heap.size → wpList P ops Q rest (a.put o.dst (.slice (some ⟨g, 0, none⟩) (ws.length + m) cap)) w') : wpList P ops Q (o :: rest) a w := by
 rcases hown with hown | ⟨rfl, g, rfl, hbg, hgl, hold⟩
 ·exact wpList_append_lies w hgd s x t ho base 5 i (.int .u8 0) 1 1 ht hi hz hsize hby rfl (by decide) v ws.length (ws.map byteV) hs hown ad m c news hx (by rw [hl, Nat.mul_one]) hnews h1 hm h63 hbytes hbase H hH h
 ·obtain ⟨cap, w', hr, h2, h3, h4⟩ := run_append_full (P := P) w base t o.type 5 i ht hi hz hsize hby g ws.length (ws.map byteV) (List.length_map _) hold ad m c news hl hnews hm h63 hbytes hbase
  refine wpList_plain hgd fun K hK => ?_
  unfold Oper.wp execOp
  simp only [ho, resolve, invoke, builtin, Sem.run_bind, Sem.run_pure, Result.andThen_ok, List.map_toArray, List.map_cons, List.map_nil, hs, hx, hr]
  exact hK _ _ (h w.heap.size cap w' h2 (h3 _) (.inr hH) h4)
set_option maxRecDepth 100000 in
set_option maxHeartbeats 4000000 in
theorem recAppendFirst_any (base : Nat) (v : Value) (xs : List UInt8) (g c : Nat) (ns : List Nat) (w : World) (hb : base ≤ w.heap.size) (hrow : rowC base xs v xs w) (hnum : numsAt w g ns) (hgv : ¬ v.ownBlock = some g) (hn : ∀ n ∈ ns, n < 1152921504606846976) (hlen : xs.length + 10 * ns.length ≤ 1000000) :
  Calls Tryz.prog 17 #[v, .slice (some ⟨g, 0, none⟩) ns.length c] w fun e w' => ∃ u, e = .returned u ∧ rowC base xs u (xs ++ ns.flatMap numB) w' ∧ Ap v w u w' := by
 obtain ⟨i0, hi, hz0, hz1, hz2⟩ := info_parts Tryz.infoB
 have HR := Lib.hid hrow
 have HNm := Lib.hid hnum
 have HNb := Lib.hid hn
 clear hrow hnum hn
 go_enter Tryz.func17, Tryz.ntmps17
 go_wp2_with fail
 go_loopg [0, 6, 9] ns.length (fun gg x0 x6 x9 wr => ∃ (k : Nat), k ≤ ns.length ∧ gg = ns.length - k ∧ x9 = .int .i64 (k : Int) ∧ Hid (rowC base xs x0 (xs ++ (ns.take k).flatMap numB) wr) ∧ Hid (Ap v w x0 wr))
 case atStart => exact ⟨0, by omega, by omega, rfl, (by simpa [Hid] using HR.out), Ap.refl _ _⟩
 case round =>
  obtain ⟨k, hk, rfl, rfl, HRr, HA⟩ := hrel
  by_cases hlt : k < ns.length
  ·have hnk := HNb.out ns[k] (List.getElem_mem hlt)
   obtain ⟨n, hnn⟩ : ∃ n, n = ns[k] := ⟨_, rfl⟩
   have hcell0 := (HNm.out.block HA.out.grow.size (HA.out.block HNm.out.1 hgv)).2 k hlt
   have HT : Hid ((ns.take (k + 1)).flatMap numB = (ns.take k).flatMap numB ++ numB n) := by
    unfold Hid
    rw [List.take_succ_eq_append_getElem hlt, List.flatMap_append, hnn]
    simp
   rw [← hnn] at hcell0 hnk
   clear hnn
   have hcell : wr.cell? ⟨g, k, none⟩ = some (.int .i64 (n : Int)) := hcell0
   have hz := HA.out.grow.size
   have hzz0 := hz2
   obtain ⟨ys, hys⟩ : ∃ ys, ys = xs ++ (ns.take k).flatMap numB := ⟨_, rfl⟩
   have hyl : ys.length ≤ xs.length + 10 * k := by
    rw [hys, List.length_append]
    have := flat_num (ns.take k)
    rw [List.length_take, Nat.min_eq_left (by omega)] at this
    omega
   rw [← hys] at HRr
   have HE : Hid (xs ++ (ns.take (k + 1)).flatMap numB = ys ++ numB n) := by unfold Hid; rw [HT.out, hys, List.append_assoc]
   clear hcell0 hys HT
   go_wp2_with fail
   go_loopg [0, 6] n (fun gg x0 x6 wr => ∃ (m : Nat) (zs : List UInt8), gg = m ∧ m < 1152921504606846976 ∧ x6 = .int .i64 (m : Int) ∧ Hid (numB n = zs ++ numB m) ∧ Hid (rowC base xs x0 (ys ++ zs) wr) ∧ Hid (Ap v w x0 wr))
   case atStart => exact ⟨n, [], rfl, hnk, rfl, rfl, (by simpa [Hid] using HRr.out), HA.out⟩
   case round =>
    obtain ⟨m, zs, hgk, hm, rfl, HZ, HRs, HA2⟩ := hrel
    have hgk' : gk = m := hgk
    subst hgk'
    have hzl : zs.length + 1 ≤ 10 := by
     have h1 := congrArg List.length HZ.out
     rw [List.length_append] at h1
     have h2 := numB_len n
     have h3 := numB_pos gk
     omega
    by_cases h128 : 128 ≤ gk
    ·obtain ⟨d, hd⟩ : ∃ d : UInt8, d = UInt8.ofNat (128 + gk % 128) := ⟨_, rfl⟩
     have hdv : (128 : Int) + (gk : Int) % 128 = (d.toNat : Int) := by rw [hd, UInt8.toNat_ofNat']; omega
     have hdt := d.toNat_lt
     have hge : (128 : Int) ≤ (gk : Int) := by omega
     have HZ2 : Hid (numB n = (zs ++ [d]) ++ numB (gk / 128)) := by unfold Hid; rw [HZ.out, numB_high h128 (by omega), ← hd, List.append_assoc]; rfl
     clear hd
     have hrr := HRs.out
     have HRw := Lib.hid hrr
     have hz2 := HA2.out.grow.size
     have hle : (ys ++ zs).length + 1 ≤ 1000010 := by rw [List.length_append]; omega
     obtain ⟨ws, hws⟩ : ∃ ws, ws = ys ++ zs := ⟨_, rfl⟩
     rw [← hws] at HRw hle
     have HWs := Lib.hid hws
     clear hrr hws
     go_wp2_with (at_builtin; refine wpList_append_C _ rfl _ _ 22 rfl base i0 Tryz.underlying22 hi hz0 hz1 hzz0 _ xs ws rfl (HRw.out.alloc _) ⟨wr.heap.size, 0, none⟩ 1 1 [byteV d] rfl rfl (cell_one_new wr _ _) (news_one [d]) (by decide) (by unfold maxLen; omega) (by omega) (by simp; omega) _ rfl ?_; intro g13 cap13 w13 hown13 hgrow13 hor13 hlt13)
     have HR3 := Lib.hid (show rowC base xs _ (_ ++ [_]) _ from .inl (rowB_snoc hown13 rfl))
     have HA3 := Lib.hid (HA2.out.trans (Ap.app (n := ws.length + 1) (cap := cap13) ((Below.refl _ _).alloc (Nat.le_refl _) _) hgrow13 hor13))
     clear hown13 hgrow13 hor13
     go_wp2_with fail
     go_roundg (gk / 128)
     case measure => omega
     case rel => exact ⟨gk / 128, zs ++ [d], rfl, by omega, by go_num, HZ2.out, by rw [← List.append_assoc, ← HWs.out]; exact HR3.out, HA3.out⟩
    ·obtain ⟨d, hd⟩ : ∃ d : UInt8, d = UInt8.ofNat gk := ⟨_, rfl⟩
     obtain rfl : gk = d.toNat := by rw [hd, UInt8.toNat_ofNat']; omega
     have hdt := d.toNat_lt
     have hge : ¬ (128 : Int) ≤ (d.toNat : Int) := by omega
     have HZ2 : Hid (numB n = zs ++ [d]) := by unfold Hid; rw [HZ.out, numB_low (by omega)]; simp
     clear hd
     have hrr := HRs.out
     have HRw := Lib.hid hrr
     have hz2 := HA2.out.grow.size
     have hle : (ys ++ zs).length + 1 ≤ 1000010 := by rw [List.length_append]; omega
     obtain ⟨ws, hws⟩ : ∃ ws, ws = ys ++ zs := ⟨_, rfl⟩
     rw [← hws] at HRw hle
     have HWs := Lib.hid hws
     clear hrr hws
     go_wp2_with (at_builtin; refine wpList_append_C _ rfl _ _ 22 rfl base i0 Tryz.underlying22 hi hz0 hz1 hzz0 _ xs ws rfl (HRw.out.alloc _) ⟨wr.heap.size, 0, none⟩ 1 1 [byteV d] rfl rfl (cell_one_new wr _ _) (news_one [d]) (by decide) (by unfold maxLen; omega) (by omega) (by simp; omega) _ rfl ?_; intro g13 cap13 w13 hown13 hgrow13 hor13 hlt13)
     have HR3 := Lib.hid (show rowC base xs _ (_ ++ [_]) _ from .inl (rowB_snoc hown13 rfl))
     have HA3 := Lib.hid (HA2.out.trans (Ap.app (n := ws.length + 1) (cap := cap13) ((Below.refl _ _).alloc (Nat.le_refl _) _) hgrow13 hor13))
     clear hown13 hgrow13 hor13
     go_wp2_with fail
     go_roundg (ns.length - (k + 1))
     case measure => omega
     case rel => exact ⟨k + 1, by omega, rfl, by go_num, by rw [HE.out, HZ2.out, ← List.append_assoc, ← HWs.out]; exact HR3.out, HA3.out⟩
  ·obtain rfl : k = ns.length := by omega
   have HE : Hid ((ns.take ns.length).flatMap numB = ns.flatMap numB) := by unfold Hid; rw [List.take_length]
   go_wp2_with fail
   go_ret
   exact ⟨_, rfl, by have := HRr.out; rwa [HE.out] at this, HA.out⟩
theorem Ap.base {v u : Value} {w w' : World} {base : Nat} (h : Ap v w u w') (hb : base ≤ w.heap.size) (hv : ∀ q, v.ownBlock = some q → base ≤ q) : Below base w w' :=
 ⟨h.grow.os, h.grow.tape, h.grow.output, h.grow.size, fun k hk => h.grow.block k (by omega) (fun e => by have := hv k e.symm; omega)⟩
set_option maxRecDepth 100000 in
set_option maxHeartbeats 4000000 in
theorem put_any (v : Value) (l : List UInt8) (t : Tr) (u : Value) (w : World) (hv : bytesArg w v l) (hbig : l.length ≤ 100000) (hg : goodT t) (hcb : countT t ≤ 1000) (hd : deepT t ≤ 32) (hch : chainT 0 l.length (tilesT t)) (hu : treeAt (fun k => k < w.heap.size) w t u) :
  Calls Tryz.prog 8 #[v, u] w fun e w' => ∃ r, e = .returned (.tuple #[r, .int .i64 0]) ∧ rowB (w.heap.size + 1) r (putR l t) w' ∧ Below w.heap.size w w' := by
 have HV := Lib.hid hv
 obtain ⟨ka, kn, kc, ca, cn, cc, us, rfl, _, _, _⟩ := treeAt_open hu
 obtain ⟨c1, c2⟩ := chain_end t _ _ hg hch
 rw [← c1, ← c2] at hu ⊢
 obtain ⟨h2, hh2⟩ : ∃ h2 : Int, h2 = (t.hd.2 : Int) := ⟨_, rfl⟩
 obtain ⟨b1, hb1⟩ : ∃ b1 : Int, b1 = (t.bd.1 : Int) := ⟨_, rfl⟩
 obtain ⟨e1, he1⟩ : ∃ e1 : Int, e1 = (t.e.1 : Int) := ⟨_, rfl⟩
 obtain ⟨e2, he2⟩ : ∃ e2 : Int, e2 = (t.e.2 : Int) := ⟨_, rfl⟩
 rw [← hh2, ← hb1, ← he1, ← he2] at hu ⊢
 obtain ⟨ao, cap, rfl, hc, hm, hs⟩ := hv
 obtain ⟨X, hX⟩ : ∃ X, X = w.alloc (.cells #[.int .i64 (t.kind : Int), .int .i64 0, .int .i64 h2, .int .i64 b1, .int .i64 (l.length : Int), .slice ka kn kc, .slice ca cn cc, .int .i64 e1, .int .i64 e2] 31) := ⟨_, rfl⟩
 have hBX : Below w.heap.size w X := by rw [hX]; exact (Below.refl _ _).alloc (Nat.le_refl _) _
 have HOX : Hid (X.heap[w.heap.size]? = some (.cells #[.int .i64 (t.kind : Int), .int .i64 0, .int .i64 h2, .int .i64 b1, .int .i64 (l.length : Int), .slice ka kn kc, .slice ca cn cc, .int .i64 e1, .int .i64 e2] 31 (0, 0))) := by rw [hX]; exact heap_alloc_new w _
 have HzX : Hid (X.heap.size = w.heap.size + 1) := by unfold Hid; rw [hX]; simp
 have hn9 := nine_of_heap HOX.out
 have hCk := fun (W : World) (k : Below X.heap.size X W) => check_any t l.length hg hcb hd hch (l.length : Int) (t.kind : Int) h2 b1 e1 e2 ka ca kn kc cn cc W (treeAt_below hu (hBX.trans (k.mono hBX.size)))
 rw [if_pos rfl] at hCk
 have HCk := Lib.hid hCk
 have HC1 := Lib.hid c1
 have HU : Hid (treeAt (fun k => k < w.heap.size) w t (.agg #[.int .i64 (t.kind : Int), .int .i64 0, .int .i64 h2, .int .i64 b1, .int .i64 (l.length : Int), .slice ka kn kc, .slice ca cn cc, .int .i64 e1, .int .i64 e2])) := hu
 have HG := Lib.hid hg
 have HCh := Lib.hid hch
 have HB := Lib.hid hbig
 have HC := Lib.hid hcb
 have HBX := Lib.hid hBX
 obtain ⟨p0, p1, p2, p3, p4, p5, p6, p7, p8⟩ := hn9
 clear hCk hu hg hch hbig hcb hd hBX c1 c2 hh2 hb1 he1 he2
 go_enter Tryz.func8, Tryz.ntmps8
 go_wp2_with fail
 have kc := fun (w : World) (C : Array Value) (n c : Nat) => Lib.run_convert_bytes_const (P := Tryz.prog) w 22 5 C n c Tryz.underlying22 Tryz.underlying5
 rw [← hX]
 clear hX
 with_reducible refine (HCk.out _ (Below.refl _ _)).mono ?_
 rintro e w1 ⟨rfl, hb1⟩
 have HB1 := Lib.hid (HBX.out.trans (hb1.mono HBX.out.size))
 have HX1 := Lib.hid ((hb1.block _ (by have := HzX.out; omega)).trans HOX.out)
 have HZ1 : Hid (w.heap.size + 1 ≤ w1.heap.size) := by unfold Hid; have := HzX.out; have := hb1.size; omega
 clear hb1 HCk HzX HOX
 have HF : Hid (Calls Tryz.prog 17 #[.slice (some ⟨w1.heap.size, 0, none⟩) 2 2, .slice (some ⟨w1.heap.size + 1, 0, none⟩) 2 2] ((w1.alloc (.cells #[.int .u8 76, .int .u8 66] 5 (2, 3))).alloc (.cells #[.int .i64 1, .int .i64 (l.length : Int)] 3)) fun e w' => ∃ u, e = .returned u ∧ rowC (w.heap.size + 1) [76, 66] u ([76, 66] ++ [1, l.length].flatMap numB) w' ∧ Ap (.slice (some ⟨w1.heap.size, 0, none⟩) 2 2) ((w1.alloc (.cells #[.int .u8 76, .int .u8 66] 5 (2, 3))).alloc (.cells #[.int .i64 1, .int .i64 (l.length : Int)] 3)) u w') := (recAppendFirst_any (w.heap.size + 1) (.slice (some ⟨w1.heap.size, 0, none⟩) 2 2) [76, 66] (w1.heap.size + 1) 2 [1, l.length] ((w1.alloc (.cells #[.int .u8 76, .int .u8 66] 5 (2, 3))).alloc (.cells #[.int .i64 1, .int .i64 (l.length : Int)] 3))
  (by have := HZ1.out; simp; omega)
  (rowC.alloc (.inr ⟨rfl, w1.heap.size, rfl, HZ1.out, by simp, fun j u hu => World.news_of_block (heap_alloc_new w1 _) j u hu⟩) _)
  (by have := nums_new (w := w1.alloc (.cells #[.int .u8 76, .int .u8 66] 5 (2, 3))) (cs := #[.int .i64 1, .int .i64 (l.length : Int)]) (t := 3) [1, l.length] rfl; simpa using this)
  (fun h => by have : w1.heap.size = w1.heap.size + 1 := Option.some.inj h; omega)
  (fun n hn => by have := HB.out; simp at hn; omega) (by simp))
 go_wp2_with fail
 with_reducible refine (HF.out).mono ?_
 rintro e w2 ⟨u2, rfl, hr2, ha2⟩
 have hr2' : rowB (w.heap.size + 1) u2 (76 :: 66 :: 1 :: numB l.length) w2 := by
  have e2 : ([76, 66] : List UInt8) ++ [1, l.length].flatMap numB = 76 :: 66 :: 1 :: numB l.length := by
   rw [List.flatMap_cons, List.flatMap_cons, List.flatMap_nil, numB_low (n := 1) (by omega), List.append_nil]
   rfl
  rw [e2] at hr2
  rcases hr2 with h | ⟨h, _⟩
  ·exact h
  ·cases h
 have HR2 := Lib.hid hr2'
 have hb2 : Below w1.heap.size w1 w2 := ((below_new w1 _).trans ((below_new (w1.alloc _) _).mono (by simp))).trans (ha2.base (by simp; omega) (fun q hq => by have : w1.heap.size = q := Option.some.inj hq; omega))
 have HU2 : Hid (∀ q, u2.ownBlock = some q → w1.heap.size ≤ q) := fun q hq => by
  rcases ha2.lie q hq with h | h
  ·have : w1.heap.size = q := Option.some.inj h; omega
  ·simp at h; omega
 have HB2 := Lib.hid (HB1.out.trans (hb2.mono HB1.out.size))
 have HX2 := Lib.hid ((hb2.block _ HZ1.out).trans HX1.out)
 have HZ2 : Hid (w1.heap.size ≤ w2.heap.size) := hb2.size
 clear hr2 hr2' ha2 hb2 HF HX1 kc
 have HCr := Lib.hid (crcSum_any _ l w2 (HV.out.below HB2.out))
 go_wp2_with fail
 with_reducible refine (HCr.out).mono ?_
 rintro e w3 ⟨rfl, hb3⟩
 have HSm := Lib.hid (recAppendSum_any (w.heap.size + 1) u2 _ (crcN l) w3 (by have := HZ1.out; have := HZ2.out; have := hb3.size; omega) (crcN_lt l) (HR2.out.below hb3) (by have := numB_len l.length; simp only [List.length_cons]; omega))
 have HB3 := Lib.hid hb3
 clear hb3 HCr
 unfold crcN at HSm
 go_wp2_with fail
 with_reducible refine (HSm.out).mono ?_
 rintro e w4 ⟨u4, rfl, hr4, ha4⟩
 have ha24 : Ap u2 w2 u4 w4 := (Ap.of_below HB3.out).trans ha4
 have hb4 : Below w1.heap.size w2 w4 := ha24.base HZ2.out HU2.out
 have HU4 : Hid (∀ q, u4.ownBlock = some q → w1.heap.size ≤ q) := fun q hq => by
  rcases ha24.lie q hq with h | h
  ·exact HU2.out q h
  ·have := HZ2.out; omega
 have HR4 : Hid (rowB (w.heap.size + 1) u4 (frontL l.length (crcN l)) w4) := hr4
 have HB4 := Lib.hid (HB2.out.trans (hb4.mono (Nat.le_trans (Nat.le_succ _) HZ1.out)))
 have HX4 := Lib.hid ((hb4.block _ HZ1.out).trans HX2.out)
 have HZ4 : Hid (w1.heap.size ≤ w4.heap.size) := Nat.le_trans HZ2.out hb4.size
 clear hr4 ha4 ha24 hb4 HSm HX2 HZ2 HU2 HR2 HB3 HB2
 obtain ⟨p0, p1, p2, p3, p4, p5, p6, p7, p8⟩ := nine_of_heap HX4.out
 have HT := Lib.hid (appendTree_any (w.heap.size + 1) _ t (Nat.le_refl _) HG.out l.length (by rw [← HC1.out]; exact HCh.out) (by have := HB.out; omega) u4 _ w4 _ (by have := HZ1.out; have := HZ4.out; omega) HR4.out (treeAt.keep (fun q hq hl => ⟨HB4.out.block q hq, Nat.lt_succ_of_lt hq⟩) _ _ HU.out) (by have := HC.out; have := numB_len l.length; simp only [frontL, List.length_cons, List.length_append, sum4_len]; omega))
 unfold putPost at HT
 go_wp2_with fail
 with_reducible refine (HT.out).mono ?_
 rintro e w5 ⟨u5, rfl, hr5, ha5⟩
 have hb5 : Below w1.heap.size w4 w5 := ha5.base HZ4.out HU4.out
 have HU5 : Hid (∀ q, u5.ownBlock = some q → w1.heap.size ≤ q) := fun q hq => by
  rcases ha5.lie q hq with h | h
  ·exact HU4.out q h
  ·have := HZ4.out; omega
 have HR5 : Hid (rowB (w.heap.size + 1) u5 (coreL l t) w5) := hr5
 have HB5 := Lib.hid (HB4.out.trans (hb5.mono (Nat.le_trans (Nat.le_succ _) HZ1.out)))
 have HZ5 : Hid (w1.heap.size ≤ w5.heap.size) := Nat.le_trans HZ4.out hb5.size
 clear hr5 ha5 hb5 HT HX4 HZ4 HU4 HR4 HB4 p0 p1 p2 p3 p4 p5 p6 p7 p8
 have HCr := Lib.hid (crcSum_any u5 (coreL l t) w5 (bytesArg_owned HR5.out))
 go_wp2_with fail
 with_reducible refine (HCr.out).mono ?_
 rintro e w6 ⟨rfl, hb6⟩
 have HSm := Lib.hid (recAppendSum_any (w.heap.size + 1) u5 _ (crcN (coreL l t)) w6 (by have := HZ1.out; have := HZ5.out; have := hb6.size; omega) (crcN_lt _) (HR5.out.below hb6) (by have := HC.out; have := numB_len l.length; have := putT_len t; simp only [coreL, frontL, List.length_cons, List.length_append, sum4_len]; omega))
 have HB6 := Lib.hid hb6
 clear hb6 HCr
 unfold crcN at HSm
 go_wp2_with fail
 with_reducible refine (HSm.out).mono ?_
 rintro e w7 ⟨u7, rfl, hr7, ha7⟩
 have ha57 : Ap u5 w5 u7 w7 := (Ap.of_below HB6.out).trans ha7
 have hb7 : Below w1.heap.size w5 w7 := ha57.base HZ5.out HU5.out
 have HR7 : Hid (rowB (w.heap.size + 1) u7 (putR l t) w7) := hr7
 have HB7 := Lib.hid (HB5.out.trans (hb7.mono (Nat.le_trans (Nat.le_succ _) HZ1.out)))
 clear hr7 ha7 ha57 hb7 HSm
 go_wp2_with fail
 go_ret2
 exact ⟨u7, rfl, HR7.out, HB7.out⟩
theorem front_any (w : World) : Calls Tryz.prog 17 #[.slice (some ⟨w.heap.size, 0, none⟩) 2 2, .slice (some ⟨w.heap.size + 1, 0, none⟩) 1 1] ((w.alloc (.cells #[.int .u8 76, .int .u8 66] 5 (2, 3))).alloc (.cells #[.int .i64 1] 3))
  fun e w' => ∃ g cp, e = .returned (.slice (some ⟨g, 0, none⟩) 3 cp) ∧ sliceAt w' (some ⟨g, 0, none⟩) [76, 66, 1] ∧ Below w.heap.size w w' := by
 refine (recAppendFirst_any w.heap.size (.slice (some ⟨w.heap.size, 0, none⟩) 2 2) [76, 66] (w.heap.size + 1) 1 [1] ((w.alloc (.cells #[.int .u8 76, .int .u8 66] 5 (2, 3))).alloc (.cells #[.int .i64 1] 3))
  (by simp; omega)
  (rowC.alloc (.inr ⟨rfl, w.heap.size, rfl, Nat.le_refl _, by simp, fun j u hu => World.news_of_block (heap_alloc_new w _) j u hu⟩) _)
  (by have := nums_new (w := w.alloc (.cells #[.int .u8 76, .int .u8 66] 5 (2, 3))) (cs := #[.int .i64 1]) (t := 3) [1] rfl; simpa using this)
  (fun h => by have : w.heap.size = w.heap.size + 1 := Option.some.inj h; omega)
  (fun n hn => by simp at hn; omega) (by simp)).mono ?_
 rintro e w2 ⟨u2, rfl, hr2, ha2⟩
 have hr2' : rowB w.heap.size u2 [76, 66, 1] w2 := by
  have e2 : ([76, 66] : List UInt8) ++ [1].flatMap numB = [76, 66, 1] := by
   rw [List.flatMap_cons, List.flatMap_nil, numB_low (n := 1) (by omega)]
   rfl
  rw [e2] at hr2
  rcases hr2 with h | ⟨h, _⟩
  ·exact h
  ·cases h
 have hb2 : Below w.heap.size w w2 := ((below_new w _).trans ((below_new (w.alloc _) _).mono (by simp))).trans (ha2.base (by simp; omega) (fun q hq => by have : w.heap.size = q := Option.some.inj hq; omega))
 obtain ⟨ao, c, e1, _, _, h3⟩ := bytesArg_owned hr2'
 obtain ⟨g, cp, e2, _⟩ := ownsRow_slice hr2' (by decide)
 rw [e2] at e1
 obtain ⟨rfl, _⟩ := Value.slice.inj e1
 exact ⟨g, cp, by rw [e2]; rfl, h3, hb2⟩
theorem begins_any (ao : Option Addr) (L cap g cp : Nat) (s : List UInt8) (w : World) (hL : s.length = L) (hc : L ≤ cap) (hs : sliceAt w ao s) (hg : sliceAt w (some ⟨g, 0, none⟩) [76, 66, 1]) :
  Calls Tryz.prog 55 #[.slice ao L cap, .slice (some ⟨g, 0, none⟩) 3 cp] w fun e w' => e = .returned (.bool (decide (s.take 3 = [76, 66, 1]))) ∧ w = w' := by
 subst hL
 refine (Tryz.bytes_HasPrefix_all ao (some ⟨g, 0, none⟩) s.length cap 3 cp (intsOf s) (intsOf [76, 66, 1]) w (intsOf_len s) rfl hc hs.ints hg.ints).mono ?_
 rintro e w' ⟨rfl, rfl⟩
 refine ⟨?_, rfl⟩
 rw [bytesOf_ints, bytesOf_ints, ← Lib.hasPrefix_of_take]
 congr 2
 by_cases h : s.take 3 = [76, 66, 1]
 ·have : 3 ≤ s.length := by have := congrArg List.length h; rw [List.length_take] at this; simp at this; omega
  simp [h, this]
 ·simp [h]
def openPost (rec : List UInt8) (w : World) (e : Ending) (w' : World) : Prop := Below w.heap.size w w' ∧ match headP rec with
 | .ok _ s => ∃ R b off cap, e = .returned (.tuple #[.pointer (some ⟨R, 0, none⟩), .nilIface]) ∧ Src w R b off cap (rec.take (rec.length - 4)) ∧ At w' R b off cap (rec.take (rec.length - 4)) s
 | .no x => e = .returned (.tuple #[.pointer none, fltV 0 (x : Int)])
set_option maxRecDepth 100000 in
set_option maxHeartbeats 4000000 in
theorem recOpen_short (v : Value) (rec : List UInt8) (w : World) (hv : bytesArg w v rec) (h4 : rec.length < 4) : Calls Tryz.prog 30 #[v] w (openPost rec w) := by
 have HP : Hid (headP rec = .no 10) := by unfold Hid headP; rw [if_pos h4]
 obtain ⟨ao, cap, rfl, hc, hm, hs⟩ := hv
 have HF := Lib.hid (front_any w)
 have kc := fun (w : World) (C : Array Value) (n c : Nat) => Lib.run_convert_bytes_const (P := Tryz.prog) w 22 5 C n c Tryz.underlying22 Tryz.underlying5
 obtain ⟨n, hn⟩ : ∃ n, n = rec.length := ⟨_, rfl⟩
 have h0 : (n : Int) - 4 < 0 := by omega
 have h1 : decide ((n : Int) - 4 < 0) = true := decide_eq_true h0
 rw [← hn]
 clear hn hc hm hs h4
 go_enter Tryz.func30, Tryz.ntmps30
 go_wp2_with fail
 with_reducible refine (HF.out).mono ?_
 rintro e w2 ⟨g, cp, rfl, hg, hb⟩
 have HB := Lib.hid hb
 clear hb hg HF kc
 go_wp2_with fail
 go_ret2
 unfold openPost
 rw [HP.out]
 exact ⟨HB.out, rfl⟩
set_option maxRecDepth 100000 in
set_option maxHeartbeats 4000000 in
theorem recOpen_any (v : Value) (rec : List UInt8) (w : World) (hv : bytesArg w v rec) (hbig : rec.length ≤ 1000000) : Calls Tryz.prog 30 #[v] w (openPost rec w) := by
 by_cases h4 : rec.length < 4
 ·exact recOpen_short v rec w hv h4
 obtain ⟨ao, cap, rfl, hc, hm, hs⟩ := hv
 rcases hs with rfl | ⟨b, off, rfl, hlt, hcell⟩
 ·exact absurd (show ([] : List UInt8).length < 4 by decide) h4
 have hs : sliceAt w (some ⟨b, off, none⟩) rec := .inr ⟨b, off, rfl, hlt, hcell⟩
 obtain ⟨m, hmm⟩ : ∃ m, rec.length = m + 4 := ⟨rec.length - 4, by omega⟩
 have ht : (rec.take m).length = m := by rw [List.length_take]; omega
 have hdl : (rec.drop m).length = 4 := by rw [List.length_drop]; omega
 have HST : Hid (sliceAt w (some ⟨b, off, none⟩) (rec.take m)) := hs.take m
 have HSD : Hid (sliceAt w (some ⟨b, off + m, none⟩) (rec.drop m)) := hs.drop
 have HBs : Hid (∀ W, Below w.heap.size w W → Calls Tryz.prog 54 #[.slice (some ⟨b, off + m, none⟩) 4 (cap - m)] W fun e w' => e = .returned (.int .u32 (valL (rec.drop m) : Nat)) ∧ W = w') := fun W hb => recSumOf_any _ _ W ⟨_, cap - m, by rw [hdl], by rw [hdl]; omega, by omega, HSD.out.below hb⟩ hdl
 have HCr : Hid (∀ W, Below w.heap.size w W → Calls Tryz.prog 19 #[.slice (some ⟨b, off, none⟩) m cap] W fun e w' => e = .returned (.int .u32 (crcN (rec.take m) : Nat)) ∧ Below W.heap.size W w') := fun W hb => crcSum_any _ _ W ⟨_, cap, by rw [ht], by rw [ht]; omega, hm, HST.out.below hb⟩
 have HF := Lib.hid (front_any w)
 have kc := fun (w : World) (C : Array Value) (n c : Nat) => Lib.run_convert_bytes_const (P := Tryz.prog) w 22 5 C n c Tryz.underlying22 Tryz.underlying5
 have hS : ∀ R, w.heap.size ≤ R → Src w R b off cap (rec.take m) := fun R hR => ⟨hlt, hR, by rw [ht]; omega, by rw [ht]; omega, hm, fun j hj => by rw [List.getElem_take]; exact hcell j (by omega)⟩
 have HS := Lib.hid hS
 have HP : Hid (headP rec = if valL (rec.drop m) ≠ crcN (rec.take m) then .no 15 else if (rec.take m).take 3 = [76, 66, 1] then .ok () ((rec.take m).drop 3) else .no 11) := by
  unfold Hid headP
  rw [if_neg h4, hmm, Nat.add_sub_cancel]
 have HT : Hid (rec.take (rec.length - 4) = rec.take m) := by unfold Hid; rw [hmm, Nat.add_sub_cancel]
 obtain ⟨n, hn⟩ : ∃ n, n = rec.length := ⟨_, rfl⟩
 obtain ⟨X, hX⟩ : ∃ X, X = valL (rec.drop m) := ⟨_, rfl⟩
 obtain ⟨Y, hY⟩ : ∃ Y, Y = crcN (rec.take m) := ⟨_, rfl⟩
 have h0 : (n : Int) - 4 = (m : Int) := by omega
 have h1 : ¬ (m : Int) < 0 := by omega
 have h1d : decide ((m : Int) < 0) = false := decide_eq_false h1
 have h2 : m ≤ n := by omega
 have h3 : n - m = 4 := by omega
 have h5 : n ≤ cap := by omega
 have h6 : m < cap := by omega
 have h7 : m ≤ cap := by omega
 have h8 : m ≤ 1000000 := by omega
 have HTl := Lib.hid ht
 rw [← hn]
 rw [← hX] at HBs HP
 rw [← hY] at HCr HP
 have HM := Lib.hid hm
 unfold maxLen at hm
 clear hn hX hY hs hS ht hdl HSD hmm h4 hbig hc hcell
 go_enter Tryz.func30, Tryz.ntmps30
 go_wp2_with fail
 with_reducible refine (HF.out).mono ?_
 rintro e w2 ⟨g, cp, rfl, hg, hb⟩
 have HB := Lib.hid hb
 have HGs := Lib.hid hg
 clear hb hg HF kc
 go_upto_region 5 with fail
 refine wp_region_below (by kernel_rfl) (by kernel_rfl) ?_
 repeat (go_big_quiet_step (first
  | (go_at_call 54; exact BW.calls_same (HBs.out _ (HB.out.trans ((BW.h _).mono HB.out.size))))
  | (go_at_call 19; exact BW.calls (HCr.out _ (HB.out.trans ((BW.h _).mono HB.out.size))))))
 refine wpQuiet_nil ?_
 rintro _ ⟨z, rfl⟩
 have HZ := Lib.hid (HB.out.trans (z.h.mono HB.out.size))
 have HGz := Lib.hid (HGs.out.below z.h)
 clear HBs HCr HGs
 by_cases hxy : X = Y
 ·have q1 : ((X : Int) != (Y : Int)) = false := by rw [hxy]; simp
  have HHp := Lib.hid (begins_any (some ⟨b, off, none⟩) m cap g cp (rec.take m) z.v HTl.out h7 (HST.out.below HZ.out) HGz.out)
  by_cases hpf : (rec.take m).take 3 = [76, 66, 1]
  ·rw [decide_eq_true hpf] at HHp
   have hm3 : 3 ≤ m := by have := congrArg List.length hpf; rw [List.length_take, HTl.out] at this; simp at this; omega
   have HQ : Hid (headP rec = .ok () ((rec.take m).drop 3)) := by unfold Hid; rw [HP.out, if_neg (by omega), if_pos hpf]
   clear hpf hxy HP
   go_wp2_with fail
   with_reducible refine (HHp.out).mono ?_
   rintro e w4 ⟨rfl, rfl⟩
   go_wp2_with fail
   go_ret2
   unfold openPost
   rw [HQ.out]
   refine ⟨HZ.out.trans ((below_new z.v _).mono HZ.out.size), z.v.heap.size, b, off, cap, rfl, by rw [HT.out]; exact HS.out _ HZ.out.size, 3, by rw [HT.out, HTl.out]; exact hm3, ?_, by rw [HT.out]⟩
   rw [HT.out, HTl.out]
   exact ⟨by simp only [World.cell?, heap_alloc_new]; rfl, by simp only [World.cell?, heap_alloc_new]; rfl, by simp only [World.frozen?, heap_alloc_new]; rfl⟩
  ·rw [decide_eq_false hpf] at HHp
   have HQ : Hid (headP rec = .no 11) := by unfold Hid; rw [HP.out, if_neg (by omega), if_neg hpf]
   clear hpf hxy HP
   go_wp2_with fail
   with_reducible refine (HHp.out).mono ?_
   rintro e w4 ⟨rfl, rfl⟩
   go_wp2_with fail
   go_ret2
   unfold openPost
   rw [HQ.out]
   exact ⟨HZ.out, rfl⟩
 ·have q1 : ((X : Int) != (Y : Int)) = true := by simp only [bne_iff_ne, ne_eq]; omega
  have HQ : Hid (headP rec = .no 15) := by unfold Hid; rw [HP.out, if_pos hxy]
  clear hxy HP
  go_wp2_with fail
  go_ret2
  unfold openPost
  rw [HQ.out]
  exact ⟨HZ.out, rfl⟩
theorem src_part {w0 W : World} {R b off cap : Nat} {l : List UInt8} (hS : Src w0 R b off cap l) (hb : Below w0.heap.size w0 W) {k n : Nat} (hk : k + n ≤ l.length) : bytesArg W (.slice (some ⟨b, off + k, none⟩) n (cap - k)) ((l.drop k).take n) := by
 have h1 := hS.cap1
 have h2 := hS.cap2
 have hl : ((l.drop k).take n).length = n := by rw [List.length_take, List.length_drop]; omega
 refine ⟨_, _, by rw [hl], by rw [hl]; omega, by omega, .inr ⟨b, off + k, rfl, Nat.lt_of_lt_of_le hS.bl hb.size, fun j hj => ?_⟩⟩
 rw [World.cell?_of_block (hb.block _ hS.bl), Nat.add_assoc, hS.cell (k + j) (by omega)]
 simp
def msgPost (R b off cap : Nat) (l : List UInt8) (q : Rs Unit) (w : World) (e : Ending) (w' : World) : Prop :=
 Gr R w w' ∧ match q with
  | .ok _ r => e = .returned .nilIface ∧ At w' R b off cap l r
  | .no x => ∃ (z : Nat) (r : List UInt8), e = .returned (fltV (z : Int) (x : Int)) ∧ At w' R b off cap l r
set_option maxRecDepth 100000 in
set_option maxHeartbeats 4000000 in
theorem recMessage_any (w0 : World) (R b off cap : Nat) (l : List UInt8) (hS : Src w0 R b off cap l) (s : List UInt8) (w : World) (hw : Below w0.heap.size w0 w) (hat : At w R b off cap l s) (mv : Value) (msg : List UInt8) (hm : bytesArg w0 mv msg) :
  Calls Tryz.prog 44 #[.pointer (some ⟨R, 0, none⟩), mv] w (msgPost R b off cap l (msgP msg.length (crcN msg) s) w) := by
 have HN := Lib.hid (recNumber_any w0 R b off cap l hS s w hw hat)
 have HS := Lib.hid hS
 have HW := Lib.hid hw
 have HMs := Lib.hid hm
 have HQ : Hid (msgP msg.length (crcN msg) s = (numP s).bind fun m s => if m ≠ msg.length then .no 34 else (takeP 4 s).bind fun q s => if valL q ≠ crcN msg then .no 34 else .ok () s) := rfl
 obtain ⟨q, hq⟩ : ∃ q, q = msgP msg.length (crcN msg) s := ⟨_, rfl⟩
 rw [← hq] at HQ ⊢
 obtain ⟨mo, mc, rfl, _, _, _⟩ := hm
 obtain ⟨L, hL⟩ : ∃ L, L = msg.length := ⟨_, rfl⟩
 rw [← hL] at HQ HMs ⊢
 obtain ⟨C, hC⟩ : ∃ C, C = crcN msg := ⟨_, rfl⟩
 have HC := Lib.hid hC
 rw [← hC] at HQ
 have hbig : l.length ≤ 1000000000 := Nat.le_trans hS.big (by decide)
 have hcap := hS.cap1
 have hcap2 := hS.cap2
 clear hq hat hw hS hL hC
 unfold numPost at HN
 cases hn : numP s with
 | no x =>
  rw [hn] at HN HQ
  have HQ3 : Hid (q = .no x) := HQ.out
  clear HQ hn hbig hcap hcap2
  go_enter Tryz.func44, Tryz.ntmps44
  go_wp2_with fail
  with_reducible refine HN.out.mono ?_
  rintro e w1 ⟨hg, z, r, rfl, ha⟩
  have HG := Lib.hid hg
  have HA := Lib.hid ha
  clear hg ha
  unfold fltV
  go_wp2_with fail
  go_ret
  unfold msgPost
  rw [HQ3.out]
  exact ⟨HG.out, z, r, rfl, HA.out⟩
 | ok n r =>
  have hnb := numP_lt hn
  rw [hn] at HN HQ
  have HQ2 : Hid (q = if n ≠ L then .no 34 else (takeP 4 r).bind fun q s => if valL q ≠ C then .no 34 else .ok () s) := HQ.out
  clear HQ hn
  by_cases hnl : n = L
  ·subst hnl
   have HQ4 : Hid (q = (takeP 4 r).bind fun q s => if valL q ≠ C then .no 34 else .ok () s) := by unfold Hid; rw [HQ2.out, if_neg (by omega)]
   have q1 : ((n : Int) != (n : Int)) = false := by simp
   clear HQ2
   go_enter Tryz.func44, Tryz.ntmps44
   go_wp2_with fail
   with_reducible refine HN.out.mono ?_
   rintro e w1 ⟨hg, rfl, k, hk, hm, hs⟩
   have HG := Lib.hid hg
   have HK := Lib.hid hk
   have HA : Hid (At w1 R b off cap l r) := ⟨k, hk, hm, hs⟩
   clear hg
   by_cases hr : l.length < k + 4
   ·have HQ5 : Hid (q = .no 10) := by
     unfold Hid
     rw [HQ4.out, hs]
     unfold takeP
     rw [if_pos (by rw [List.length_drop]; omega)]
     rfl
    have hf := take_no R _ l.length cap k 4 w1 hm hbig hk hr
    rw [show ((4 : Nat) : Int) = 4 from rfl] at hf
    have HF := Lib.hid hf
    clear hf
    clear HQ4 hs hm hr hcap hcap2 hbig hk
    go_wp2_with fail
    with_reducible refine HF.out.mono ?_
    rintro e w2 ⟨rfl, hg2, hm2⟩
    have HG2 := Lib.hid (HG.out.trans hg2)
    have HM2 := Lib.hid hm2
    clear hg2 hm2
    unfold fltV
    go_wp2_with fail
    go_ret
    unfold msgPost
    rw [HQ5.out]
    exact ⟨HG2.out, k, l.drop k, rfl, k, HK.out, HM2.out, rfl⟩
   ·have HQ5 : Hid (q = if valL ((l.drop k).take 4) ≠ C then .no 34 else .ok () (l.drop (k + 4))) := by
     unfold Hid
     rw [HQ4.out, hs]
     unfold takeP
     rw [if_neg (by rw [List.length_drop]; omega)]
     show (if valL ((l.drop k).take 4) ≠ C then _ else _) = _
     rw [List.drop_drop]
    have hf := take_yes R b off l.length cap k 4 w1 hm hbig hcap hcap2 (by omega) (by decide) (by decide)
    rw [show ((4 : Nat) : Int) = 4 from rfl] at hf
    have HF := Lib.hid hf
    clear hf
    have HK4 : Hid (k + 4 ≤ l.length) := by unfold Hid; omega
    obtain ⟨X, hX⟩ : ∃ X, X = valL ((l.drop k).take 4) := ⟨_, rfl⟩
    rw [← hX] at HQ5
    have HX := Lib.hid hX
    clear HQ4 hs hm hr hcap hcap2 hbig hk hX
    go_wp2_with fail
    with_reducible refine HF.out.mono ?_
    rintro e w2 ⟨rfl, hg2, hm2⟩
    have HG2 := Lib.hid (HG.out.trans hg2)
    have HM2 := Lib.hid hm2
    have HW2 := Lib.hid (below_base HW.out HS.out.base HG2.out)
    have hsum := recSumOf_any _ _ w2 (src_part HS.out HW2.out HK4.out) (by rw [List.length_take, List.length_drop]; have := HK4.out; omega)
    rw [← HX.out] at hsum
    have HSum := Lib.hid hsum
    have hcrc := crcSum_any _ msg w2 (HMs.out.below HW2.out)
    have HCrc : Hid (Calls Tryz.prog 19 #[.slice mo n mc] w2 fun e w' => e = .returned (.int .u32 (C : Int)) ∧ Below w2.heap.size w2 w') := by unfold Hid; rw [HC.out]; exact hcrc
    clear hg2 hm2 hsum hcrc
    by_cases hxc : X = C
    ·subst hxc
     have q2 : ((X : Int) != (X : Int)) = false := by simp
     have HQ6 : Hid (q = .ok () (l.drop (k + 4))) := by unfold Hid; rw [HQ5.out, if_neg (by omega)]
     clear HQ5
     go_wp2_with fail
     with_reducible refine HSum.out.mono ?_
     rintro e w3 ⟨rfl, rfl⟩
     go_wp2_with fail
     with_reducible refine HCrc.out.mono ?_
     rintro e w3 ⟨rfl, hb3⟩
     have HG3 := Lib.hid (HG2.out.below hb3)
     have HM3 := Lib.hid (HM2.out.below hb3)
     clear hb3
     go_wp2_with fail
     go_ret
     unfold msgPost
     rw [HQ6.out]
     exact ⟨HG3.out, rfl, k + 4, HK4.out, HM3.out, rfl⟩
    ·have q2 : ((X : Int) != (C : Int)) = true := by simp only [bne_iff_ne, ne_eq]; omega
     have HQ6 : Hid (q = .no 34) := by unfold Hid; rw [HQ5.out, if_pos hxc]
     clear HQ5 hxc
     go_wp2_with fail
     with_reducible refine HSum.out.mono ?_
     rintro e w3 ⟨rfl, rfl⟩
     go_wp2_with fail
     with_reducible refine HCrc.out.mono ?_
     rintro e w3 ⟨rfl, hb3⟩
     have HG3 := Lib.hid (HG2.out.below hb3)
     have HM3 := Lib.hid (HM2.out.below hb3)
     clear hb3
     have HF := Lib.hid (fault_any R _ (k + 4) 34 _ HM3.out)
     go_wp2_with fail
     with_reducible refine HF.out.mono ?_
     rintro e w4 ⟨rfl, rfl⟩
     go_wp2_with fail
     go_ret
     unfold msgPost
     rw [HQ6.out]
     exact ⟨HG3.out, k + 4, l.drop (k + 4), rfl, k + 4, HK4.out, HM3.out, rfl⟩
  ·have HQ3 : Hid (q = .no 34) := by unfold Hid; rw [HQ2.out, if_pos hnl]
   have q1 : ((n : Int) != (L : Int)) = true := by simp only [bne_iff_ne, ne_eq]; omega
   clear HQ2 hnl
   go_enter Tryz.func44, Tryz.ntmps44
   go_wp2_with fail
   with_reducible refine HN.out.mono ?_
   rintro e w1 ⟨hg, rfl, k, hk, hm, hs⟩
   have HG := Lib.hid hg
   have HK := Lib.hid hk
   have HA : Hid (At w1 R b off cap l r) := ⟨k, hk, hm, hs⟩
   clear hg
   have HF := Lib.hid (fault_any R _ k 34 _ hm)
   clear hs hm hcap hcap2 hbig hk
   go_wp2_with fail
   with_reducible refine HF.out.mono ?_
   rintro e w2 ⟨rfl, rfl⟩
   go_wp2_with fail
   go_ret
   unfold msgPost
   rw [HQ3.out]
   exact ⟨HG.out, k, r, rfl, HA.out⟩
end Go.Proofs.YtedminjnnhlknaaGreatDoor
