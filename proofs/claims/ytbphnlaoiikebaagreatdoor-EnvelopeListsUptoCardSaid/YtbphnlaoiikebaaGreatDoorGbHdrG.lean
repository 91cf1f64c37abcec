/- Contracts of package addr: items; List. -/
import Derived.Test.YtbphnlaoiikebaaGreatDoorGbAdN
import Derived.Test.YtbphnlaoiikebaaGreatDoorGbEnC
import Derived.Test.YtbphnlaoiikebaaGreatDoorGbHdrE
import Derived.Test.YtbphnlaoiikebaaGreatDoorGbAdG
namespace Go.Proofs.YtbphnlaoiikebaaGreatDoor
open Go Go.RowKit

set_option maxRecDepth 100000 in
set_option maxHeartbeats 2000000 in
theorem itemsI_any (base B : Nat) (s : ByteArray) (ts : List Tok) (b : Bool) (al0 : List Adr) (w : World) (h : St w base B s ts b al0) (hl : s.size ≤ 1000000000) (hn : al0.length + ts.length ≤ 900000000000) :
    Calls Tryz.prog 80 #[.pointer (some ⟨B, 0, none⟩), .func (.func 81) #[.pointer (some ⟨B, 0, none⟩)] #[]] w (Does base B s b al0 w (itemsT itemT (ts.length + 1) ts)) := by
  have HG := Lib.hid (fun t1 acc W h (hq : (al0 ++ acc).length + t1.length + 2 ≤ 1000000000000) => item_any base B s t1 b (al0 ++ acc) W h hl hq)
  have HTk := Lib.hid (fun t1 acc W h => takesS_any base B s t1 b (al0 ++ acc) 44 44 rfl W h hl)
  have HS := Lib.hid h
  unfold Does at HG ⊢
  clear h
  go_enter Tryz.func80, Tryz.ntmps80
  go_wp2_with fail
  go_loopg [] ts.length (fun g wr => ∃ (n : Nat) (t1 : List Tok) (acc : List Adr), g = t1.length ∧ t1.length < n ∧ acc.length + t1.length ≤ ts.length ∧ Hid (St wr base B s t1 b (al0 ++ acc)) ∧ Hid (Kp B w wr) ∧
    Hid (itemsT itemT (ts.length + 1) ts = ((itemsT itemT n t1).1, (itemsT itemT n t1).2.1, acc ++ (itemsT itemT n t1).2.2)))
  case atStart => exact ⟨ts.length + 1, ts, [], rfl, by omega, by simp, by rw [List.append_nil]; exact HS.out, Kp.refl _ _, rfl⟩
  case round =>
    obtain ⟨n, t1, acc, rfl, hn1, hal, HSr, HK, HE⟩ := hrel
    obtain ⟨n, rfl⟩ : ∃ n', n = n' + 1 := ⟨n - 1, by omega⟩
    have HX := Lib.hid (HG.out t1 acc wr HSr.out (by rw [List.length_append]; omega))
    have hf := itemT_fair t1
    rcases hx : itemT t1 with ⟨b1, t2, l⟩
    rw [hx] at HX hf
    cases b1 with
    | false =>
      have HP := Lib.hid (itemsT_bad (n := n) hx)
      clear hx hf
      go_wp2_with fail
      with_reducible refine HX.out.mono ?_
      rintro e w2 ⟨rfl, hs2, hk2⟩
      have HS2 := Lib.hid hs2
      have HK2 := Lib.hid (HK.out.trans hk2)
      clear hs2 hk2
      go_wp2_with fail
      go_ret
      rw [HE.out, HP.out]
      exact ⟨rfl, by rw [← List.append_assoc]; exact HS2.out, HK2.out⟩
    | true =>
      simp only [if_true, Nat.add_zero] at hf
      have HT := Lib.hid (fun W h => HTk.out t2 (acc ++ l) W h)
      have hlen := takesT_len 44 t2
      rcases hy : takesT 44 t2 with ⟨b2, t3⟩
      rw [hy] at HT hlen
      cases b2 with
      | false =>
        have HP := Lib.hid (itemsT_last (n := n) hx hy)
        clear hx hf hy hlen
        go_wp2_with fail
        with_reducible refine HX.out.mono ?_
        rintro e w2 ⟨rfl, hs2, hk2⟩
        rw [List.append_assoc] at hs2
        have HT2 := Lib.hid (HT.out w2 hs2)
        have HK2 := Lib.hid (HK.out.trans hk2)
        clear hs2 hk2
        go_wp2_with fail
        with_reducible refine HT2.out.mono ?_
        rintro e w3 ⟨rfl, hs3, hk3⟩
        have HS3 := Lib.hid hs3
        have HK3 := Lib.hid (HK2.out.trans hk3)
        clear hs3 hk3
        go_wp2_with fail
        go_ret
        rw [HE.out, HP.out]
        exact ⟨rfl, HS3.out, HK3.out⟩
      | true =>
        have HP := Lib.hid (itemsT_more (n := n) hx hy)
        have hlen3 : t3.length + 1 = t2.length := by simpa using hlen
        clear hx hy hlen
        go_wp2_with fail
        with_reducible refine HX.out.mono ?_
        rintro e w2 ⟨rfl, hs2, hk2⟩
        rw [List.append_assoc] at hs2
        have HT2 := Lib.hid (HT.out w2 hs2)
        have HK2 := Lib.hid (HK.out.trans hk2)
        clear hs2 hk2
        go_wp2_with fail
        with_reducible refine HT2.out.mono ?_
        rintro e w3 ⟨rfl, hs3, hk3⟩
        have HS3 := Lib.hid hs3
        have HK3 := Lib.hid (HK2.out.trans hk3)
        clear hs3 hk3
        go_wp2_with fail
        go_roundg t3.length
        case measure => omega
        case rel =>
          refine ⟨n, t3, acc ++ l, rfl, by omega, by rw [List.length_append]; omega, HS3.out, HK3.out, ?_⟩
          unfold Hid
          rw [HE.out, HP.out, List.append_assoc]
theorem listT_good {ts : List Tok} {b : Bool} {l : List Adr} {t1 : List Tok} (h : itemsT itemT (ts.length + 1) ts = (true, t1, l)) : listT (ts, b) = if (t1.isEmpty && b) = true then some l else none := by
  unfold listT
  simp only [h]
  cases t1 <;> cases b <;> rfl
theorem listT_bad {ts : List Tok} {b : Bool} {l : List Adr} {t1 : List Tok} (h : itemsT itemT (ts.length + 1) ts = (false, t1, l)) : listT (ts, b) = none := by
  unfold listT
  simp only [h]
def listIs (o : Option (List Adr)) (w0 w : World) (v : Value) (b : Bool) : Prop :=
  match o with
  | some l => b = true ∧ w.ownsRow w0.heap.size 26 4 v l.length (adrCells l)
  | none => b = false ∧ v = .slice none 0 0
set_option maxRecDepth 100000 in
set_option maxHeartbeats 4000000 in
theorem list_any (s : ByteArray) (w : World) (hl : s.size ≤ 1000000000) :
    Calls Tryz.prog 45 #[.string s] w fun e w' => ∃ v b, e = .returned (.tuple #[v, .bool b]) ∧ listIs (listA s.data.toList) w w' v b ∧ Below w.heap.size w w' := by
  have HN := Lib.hid (fun B W h => next_any B s 0 .nilIface (.slice none 0 0) W h hl (Nat.zero_le _))
  have HI := Lib.hid (fun base B ts b W h hn => itemsI_any base B s ts b [] W h hl hn)
  have HE := Lib.hid (fun B ts b tv W h => ended_any B s ts b tv W h)
  go_enter Tryz.func45, Tryz.ntmps45
  go_wp2_with fail
  obtain ⟨W0, hW0⟩ : ∃ W0, W0 = w.alloc (.cells #[.string s, .int .i64 0, .nilIface, .slice none 0 0] 144) := ⟨_, rfl⟩
  have hb0 : Below w.heap.size w W0 := by rw [hW0]; exact (Below.refl _ _).alloc (Nat.le_refl _) _
  have hh : W0.heap[w.heap.size]? = some (.cells #[.string s, .int .i64 0, .nilIface, .slice none 0 0] 144 (0, 0)) := by rw [hW0]; exact heap_alloc_new w _
  have hR : Raw W0 w.heap.size s 0 .nilIface (.slice none 0 0) :=
    ⟨by simp [World.cell?, hh], by simp [World.cell?, hh], by simp [World.cell?, hh], by simp [World.cell?, hh], by simp [World.frozen?, hh], by simp [World.frozen?, hh], by simp [World.frozen?, hh]⟩
  rw [← hW0]
  obtain ⟨B, hB⟩ : ∃ B, B = w.heap.size := ⟨_, rfl⟩
  rw [← hB] at hR ⊢
  have HX := Lib.hid (HN.out B W0 hR)
  have HB0 := Lib.hid hb0
  have HBB := Lib.hid hB
  clear hW0 hb0 hh hR hB
  rcases hts : toksA s.data.toList with ⟨ts, b⟩
  have HLA : Hid (listA s.data.toList = listT (ts, b)) := by unfold Hid listA; rw [hts]
  rw [List.drop_zero, hts] at HX
  with_reducible refine HX.out.mono ?_
  rintro e w1 ⟨rfl, hr1, hg1⟩
  have hlen : ts.length ≤ 2000000000 := by have := wt_len ts; have hwt : wt ts ≤ 2 * s.size := hr1.wt; omega
  have HS1 : Hid (St w1 B B s ts b []) := ⟨_, hr1, World.ownsRow_nil _ _ _ _, by simp [Value.ownBlock], Nat.le_refl _⟩
  have HB1 : Hid (Below w.heap.size w w1) := by
    have h0 := HB0.out
    have e := HBB.out
    exact ⟨hg1.os.trans h0.os, hg1.tape.trans h0.tape, hg1.output.trans h0.output, Nat.le_trans h0.size hg1.size, fun k hk => (hg1.block k (Nat.lt_of_lt_of_le hk h0.size) (fun e2 => by have := Option.some.inj e2; omega)).trans (h0.block k hk)⟩
  have HI1 := Lib.hid (HI.out B B ts b w1 HS1.out (by simp; omega))
  unfold Does at HI1
  rcases hx : itemsT itemT (ts.length + 1) ts with ⟨b1, t1, l⟩
  rw [hx] at HI1
  clear hr1 hg1 HX hts
  cases b1 with
  | false =>
    have HP := Lib.hid (listT_bad (b := b) hx)
    clear hx
    go_wp2_with fail
    with_reducible refine HI1.out.mono ?_
    rintro e w2 ⟨rfl, hs2, hk2⟩
    have HB2 := Lib.hid (HB1.out.trans ((HS1.out.below hk2).mono (Nat.le_of_eq HBB.out.symm)))
    clear hs2 hk2
    go_wp2_with fail
    go_ret2
    refine ⟨_, _, rfl, ?_, HB2.out⟩
    rw [HLA.out, HP.out]
    exact ⟨rfl, rfl⟩
  | true =>
    have HP := Lib.hid (listT_good (b := b) hx)
    clear hx
    go_wp2_with fail
    with_reducible refine HI1.out.mono ?_
    rintro e w2 ⟨rfl, hs2, hk2⟩
    have HB2 := Lib.hid (HB1.out.trans ((HS1.out.below hk2).mono (Nat.le_of_eq HBB.out.symm)))
    obtain ⟨tv, hr2, ho2, hne2, _⟩ := hs2
    have HE2 := Lib.hid (HE.out B t1 b tv w2 hr2)
    have HR2 := Lib.hid hr2
    have HO2 := Lib.hid ho2
    clear hk2 hr2 ho2
    rcases Bool.eq_false_or_eq_true (t1.isEmpty && b) with hq | hq
    · rw [hq] at HE2 HP
      clear hq
      go_wp2_with fail
      with_reducible refine HE2.out.mono ?_
      rintro e w3 ⟨rfl, hb3⟩
      have HR3 := Lib.hid (HR2.out.below hb3)
      have c3 := HR3.out.c3
      have HO3 := Lib.hid (ownsRow_below HO2.out hb3)
      have HB3 := Lib.hid (HB2.out.trans (hb3.mono HB2.out.size))
      clear hb3
      go_wp2_with fail
      go_ret2
      refine ⟨_, _, rfl, ?_, HB3.out⟩
      rw [HLA.out, HP.out]
      refine ⟨rfl, ?_⟩
      rw [← HBB.out]
      exact HO3.out
    · rw [hq] at HE2 HP
      clear hq
      go_wp2_with fail
      with_reducible refine HE2.out.mono ?_
      rintro e w3 ⟨rfl, hb3⟩
      have HB3 := Lib.hid (HB2.out.trans (hb3.mono HB2.out.size))
      clear hb3
      go_wp2_with fail
      go_ret2
      refine ⟨_, _, rfl, ?_, HB3.out⟩
      rw [HLA.out, HP.out]
      exact ⟨rfl, rfl⟩
end Go.Proofs.YtbphnlaoiikebaaGreatDoor

/- Layer 19: contracts: the addresses of a text; slices.Clone of addresses. -/
namespace Go.Proofs.YtbphnlaoiikebaaGreatDoor
open Go Go.RowKit

def toX (a : Adr) : Adx := ⟨(a.kind : Int), a.name, a.loc, a.host⟩
theorem toX_cells (l : List Adr) : adrCells l = adxCells (l.map toX) := by
  unfold adrCells adxCells
  rw [List.flatMap_map]
  rfl
/-- The addresses that a text tells; none, if it is broken. -/
def adrX (s : List UInt8) : List Adx := match listA s with
  | some l => l.map toX
  | none => []
theorem listA_len {s : List UInt8} {l : List Adr} (h : listA s = some l) : l.length ≤ 2 * s.length := by
  unfold listA listT at h
  have h1 := itemsT_len itemT_fair ((toksA s).1.length + 1) (toksA s).1
  have h2 := toksA_wt s.length s (Nat.le_refl _)
  have h3 := wt_len (toksA s).1
  split at h
  · next m e =>
    rw [e] at h1
    simp at h1
    split at h
    · obtain rfl := Option.some.inj h
      omega
    · cases h
  · cases h
theorem adrX_len (s : List UInt8) : (adrX s).length ≤ 2 * s.length := by
  unfold adrX
  cases h : listA s with
  | none => simp
  | some l => have := listA_len h; simpa using this
theorem list_x (s : ByteArray) (w : World) (hl : s.size ≤ 1000000000) :
    Calls Tryz.prog 45 #[.string s] w fun e w' => ∃ a c b, e = .returned (.tuple #[.slice a (adrX s.data.toList).length c, .bool b]) ∧ w'.ownsRow w.heap.size 26 4 (.slice a (adrX s.data.toList).length c) (adrX s.data.toList).length (adxCells (adrX s.data.toList)) ∧ Below w.heap.size w w' :=
  (list_any s w hl).mono fun e w' ⟨v, b, he, hi, hb⟩ => by
    unfold adrX
    cases h : listA s.data.toList with
    | none =>
      rw [h] at hi
      obtain ⟨rfl, rfl⟩ := hi
      exact ⟨none, 0, _, he, World.ownsRow_nil _ _ _ _, hb⟩
    | some l =>
      rw [h] at hi
      obtain ⟨rfl, hi⟩ := hi
      rw [toX_cells] at hi
      simp only [List.length_map]
      rcases hi.2 with ⟨rfl, h0⟩ | ⟨g, cap, cur, rfl, _⟩
      · obtain rfl : l = [] := List.eq_nil_of_length_eq_zero h0
        exact ⟨none, 0, _, he, hi, hb⟩
      · exact ⟨_, cap, _, he, hi, hb⟩
theorem own_cell {W : World} {b n m cap size g : Nat} {ty : TypeId} {xs : List Value} (h : W.ownsRow b ty size (.slice (some ⟨g, 0, none⟩) m cap) n xs) (j : Nat) (u : Value) (hj : xs[j]? = some u) : W.cell? ⟨g, j, none⟩ = some u := by
  rcases h.2 with ⟨e, _⟩ | ⟨g', cap', cur, e, _, hh, _, _, _, ht⟩
  · cases e
  · obtain ⟨e1, _, _⟩ := Value.slice.inj e
    obtain rfl : g = g' := by injection e1 with e2; injection e2
    rw [← ht, List.getElem?_take] at hj
    split at hj
    · simp only [World.cell?, hh]
      simpa using hj
    · cases hj
theorem adxCells_one (l : List Adx) : ∀ u ∈ adxCells l, u.oneCell' = true := by
  intro u hu
  unfold adxCells at hu
  obtain ⟨p, _, hp⟩ := List.mem_flatMap.1 hu
  unfold adxC at hp
  simp only [List.mem_cons, List.not_mem_nil, or_false] at hp
  rcases hp with rfl | rfl | rfl | rfl <;> rfl
set_option maxRecDepth 100000 in
set_option maxHeartbeats 1000000 in
theorem cloneA_any (b : Nat) (a : Option Addr) (n c : Nat) (cs : List Adx) (w : World) (ho : w.ownsRow b 26 4 (.slice a n c) cs.length (adxCells cs)) (hl : cs.length ≤ 4000000000) :
    Calls Tryz.prog 46 #[.slice a n c] w fun e w' => ∃ a' c', e = .returned (.slice a' cs.length c') ∧ w'.ownsRow w.heap.size 26 4 (.slice a' cs.length c') cs.length (adxCells cs) ∧ Below w.heap.size w w' := by
  obtain ⟨i0, hi0, hz⟩ := Option.map_eq_some_iff.1 Tryz.infoAdr
  simp only [Prod.mk.injEq] at hz
  obtain ⟨hz0, hz1, hz2⟩ := hz
  have knil : ∀ (W : World) (a : Option Addr) (n c n' c' : Nat), (binOp .eql 22 (.slice a n c) (.slice none n' c')).run Tryz.prog W = .ok (.bool a.isNone) W := fun W a n c n' c' => Lib.run_eql_slice_nil W _ _ a n c n' c' Tryz.underlying22
  have HOw := Lib.hid ho
  rcases ho.2 with ⟨e, h0⟩ | ⟨g, cap, cur, e, _, hh, hc, hm, hs, ht⟩
  · obtain ⟨rfl, rfl, rfl⟩ := Value.slice.inj e
    obtain rfl : cs = [] := List.eq_nil_of_length_eq_zero h0
    clear ho
    go_enter Tryz.func46, Tryz.ntmps46
    go_wp2
    go_ret
    exact ⟨none, 0, rfl, World.ownsRow_nil _ _ _ _, Below.refl _ _⟩
  · obtain ⟨rfl, rfl, rfl⟩ := Value.slice.inj e
    have hlen : (adxCells cs).length = cs.length * 4 := ho.1
    have HO := Lib.hid (World.ownsRow_made (base := w.heap.size) (e := 26) (size := 4) w #[] 0 (Nat.le_refl _) (Nat.zero_le _) rfl)
    have HN : Hid (∀ j u, (adxCells cs)[j]? = some u → (w.alloc (.cells #[] 26)).cell? ((⟨g, 0, none⟩ : Addr).add j) = some u) := fun j u hj => by
      rw [Addr.add_lit, Nat.zero_add]
      have h1 := own_cell HOw.out j u hj
      exact (World.cell?_of_block (a := ⟨g, j, none⟩) (Below.heap_alloc _ _ _ (Array.getElem?_eq_some_iff.1 hh).1)).trans h1
    have HI0 := Lib.hid hi0
    have HZ0 := Lib.hid hz0
    have HZ1 := Lib.hid hz1
    have HZ2 := Lib.hid hz2
    clear hi0 hz0 hz1 hz2 ho hh ht e
    go_enter Tryz.func46, Tryz.ntmps46
    go_wp2_with (at_builtin; refine wpList_append_own _ rfl _ _ 22 rfl w.heap.size 26 i0 (.agg #[.int .i64 0, .string ⟨#[]⟩, .string ⟨#[]⟩, .string ⟨#[]⟩]) 4 56 Tryz.underlying22 HI0.out HZ0.out HZ1.out HZ2.out rfl (by decide) _ _ _ rfl HO.out ⟨g, 0, none⟩ cs.length c (adxCells cs) rfl ?c0 ?c1 ?c2 ?c3 ?c4 ?c5 ?_)
    case c0 => exact hlen
    case c1 => exact HN.out
    case c2 => exact adxCells_one cs
    case c3 => unfold maxLen; omega
    case c4 => omega
    case c5 => simp
    intro v4 w4 hown4 hgrow4 _
    have HB4 : Hid (Below w.heap.size w w4) := ((Below.refl _ _).alloc (Nat.le_refl _) _).grown hgrow4 (by simp) (fun q hq => (HO.out.lt q hq).1)
    replace hown4 : w4.ownsRow w.heap.size 26 4 v4 cs.length (adxCells cs) := by simpa using hown4
    obtain ⟨a4, c4, rfl⟩ : ∃ a4 c4, v4 = .slice a4 cs.length c4 := by
      rcases hown4.2 with ⟨e, h0⟩ | ⟨g4, cap4, cur4, e, _⟩
      · exact ⟨none, 0, by rw [e, h0]⟩
      · exact ⟨_, cap4, e⟩
    have HO4 := Lib.hid hown4
    clear hown4 hgrow4
    go_wp2_with fail
    go_ret
    exact ⟨a4, c4, rfl, HO4.out, HB4.out⟩
end Go.Proofs.YtbphnlaoiikebaaGreatDoor

/- Contracts of package header: Find, Value. -/
namespace Go.Proofs.YtbphnlaoiikebaaGreatDoor
open Go Go.RowKit

/-- A slice of fields: what its cells hold. -/
def rowF (W : World) (v : Value) (fs : List Fld) : Prop :=
  ∃ ao cap, v = .slice ao fs.length cap ∧ fs.length ≤ cap ∧ cap ≤ maxLen ∧ (fs = [] ∨ ∃ g, ao = some ⟨g, 0, none⟩ ∧ g < W.heap.size ∧
    ∀ i, (h : i < fs.length) → W.cell? ⟨g, i * 4, none⟩ = some (.string ⟨fs[i].nm.toArray⟩) ∧ W.cell? ⟨g, i * 4 + 1, none⟩ = some (.int .i64 (fs[i].f : Int)) ∧ W.cell? ⟨g, i * 4 + 2, none⟩ = some (.int .i64 (fs[i].b : Int)) ∧ W.cell? ⟨g, i * 4 + 3, none⟩ = some (.int .i64 (fs[i].t : Int)))
theorem rowF.below {W W' : World} {v : Value} {fs : List Fld} (h : rowF W v fs) (hb : Below W.heap.size W W') : rowF W' v fs := by
  obtain ⟨ao, cap, e, h1, h2, h3⟩ := h
  refine ⟨ao, cap, e, h1, h2, h3.imp id ?_⟩
  rintro ⟨g, e, hg, hc⟩
  refine ⟨g, e, Nat.lt_of_lt_of_le hg hb.size, fun i hi => ?_⟩
  obtain ⟨c0, c1, c2, c3⟩ := hc i hi
  exact ⟨(hb.cell (p := ⟨g, i * 4, none⟩) hg).trans c0, (hb.cell (p := ⟨g, i * 4 + 1, none⟩) hg).trans c1, (hb.cell (p := ⟨g, i * 4 + 2, none⟩) hg).trans c2, (hb.cell (p := ⟨g, i * 4 + 3, none⟩) hg).trans c3⟩
theorem fldCells_at (fs : List Fld) (i : Nat) (h : i < fs.length) : (fldCells fs)[i * 4]? = some (.string ⟨fs[i].nm.toArray⟩) ∧ (fldCells fs)[i * 4 + 1]? = some (.int .i64 (fs[i].f : Int)) ∧ (fldCells fs)[i * 4 + 2]? = some (.int .i64 (fs[i].b : Int)) ∧ (fldCells fs)[i * 4 + 3]? = some (.int .i64 (fs[i].t : Int)) := by
  induction fs generalizing i with
  | nil => simp at h
  | cons x r ih =>
    have e : fldCells (x :: r) = fldC x ++ fldCells r := by simp [fldCells]
    rw [e]
    cases i with
    | zero => simp [fldC]
    | succ i =>
      have := ih i (by simpa using h)
      simp only [List.getElem_cons_succ]
      rw [List.getElem?_append_right (by simp [fldC]; omega), List.getElem?_append_right (by simp [fldC]; omega), List.getElem?_append_right (by simp [fldC]; omega), List.getElem?_append_right (by simp [fldC]; omega)]
      simp only [fldC, List.length_cons, List.length_nil]
      rw [show (i + 1) * 4 - (0 + 1 + 1 + 1 + 1) = i * 4 by omega, show (i + 1) * 4 + 1 - (0 + 1 + 1 + 1 + 1) = i * 4 + 1 by omega, show (i + 1) * 4 + 2 - (0 + 1 + 1 + 1 + 1) = i * 4 + 2 by omega, show (i + 1) * 4 + 3 - (0 + 1 + 1 + 1 + 1) = i * 4 + 3 by omega]
      exact this
theorem rowF_owned {w : World} {base : Nat} {e : TypeId} {v : Value} {fs : List Fld} (h : w.ownsRow base e 4 v fs.length (fldCells fs)) : rowF w v fs := by
  rcases h.2 with ⟨rfl, h0⟩ | ⟨g, cap, cur, rfl, _, hh, hc, hm, hs, ht⟩
  · obtain rfl : fs = [] := List.eq_nil_of_length_eq_zero h0
    exact ⟨none, 0, rfl, Nat.le_refl _, Nat.zero_le _, .inl rfl⟩
  · refine ⟨_, cap, rfl, hc, hm, .inr ⟨g, rfl, (Array.getElem?_eq_some_iff.1 hh).1, fun i hi => ?_⟩⟩
    obtain ⟨c0, c1, c2, c3⟩ := fldCells_at fs i hi
    rw [← ht] at c0 c1 c2 c3
    rw [List.getElem?_take, if_pos (by omega)] at c0 c1 c2 c3
    simp only [World.cell?, hh]
    exact ⟨by simpa using c0, by simpa using c1, by simpa using c2, by simpa using c3⟩
theorem rowF.at {W : World} {v : Value} {fs : List Fld} (h : rowF W v fs) : ∃ ao cap, v = .slice ao fs.length cap ∧ fs.length ≤ cap ∧ cap ≤ maxLen ∧
    ∀ i, (h : i < fs.length) → ∃ g, ao = some ⟨g, 0, none⟩ ∧ g < W.heap.size ∧ W.cell? ⟨g, i * 4, none⟩ = some (.string ⟨fs[i].nm.toArray⟩) ∧ W.cell? ⟨g, i * 4 + 1, none⟩ = some (.int .i64 (fs[i].f : Int)) ∧ W.cell? ⟨g, i * 4 + 2, none⟩ = some (.int .i64 (fs[i].b : Int)) ∧ W.cell? ⟨g, i * 4 + 3, none⟩ = some (.int .i64 (fs[i].t : Int)) := by
  obtain ⟨ao, cap, e, h1, h2, h3⟩ := h
  refine ⟨ao, cap, e, h1, h2, fun i hi => ?_⟩
  rcases h3 with rfl | ⟨g, e, hg, hc⟩
  · simp at hi
  · exact ⟨g, e, hg, hc i hi⟩

/-- Two names are the same, but for small and capital letters. -/
def sameB (a b : List UInt8) : Bool := decide (foldS a = foldS b)
/-- Which field is the first of a name. -/
def fI (nm : List UInt8) (fs : List Fld) : Nat := fs.findIdx (fun x => sameB x.nm nm)
/-- Names of fields that aren't too long. -/
def shortF (fs : List Fld) : Prop := ∀ x ∈ fs, x.nm.length ≤ 1048576

set_option maxHeartbeats 1000000 in
theorem find1_any (x : Fld) (B : Nat) (nm : ByteArray) (w : World) (hc : w.cell? ⟨B, 0, none⟩ = some (.string nm)) (hs : x.nm.length ≤ 1048576) :
    Calls Tryz.prog 43 #[.agg #[.string ⟨x.nm.toArray⟩, .int .i64 (x.f : Int), .int .i64 (x.b : Int), .int .i64 (x.t : Int)], .pointer (some ⟨B, 0, none⟩)] w fun e w' => e = .returned (.bool (sameB x.nm nm.data.toList)) ∧ Below w.heap.size w w' := by
  have hB : B < w.heap.size := World.block_lt_of_cell? _ _ hc
  obtain ⟨A, hA⟩ : ∃ A : ByteArray, A = ⟨x.nm.toArray⟩ := ⟨_, rfl⟩
  have hAl : A.data.toList = x.nm := by rw [hA]
  have HSm := Lib.hid (fun W => same_any A nm W (by rw [← len_toList, hAl]; omega))
  rw [hAl] at HSm
  obtain ⟨z, hz⟩ : ∃ z, z = sameB x.nm nm.data.toList := ⟨_, rfl⟩
  have hz' : decide (foldS x.nm = foldS nm.data.toList) = z := hz.symm
  rw [hz'] at HSm
  rw [← hA, ← hz]
  clear hA hAl hz hz'
  go_enter Tryz.func43, Tryz.ntmps43
  go_wp2_with fail
  with_reducible refine (HSm.out _).mono ?_
  rintro e w1 ⟨rfl, k, rfl⟩
  go_wp2_with fail
  go_ret
  exact ⟨rfl, ((Below.refl _ _).alloc (Nat.le_refl _) _).trans ((below_drewN' _).mono (by simp))⟩

theorem fI_hit {nm : List UInt8} {fs : List Fld} {i : Nat} (h1 : i ≤ fI nm fs) (h : i < fs.length) (he : sameB fs[i].nm nm = true) : fI nm fs = i := by
  rcases Nat.lt_or_ge i (fI nm fs) with h2 | h2
  · have := List.not_of_lt_findIdx (p := fun x : Fld => sameB x.nm nm) h2
    simp [he] at this
  · omega
theorem fI_step {nm : List UInt8} {fs : List Fld} {i : Nat} (h1 : i ≤ fI nm fs) (h : i < fs.length) (hne : sameB fs[i].nm nm = false) : i + 1 ≤ fI nm fs := by
  rcases Nat.lt_or_ge i (fI nm fs) with h2 | h2
  · exact h2
  · have e : fI nm fs = i := by omega
    exfalso
    have h3 := List.findIdx_getElem (p := fun x : Fld => sameB x.nm nm) (xs := fs) (w := by show fI nm fs < _; omega)
    have h4 : (fun x : Fld => sameB x.nm nm) fs[i] = true := by
      have : fs.findIdx (fun x : Fld => sameB x.nm nm) = i := e
      simp only [this] at h3
      exact h3
    simp only [hne] at h4
    cases h4
theorem fI_le (nm : List UInt8) (fs : List Fld) : fI nm fs ≤ fs.length := List.findIdx_le_length
def idxV (nm : List UInt8) (fs : List Fld) : Int := if fI nm fs < fs.length then (fI nm fs : Int) else -1
set_option maxHeartbeats 1000000 in
theorem indexF_any (v : Value) (fs : List Fld) (B : Nat) (nm : ByteArray) (w : World) (hv : rowF w v fs) (hc : w.cell? ⟨B, 0, none⟩ = some (.string nm)) (hs : shortF fs) :
    Calls Tryz.prog 42 #[v, .func (.func 43) #[] #[.pointer (some ⟨B, 0, none⟩)]] w fun e w' => e = .returned (.int .i64 (idxV nm.data.toList fs)) ∧ Below w.heap.size w w' := by
  obtain ⟨ao, cap, rfl, hca, hm, hcell⟩ := hv.at
  have HC := Lib.hid hcell
  have hB : B < w.heap.size := World.block_lt_of_cell? _ _ hc
  have HN := Lib.hid hc
  unfold maxLen at hm
  clear hv hcell hc
  go_enter Tryz.func42, Tryz.ntmps42
  go_wp2_with fail
  go_loopg [8] fs.length (fun q xi wr => ∃ i : Nat, i ≤ fs.length ∧ q = fs.length - i ∧ xi = .int .i64 i ∧ Hid (i ≤ fI nm.data.toList fs) ∧ Hid (Below w.heap.size w wr))
  case atStart => exact ⟨0, by omega, by omega, rfl, Nat.zero_le _, Below.refl _ _⟩
  case round =>
    obtain ⟨i, hi, rfl, rfl, HE, HB⟩ := hrel
    by_cases hlt : i < fs.length
    · obtain ⟨g, rfl, hg, c0, c1, c2, c3⟩ := HC.out i hlt
      have hsx := hs fs[i] (List.getElem_mem hlt)
      have HH := Lib.hid (fun h => fI_hit HE.out hlt h)
      have HT := Lib.hid (fun h => fI_step HE.out hlt h)
      obtain ⟨x, hx⟩ : ∃ x, x = fs[i] := ⟨_, rfl⟩
      rw [← hx] at c0 c1 c2 c3 HH HT hsx
      replace c0 := (HB.out.cell (p := ⟨g, i * 4, none⟩) hg).trans c0
      replace c1 := (HB.out.cell (p := ⟨g, i * 4 + 1, none⟩) hg).trans c1
      replace c2 := (HB.out.cell (p := ⟨g, i * 4 + 2, none⟩) hg).trans c2
      replace c3 := (HB.out.cell (p := ⟨g, i * 4 + 3, none⟩) hg).trans c3
      have HF1 := Lib.hid (find1_any x B nm wr ((HB.out.cell (p := ⟨B, 0, none⟩) hB).trans HN.out) hsx)
      clear hx
      go_wp2_with fail
      with_reducible refine HF1.out.mono ?_
      rintro e w1 ⟨rfl, hb1⟩
      have HB1 := Lib.hid (HB.out.trans (hb1.mono HB.out.size))
      clear hb1 HF1 HB
      rcases Bool.eq_false_or_eq_true (sameB x.nm nm.data.toList) with hb | hb
      · have HR : Hid (idxV nm.data.toList fs = i) := by
          unfold Hid idxV
          rw [HH.out hb, if_pos hlt]
        rw [hb]
        go_wp2_with fail
        go_ret
        exact ⟨ret_int HR.out.symm, HB1.out⟩
      · have HR := Lib.hid (HT.out hb)
        rw [hb]
        go_wp2_with fail
        go_roundg (fs.length - (i + 1))
        case measure => omega
        case rel => exact ⟨i + 1, by omega, rfl, by go_num, HR, HB1⟩
    · obtain rfl : i = fs.length := by omega
      have HR : Hid (idxV nm.data.toList fs = -1) := by
        unfold Hid idxV
        rw [if_neg (by have := HE.out; omega)]
      go_wp2_with fail
      go_ret
      exact ⟨ret_int HR.out.symm, HB.out⟩
set_option maxHeartbeats 1000000 in
theorem find_yes (v : Value) (fs : List Fld) (nm : ByteArray) (k : Nat) (x : Fld) (w : World) (hv : rowF w v fs) (hs : shortF fs) (hk : k = fI nm.data.toList fs) (h : k < fs.length) (hx : fs[k] = x) :
    Calls Tryz.prog 23 #[v, .string nm] w fun e w' => e = .returned (.tuple #[.agg #[.string ⟨x.nm.toArray⟩, .int .i64 (x.f : Int), .int .i64 (x.b : Int), .int .i64 (x.t : Int)], .bool true]) ∧ Below w.heap.size w w' := by
  have HV := Lib.hid hv
  have HI := Lib.hid (fun W h hc => indexF_any v fs w.heap.size nm W h hc hs)
  have e1 : idxV nm.data.toList fs = k := by unfold idxV; rw [← hk, if_pos h]
  rw [e1] at HI
  clear e1 hk hv
  obtain ⟨ao, cap, rfl, hca, hm, _⟩ := HV.out.at
  unfold maxLen at hm
  go_enter Tryz.func23, Tryz.ntmps23
  go_wp2_with fail
  with_reducible refine (HI.out _ ?h1 ?h2).mono ?_
  case h1 => exact HV.out.below (((Below.refl _ _).alloc (Nat.le_refl _) _).alloc (by simp) _)
  case h2 => simp
  rintro e w1 ⟨rfl, hb1⟩
  have HB1 : Hid (Below w.heap.size w w1) := (((Below.refl _ _).alloc (Nat.le_refl _) _).alloc (by simp) _).trans (hb1.mono (by simp; omega))
  obtain ⟨hc, hf⟩ := bcell hb1
  have HR1 := HV.out.below HB1.out
  obtain ⟨_, _, e0, _, _, hcell⟩ := HR1.at
  cases e0
  obtain ⟨g, rfl, hg, c0, c1, c2, c3⟩ := hcell k h
  rw [hx] at c0 c1 c2 c3
  clear hb1 HR1 hcell HI HV hx
  go_wp2_with fail
  refine bodyPost_ret (v := .tuple #[.agg #[.string ⟨x.nm.toArray⟩, .int .i64 (x.f : Int), .int .i64 (x.b : Int), .int .i64 (x.t : Int)], .bool true]) (by simp [results, Tryz.results23, go_sem, hc]) rfl ⟨rfl, ?_⟩
  exact ((((HB1.out.setCell (by simp) _).setCell (by simp) _).setCell (by simp) _).setCell (by simp) _)
set_option maxHeartbeats 1000000 in
theorem find_no (v : Value) (fs : List Fld) (nm : ByteArray) (w : World) (hv : rowF w v fs) (hs : shortF fs) (h : ¬ fI nm.data.toList fs < fs.length) :
    Calls Tryz.prog 23 #[v, .string nm] w fun e w' => e = .returned (.tuple #[.agg #[.string ⟨#[]⟩, .int .i64 0, .int .i64 0, .int .i64 0], .bool false]) ∧ Below w.heap.size w w' := by
  have HV := Lib.hid hv
  have HI := Lib.hid (fun W h hc => indexF_any v fs w.heap.size nm W h hc hs)
  have e1 : idxV nm.data.toList fs = -1 := by unfold idxV; rw [if_neg h]
  rw [e1] at HI
  clear e1 hv
  go_enter Tryz.func23, Tryz.ntmps23
  go_wp2_with fail
  with_reducible refine (HI.out _ ?h1 ?h2).mono ?_
  case h1 => exact HV.out.below (((Below.refl _ _).alloc (Nat.le_refl _) _).alloc (by simp) _)
  case h2 => simp
  rintro e w1 ⟨rfl, hb1⟩
  have HB1 : Hid (Below w.heap.size w w1) := (((Below.refl _ _).alloc (Nat.le_refl _) _).alloc (by simp) _).trans (hb1.mono (by simp; omega))
  obtain ⟨hc, hf⟩ := bcell hb1
  clear hb1 HI HV
  go_wp2_with fail
  refine bodyPost_ret (v := .tuple #[.agg #[.string ⟨#[]⟩, .int .i64 0, .int .i64 0, .int .i64 0], .bool false]) (by simp [results, Tryz.results23, go_sem, hc]) rfl ⟨rfl, ?_⟩
  exact ((((HB1.out.setCell (by simp) _).setCell (by simp) _).setCell (by simp) _).setCell (by simp) _)
end Go.Proofs.YtbphnlaoiikebaaGreatDoor

/- Contracts of package header: Value; whether a name is among some. -/
namespace Go.Proofs.YtbphnlaoiikebaaGreatDoor
open Go Go.RowKit

def valueS (l : List UInt8) (fs : List Fld) (nm : List UInt8) : List UInt8 :=
  if h : fI nm fs < fs.length then bodyS l (fs[fI nm fs].b : Int) (fs[fI nm fs].t : Int) else []
set_option maxHeartbeats 1000000 in
theorem value_any (v vf : Value) (l : List UInt8) (fs : List Fld) (nm : ByteArray) (w : World) (hv : bytesArg w v l) (hbig : l.length ≤ 1048576) (hf : rowF w vf fs) (hs : shortF fs) :
    Calls Tryz.prog 22 #[v, vf, .string nm] w fun e w' => e = .returned (.string ⟨(valueS l fs nm.data.toList).toArray⟩) ∧ Below w.heap.size w w' := by
  have HV := Lib.hid hv
  obtain ⟨ao, cap, rfl, hc, hm, hsl⟩ := hv
  obtain ⟨fo, fc, rfl, hfc, hfm, _⟩ := hf.at
  have HF := Lib.hid hf
  unfold maxLen at hm hfm
  clear hf hsl
  by_cases h : fI nm.data.toList fs < fs.length
  · obtain ⟨x, hx⟩ : ∃ x, fs[fI nm.data.toList fs] = x := ⟨_, rfl⟩
    have HFi := Lib.hid (fun W h1 => find_yes (.slice fo fs.length fc) fs nm (fI nm.data.toList fs) x W h1 hs rfl h hx)
    have HBo := Lib.hid (fun W h1 => body_any (.slice ao l.length cap) l ⟨x.nm.toArray⟩ (x.f : Int) (x.b : Int) (x.t : Int) W h1 hbig)
    have HR : Hid (valueS l fs nm.data.toList = bodyS l (x.b : Int) (x.t : Int)) := by
      unfold Hid valueS
      rw [dif_pos h, hx]
    clear hx h
    go_enter Tryz.func22, Tryz.ntmps22
    go_wp2_with fail
    with_reducible refine (HFi.out _ HF.out).mono ?_
    rintro e w1 ⟨rfl, hb1⟩
    have HB1 := Lib.hid hb1
    clear hb1
    go_wp2_with fail
    with_reducible refine (HBo.out _ ?h1).mono ?_
    case h1 => exact bytesArg.below HV.out (HB1.out.alloc HB1.out.size _)
    rintro e w2 ⟨rfl, hb2⟩
    have HB2 : Hid (Below w.heap.size w w2) := (HB1.out.alloc HB1.out.size _).trans (hb2.mono (by have := HB1.out.size; simp; omega))
    clear hb2
    go_wp2_with fail
    go_ret
    exact ⟨ret_str (by rw [HR.out]), HB2.out⟩
  · have HFi := Lib.hid (fun W h1 => find_no (.slice fo fs.length fc) fs nm W h1 hs h)
    have HR : Hid (valueS l fs nm.data.toList = []) := by
      unfold Hid valueS
      rw [dif_neg h]
    clear h
    go_enter Tryz.func22, Tryz.ntmps22
    go_wp2_with fail
    with_reducible refine (HFi.out _ HF.out).mono ?_
    rintro e w1 ⟨rfl, hb1⟩
    have HB1 := Lib.hid hb1
    clear hb1
    go_wp2_with fail
    go_ret
    exact ⟨ret_str (by rw [HR.out]), HB1.out.alloc HB1.out.size _⟩

/-- Whether a name is one of some. -/
def inS (ns : List ByteArray) (nm : List UInt8) : Bool := ns.any (fun s => sameB nm s.data.toList)
end Go.Proofs.YtbphnlaoiikebaaGreatDoor
