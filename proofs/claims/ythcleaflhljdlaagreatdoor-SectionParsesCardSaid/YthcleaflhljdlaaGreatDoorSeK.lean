/- Contracts of package section: Parse. -/
import Derived.Test.YthcleaflhljdlaaGreatDoorSeH
import Derived.Test.YthcleaflhljdlaaGreatDoorSeJ
namespace Go.Proofs.YthcleaflhljdlaaGreatDoor
open Go Go.RowKit

theorem nameTx_len {t a : List UInt8} (h : NameTx t a) : a.length ≤ t.length := by
  cases h with
  | atom _ h _ => exact Nat.le_refl _
  | quo =>
    have := escL_len a
    simp only [quoteL, List.length_append, this]
    omega
theorem nmsTx_len {t : List UInt8} {ns : List (List UInt8)} (h : NmsTx t ns) : ∀ a ∈ ns, a.length ≤ t.length := by
  induction h with
  | one t a h =>
    intro b hb
    obtain rfl := List.mem_singleton.1 hb
    exact nameTx_len h
  | more t a l as1 h hl ih =>
    intro b hb
    rcases List.mem_cons.1 hb with rfl | hb
    · have := nameTx_len h
      simp
      omega
    · have := ih b hb
      simp
      omega
theorem textOf_names {l : List UInt8} {s : Spc} (h : TextOf l s) : ∀ a ∈ s.names, a.length ≤ l.length := by
  obtain ⟨A, N, C, k, e1, _, _, e4, _⟩ := h
  intro a ha
  rcases e4 with ⟨_, hn⟩ | ⟨t, rfl, ht⟩
  · rw [hn] at ha
    cases ha
  · have := nmsTx_len ht a ha
    rw [e1]
    simp
    omega
def specC (l : List UInt8) : Option Spc :=
  match specL l with
  | some sp => if checkS sp = true then some sp else none
  | none => none
theorem SpV.spA {base : Nat} {W : World} {s : Spc} {v : Value} (h : SpV base W s v) (hn : ∀ a ∈ s.names, a.length ≤ 1000000000) : ∃ a1 c1 a2 c2, v = spV s a1 a2 c1 c2 ∧ SpA W s a1 a2 c1 c2 := by
  obtain ⟨a1, c1, a2, c2, e, h1, h2⟩ := h
  exact ⟨a1, c1, a2, c2, e, ⟨rowOf_owned h1, rowOf_owned h2, hn⟩⟩
def zeroSp : Value := .agg #[.slice none 0 0, .int .i64 0, .slice none 0 0, .bool false, .int .i64 0, .int .i64 0]
def ParseIs (w : World) (o : Option Spc) (e : Ending) (w' : World) : Prop :=
  match o with
  | some sp => ∃ v, e = .returned (.tuple #[v, .int .i64 0]) ∧ SpV w.heap.size w' sp v ∧ (∀ a ∈ sp.names, a.length ≤ 1000000000) ∧ Below w.heap.size w w'
  | none => e = .returned (.tuple #[zeroSp, .int .i64 50]) ∧ Below w.heap.size w w'
theorem Gr.toBelow {B n : Nat} {w w' : World} (h : Gr B w w') (hn : n ≤ B) (hw : n ≤ w.heap.size) : Below n w w' :=
  ⟨h.os, h.tape, h.output, h.size, fun k hk => h.block k (by omega) (fun e => by cases e; omega)⟩
theorem own_row {R base : Nat} {W : World} {e : TypeId} {v : Value} {n : Nat} {xs : List Value} (h : W.ownsRow base e 1 v n xs) (hB : R < base) (cs : Array Value) : (W.setRow R cs).ownsRow base e 1 v n xs :=
  own_gr (B := R) h ⟨rfl, rfl, rfl, by rw [size_setRow]; exact Nat.le_refl _, fun k _ hk => setRow_other _ _ k _ (fun e => hk (by rw [e]))⟩ hB
set_option maxRecDepth 100000 in
set_option maxHeartbeats 4000000 in
theorem parse_any (s : ByteArray) (w : World) (hl : s.size ≤ 1000000000) (hw : wrds w) :
    Calls Tryz.prog 8 #[.string s] w (ParseIs w (specC s.data.toList)) := by
  have hgl := hw.lt
  obtain ⟨W0, hW0⟩ : ∃ W0, W0 = w.alloc (.cells #[.slice none 0 0, .int .i64 0, .slice none 0 0, .bool false, .int .i64 0, .int .i64 0] 26) := ⟨_, rfl⟩
  have hs0 : W0.heap.size = w.heap.size + 1 := by rw [hW0]; simp
  have hb0 : Below w.heap.size w W0 := by rw [hW0]; exact (Below.refl _ _).alloc (Nat.le_refl _) _
  obtain ⟨W1, hW1⟩ : ∃ W1, W1 = W0.alloc (.cells #[.string s, .int .i64 0] 49) := ⟨_, rfl⟩
  have hs1 : W1.heap.size = w.heap.size + 2 := by rw [hW1]; simp; omega
  have HB1 : Hid (Below w.heap.size w W1) := by rw [hW1]; exact hb0.alloc (by omega) _
  have hR0 : W1.heap[w.heap.size]? = some (.cells #[.slice none 0 0, .int .i64 0, .slice none 0 0, .bool false, .int .i64 0, .int .i64 0] 26 (0, 0)) := by
    rw [hW1, Below.heap_alloc _ _ _ (by omega), hW0]
    exact heap_alloc_new _ _
  have hB0 : W1.heap[w.heap.size + 1]? = some (.cells #[.string s, .int .i64 0] 49 (0, 0)) := by
    rw [hW1, ← hs0]
    exact heap_alloc_new _ _
  have HRd : Hid (Rd W1 (w.heap.size + 1) s 0) := ⟨by simp [World.cell?, hB0], by simp [World.cell?, hB0], by simp [World.frozen?, hB0]⟩
  have HR0 : Hid (Box W1 w.heap.size (.slice none 0 0) 0 (.slice none 0 0) false 0 0) := hR0
  have HSp := Lib.hid (spec_any (w.heap.size + 1) s W1 HRd.out hl (hw.below HB1.out) (by omega))
  have HCh := Lib.hid (fun sp a1 a2 c1 c2 W h => check_any sp a1 a2 c1 c2 W h)
  have HZ1 := Lib.hid hs1
  have HW1 := Lib.hid hW1.symm
  have HW0 := Lib.hid hW0.symm
  unfold SpecIs at HSp
  clear hW1 hW0 hs0 hs1 hb0 hR0 hB0 hw hgl
  cases hsp : specL s.data.toList with
  | none =>
    rw [hsp] at HSp
    have HE : Hid (specC s.data.toList = none) := by unfold Hid specC; rw [hsp]
    simp only at HSp
    clear hsp
    go_enter Tryz.func8, Tryz.ntmps8
    go_wp2_with fail
    rw [HW0.out, HW1.out]
    with_reducible refine HSp.out.mono ?_
    rintro e w2 ⟨a1, n1, c1, q, a2, n2, c2, c, x, y, rfl, hg2⟩
    have HG2 := Lib.hid hg2
    have HR2 := Lib.hid (HR0.out.gr hg2 (by omega))
    have HB2 := Lib.hid (HB1.out.trans (hg2.toBelow (by omega) (by have := HZ1.out; omega)))
    clear hg2
    have HRx : Hid (Box (w2.alloc (.cells #[.slice a1 n1 c1, .int .i64 q, .slice a2 n2 c2, .bool c, .int .i64 x, .int .i64 y] 26)) w.heap.size (.slice none 0 0) 0 (.slice none 0 0) false 0 0) := HR2.out.below ((Below.refl _ _).alloc (Nat.le_refl _) _)
    have HB3 : Hid (Below w.heap.size w (w2.alloc (.cells #[.slice a1 n1 c1, .int .i64 q, .slice a2 n2 c2, .bool c, .int .i64 x, .int .i64 y] 26))) := HB2.out.alloc HB2.out.size _
    go_wp2_with (refine wpList_store_row' rfl 26 (.tmp 2) (.tmp 20) rfl w.heap.size #[.slice none 0 0, .int .i64 0, .slice none 0 0, .bool false, .int .i64 0, .int .i64 0] rfl rfl 26 _ HRx.out (by kernel_rfl) rfl (by kernel_rfl) ?_; intro WE hWE)
    (try simp only [Exit.inBlock, Exit.then])
    have hrow := setRow_heap _ w.heap.size _ #[.slice none 0 0, .int .i64 0, .slice none 0 0, .bool false, .int .i64 0, .int .i64 0] _ _ HRx.out
    rw [← hWE.out] at hrow
    refine bodyPost_ret (results_cell_row2 (P := Tryz.prog) Tryz.results8 _ _ w.heap.size 26 _ (0, 0) _ rfl hrow Tryz.underlying26 rfl (by kernel_rfl)) rfl ?_
    rw [HE.out, hWE.out]
    exact ⟨rfl, below_setRow HB3.out (Nat.le_refl _) _⟩
  | some sp =>
    rw [hsp] at HSp
    have hnm : ∀ a ∈ sp.names, a.length ≤ 1000000000 := fun a ha => by
      have := textOf_names ((specL_iff _ _).1 hsp) a ha
      rw [len_toList] at this
      omega
    have HNm := Lib.hid hnm
    have HE : Hid (specC s.data.toList = if checkS sp = true then some sp else none) := by unfold Hid specC; rw [hsp]
    simp only at HSp
    clear hsp hnm
    go_enter Tryz.func8, Tryz.ntmps8
    go_wp2_with fail
    rw [HW0.out, HW1.out]
    with_reducible refine HSp.out.mono ?_
    rintro e w2 ⟨v, rfl, hv, hg2⟩
    obtain ⟨a1, c1, a2, c2, rfl, ho1, ho2⟩ := hv
    have HO1 := Lib.hid ho1
    have HO2 := Lib.hid ho2
    have HR2 := Lib.hid (HR0.out.gr hg2 (by omega))
    have HB2 := Lib.hid (HB1.out.trans (hg2.toBelow (by omega) (by have := HZ1.out; omega)))
    have HZ2 : Hid (W1.heap.size ≤ w2.heap.size) := hg2.size
    clear hg2 ho1 ho2
    obtain ⟨W3, hW3⟩ : ∃ W3, W3 = w2.alloc (.cells #[.slice a1 sp.path.length c1, .int .i64 sp.what, .slice a2 sp.names.length c2, .bool sp.cut, .int .i64 sp.frm, .int .i64 sp.many] 26) := ⟨_, rfl⟩
    have hb23 : Below w2.heap.size w2 W3 := by rw [hW3]; exact (Below.refl _ _).alloc (Nat.le_refl _) _
    have hbx : Box W3 w2.heap.size (.slice a1 sp.path.length c1) sp.what (.slice a2 sp.names.length c2) sp.cut sp.frm sp.many := by rw [hW3]; exact heap_alloc_new w2 _
    have HR3 := Lib.hid (HR2.out.below hb23)
    have HB3 := Lib.hid (HB2.out.trans (hb23.mono HB2.out.size))
    have HO3 := Lib.hid (ownsRow_below HO1.out hb23)
    have HO4 := Lib.hid (ownsRow_below HO2.out hb23)
    have HW3 := Lib.hid hW3.symm
    have HBx := Lib.hid hbx
    obtain ⟨S, hS⟩ : ∃ S, S = w2.heap.size := ⟨_, rfl⟩
    have HS := Lib.hid hS
    rw [← hS] at HBx
    obtain ⟨k0, k1, k2, k3, k4, k5⟩ := HBx.out.c
    have HC := Lib.hid (HCh.out sp a1 a2 c1 c2 W3 ⟨rowOf_owned HO3.out, rowOf_owned HO4.out, HNm.out⟩)
    unfold spV at HC
    clear hb23 hbx hW3 hS HO1 HO2 HR2 HB2
    obtain ⟨b, hb⟩ : ∃ b, b = checkS sp := ⟨_, rfl⟩
    rw [← hb] at HC HE
    clear hb
    unfold errS at HC
    cases b with
    | false =>
      go_wp2_with fail
      rw [HW3.out, ← HS.out]
      with_reducible refine HC.out.mono ?_
      rintro e w4 ⟨rfl, hb4⟩
      have HB4 := Lib.hid (HB3.out.trans (hb4.mono HB3.out.size))
      have HRx := Lib.hid (HR3.out.below hb4)
      clear hb4
      go_wp2_with (refine wpList_store_row' rfl 26 (.tmp 2) (.tmp 20) rfl w.heap.size #[.slice none 0 0, .int .i64 0, .slice none 0 0, .bool false, .int .i64 0, .int .i64 0] rfl rfl 26 _ HRx.out (by kernel_rfl) rfl (by kernel_rfl) ?_; intro WE hWE)
      (try simp only [Exit.inBlock, Exit.then])
      have hrow := setRow_heap _ w.heap.size _ #[.slice none 0 0, .int .i64 0, .slice none 0 0, .bool false, .int .i64 0, .int .i64 0] _ _ HRx.out
      rw [← hWE.out] at hrow
      refine bodyPost_ret (results_cell_row2 (P := Tryz.prog) Tryz.results8 _ _ w.heap.size 26 _ (0, 0) _ rfl hrow Tryz.underlying26 rfl (by kernel_rfl)) rfl ?_
      rw [HE.out, hWE.out]
      exact ⟨rfl, below_setRow HB4.out (Nat.le_refl _) _⟩
    | true =>
      go_wp2_with fail
      rw [HW3.out, ← HS.out]
      with_reducible refine HC.out.mono ?_
      rintro e w4 ⟨rfl, hb4⟩
      have HB4 := Lib.hid (HB3.out.trans (hb4.mono HB3.out.size))
      have HRx := Lib.hid (HR3.out.below hb4)
      have HO5 := Lib.hid (ownsRow_below HO3.out hb4)
      have HO6 := Lib.hid (ownsRow_below HO4.out hb4)
      have HBx4 := Lib.hid (HBx.out.below hb4)
      clear hb4 k0 k1 k2 k3 k4 k5
      obtain ⟨k0, k1, k2, k3, k4, k5⟩ := HBx4.out.c
      go_wp2_with (refine wpList_store_row' rfl 26 (.tmp 2) (.tmp 21) rfl w.heap.size #[.slice a1 sp.path.length c1, .int .i64 sp.what, .slice a2 sp.names.length c2, .bool sp.cut, .int .i64 sp.frm, .int .i64 sp.many] rfl rfl 26 _ HRx.out (by kernel_rfl) rfl (by kernel_rfl) ?_; intro WE hWE)
      (try simp only [Exit.inBlock, Exit.then])
      have hrow := setRow_heap _ w.heap.size _ #[.slice a1 sp.path.length c1, .int .i64 sp.what, .slice a2 sp.names.length c2, .bool sp.cut, .int .i64 sp.frm, .int .i64 sp.many] _ _ HRx.out
      rw [← hWE.out] at hrow
      refine bodyPost_ret (results_cell_row2 (P := Tryz.prog) Tryz.results8 _ _ w.heap.size 26 _ (0, 0) _ rfl hrow Tryz.underlying26 rfl (by kernel_rfl)) rfl ?_
      rw [HE.out, hWE.out]
      exact ⟨_, rfl, ⟨a1, c1, a2, c2, rfl, own_base (own_row HO5.out (by have := HZ1.out; omega) _) (by have := HZ1.out; omega), own_base (own_row HO6.out (by have := HZ1.out; omega) _) (by have := HZ1.out; omega)⟩, HNm.out, below_setRow HB4.out (Nat.le_refl _) _⟩
end Go.Proofs.YthcleaflhljdlaaGreatDoor
