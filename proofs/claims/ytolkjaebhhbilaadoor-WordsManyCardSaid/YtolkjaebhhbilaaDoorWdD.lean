/- Contracts of package words: what reads a letter's text. -/
import Derived.Test.YtolkjaebhhbilaaDoorWdB
import Derived.Test.YtolkjaebhhbilaaDoorWdC
import Derived.Test.YtolkjaebhhbilaaDoorB64I
import Derived.Test.YtolkjaebhhbilaaDoorCsW
namespace Go.Proofs.YtolkjaebhhbilaaDoor
open Go Go.RowKit Go.Maps

/-- What reads, over block B. -/
def rdV (B : Nat) : Value := .func (.func 32) #[] #[.pointer (some ⟨B, 0, none⟩)]
theorem rdV_inj {a b : Nat} (h : rdV a = rdV b) : a = b := by
  unfold rdV at h
  simp at h
  exact h
theorem rdV_nil (a : Nat) : rdV a ≠ .nilFunc := by unfold rdV; simp
open Classical in
/-- How such a value reads: its block's number, and one. -/
noncomputable def rdR (v : Value) : Option (DataW Unit × List MemPlace) :=
  if v = .nilFunc then some (.lit (.int .i64 0), []) else if h : ∃ B, v = rdV B then some (.lit (.int .i64 ((h.choose : Nat) + 1 : Nat)), []) else none
theorem rdR_nil : rdR .nilFunc = some (.lit (.int .i64 0), []) := by unfold rdR; rw [if_pos rfl]
theorem rdR_at (B : Nat) : rdR (rdV B) = some (.lit (.int .i64 ((B + 1 : Nat) : Int)), []) := by
  unfold rdR
  have he : ∃ b, rdV B = rdV b := ⟨B, rfl⟩
  rw [if_neg (rdV_nil B), dif_pos he]
  rw [← rdV_inj he.choose_spec]
theorem rdR_inv {v : Value} {B : Nat} {ps : List MemPlace} (h : rdR v = some (.lit (.int .i64 ((B + 1 : Nat) : Int)), ps)) : v = rdV B := by
  unfold rdR at h
  split at h
  · have h1 := congrArg Prod.fst (Option.some.inj h)
    simp at h1
    omega
  · split at h
    · next he =>
      have h1 := congrArg Prod.fst (Option.some.inj h)
      have h2 : he.choose = B := by simp at h1; omega
      rw [← h2]
      exact he.choose_spec
    · cases h
theorem rdR_zero {v : Value} {ps : List MemPlace} (h : rdR v = some (.lit (.int .i64 0), ps)) : v = .nilFunc := by
  unfold rdR at h
  split at h
  · next e => exact e
  · split at h
    · next he =>
      have h1 := congrArg Prod.fst (Option.some.inj h)
      simp at h1
      omega
    · cases h
def rdN (B1 B2 : Nat) (c : UInt8) : Nat := if c = 98 then B1 + 1 else if c = 113 then B2 + 1 else 0
def RdD (D : DataW Unit) (B1 B2 : Nat) : Prop := ∀ c : UInt8, Maps.has D (.int .u8 (c.toNat : Int)) = decide (c = 98 ∨ c = 113) ∧ D.atKey (.int .u8 (c.toNat : Int)) (.lit (.int .i64 0)) = .lit (.int .i64 (rdN B1 B2 c : Int))
theorem isKey8 (c : Int) : WideAt.IsKeyLit (.int .u8 c) := by trivial
theorem put8_at {D : DataW Unit} (hm : IsMap D) (x c : UInt8) (k : Nat) : Maps.has (D.put (.int .u8 (x.toNat : Int)) (.lit (.int .i64 (k : Int)))) (.int .u8 (c.toNat : Int)) = (if c = x then true else Maps.has D (.int .u8 (c.toNat : Int))) ∧
    (D.put (.int .u8 (x.toNat : Int)) (.lit (.int .i64 (k : Int)))).atKey (.int .u8 (c.toNat : Int)) (.lit (.int .i64 0)) = (if c = x then .lit (.int .i64 (k : Int)) else D.atKey (.int .u8 (c.toNat : Int)) (.lit (.int .i64 0))) := by
  by_cases e : c = x
  · subst e
    rw [if_pos rfl, if_pos rfl]
    exact ⟨has_put_same hm (isKey8 _) _, atKey_put_same hm (isKey8 _) _ _⟩
  · have hne : (Lit.int .u8 (c.toNat : Int)) ≠ Lit.int .u8 (x.toNat : Int) := by
      intro h
      apply e
      have := (Lit.int.inj h).2
      exact toNat_eq (by omega)
    rw [if_neg e, if_neg e]
    exact ⟨has_put_other hne _, atKey_put_other hne _ _⟩
theorem rdD_is (B1 B2 : Nat) (h0 : IsMap ((.map []) : DataW Unit)) (h1 : IsMap (DataW.put (.map []) (.int .u8 ((98 : UInt8).toNat : Int)) (.lit (.int .i64 ((B1 + 1 : Nat) : Int))) : DataW Unit)) :
    RdD (DataW.put (DataW.put (.map []) (.int .u8 ((98 : UInt8).toNat : Int)) (.lit (.int .i64 ((B1 + 1 : Nat) : Int)))) (.int .u8 ((113 : UInt8).toNat : Int)) (.lit (.int .i64 ((B2 + 1 : Nat) : Int)))) B1 B2 := by
  intro c
  rw [(put8_at h1 113 c _).1, (put8_at h1 113 c _).2, (put8_at h0 98 c _).1, (put8_at h0 98 c _).2]
  unfold rdN
  by_cases e1 : c = 98
  · subst e1
    exact ⟨by decide, by rfl⟩
  · by_cases e2 : c = 113
    · subst e2
      exact ⟨by decide, by rfl⟩
    · simp only [e1, e2, if_false, or_self]
      exact ⟨rfl, rfl⟩
def decFn : Value := .func (.func 25) #[] #[]
def quoFn : Value := .func (.func 26) #[] #[]
/-- What the map of those tells. -/
def rdIs (W : World) (m : Value) : Prop := ∃ bm n D B1 B2, m = .map (some bm) ∧ n ≤ 2 ∧ W.ownsMap Tryd.prog 5 rdR bm n D ∧ RdD D B1 B2 ∧ W.cell? ⟨B1, 0, none⟩ = some decFn ∧ W.cell? ⟨B2, 0, none⟩ = some quoFn
theorem rdIs.below {W W' : World} {m : Value} (h : rdIs W m) (hb : Below W.heap.size W W') : rdIs W' m := by
  obtain ⟨bm, n, D, B1, B2, rfl, hn, h1, h2, h3, h4⟩ := h
  exact ⟨bm, n, D, B1, B2, rfl, hn, h1.kept (row := none) ⟨hb.os, hb.tape, hb.output, hb.size, fun k hk _ => hb.block k hk⟩ (by simp), h2, (hb.cell (p := ⟨B1, 0, none⟩) (World.block_lt_of_cell? _ _ h3)).trans h3, (hb.cell (p := ⟨B2, 0, none⟩) (World.block_lt_of_cell? _ _ h4)).trans h4⟩
theorem keyLaw8 : Keyed Tryd.prog 5 := int_keyed Tryd.underlying5
theorem key8 (c : UInt8) : keyOf Tryd.prog 5 (.int .u8 (c.toNat : Int)) = some (.int .u8 (c.toNat : Int)) := by
  have hc := c.toNat_lt
  refine keyOf_int_mk Tryd.underlying5 ?_
  simp [Lit.wf, IntKind.min, IntKind.max, IntKind.signed, IntKind.bits]
  omega
theorem zeroRd (w : World) : (zeroValue 45).run Tryd.prog w = .ok .nilFunc w := by kernel_rfl

theorem cell_of_block {w w' : World} {b i : Nat} (h : w'.heap[b]? = w.heap[b]?) : w'.cell? ⟨b, i, none⟩ = w.cell? ⟨b, i, none⟩ := by
  simp only [World.cell?, h]
theorem readerBy_any (f : FuncId) (w : World) :
    Calls Tryd.prog 24 #[.func (.func f) #[] #[]] w fun e w' => e = .returned (rdV w.heap.size) ∧ w'.cell? ⟨w.heap.size, 0, none⟩ = some (.func (.func f) #[] #[]) ∧ Below w.heap.size w w' := by
  go_enter Tryd.func24, Tryd.ntmps24
  go_wp2
  go_ret
  refine ⟨rfl, ?_, ?_⟩
  · simp only [World.cell?, heap_alloc_new]
    rfl
  · exact (Below.refl _ _).alloc (Nat.le_refl _) _
set_option maxRecDepth 100000 in
set_option maxHeartbeats 2000000 in
theorem readers_any (w : World) :
    Calls Tryd.prog 16 #[] w fun e w' => ∃ m, e = .returned m ∧ rdIs w' m ∧ Below w.heap.size w w' := by
  have hmm := @run_makeMap Tryd.prog
  have HK1 : Hid (keyOf Tryd.prog 5 (.int .u8 98) = some (.int .u8 ((98 : UInt8).toNat : Int))) := key8 98
  have HK2 : Hid (keyOf Tryd.prog 5 (.int .u8 113) = some (.int .u8 ((113 : UInt8).toNat : Int))) := key8 113
  have HRb := Lib.hid (fun f W => readerBy_any f W)
  have HRr := Lib.hid rdR_at
  have O0 : Hid ((w.alloc (.map #[] 0)).ownsMap (H := Unit) Tryd.prog 5 rdR w.heap.size 0 (.map [])) := World.ownsMap_made (H := Unit) w Tryd.prog 5 rdR
  go_enter Tryd.func16, Tryd.ntmps16
  go_wp2_with fail
  with_reducible refine (HRb.out _ _).mono ?_
  rintro e w1 ⟨rfl, hc1, hb1⟩
  obtain ⟨B1, hB1⟩ : ∃ B1, B1 = (w.alloc (.map #[] 0)).heap.size := ⟨_, rfl⟩
  rw [← hB1] at hc1 ⊢
  have hb0 : Below w.heap.size w (w.alloc (.map #[] 0)) := (Below.refl _ _).alloc (Nat.le_refl _) _
  have HB1 := Lib.hid (hb0.trans (hb1.mono hb0.size))
  have hle1 : w.heap.size < w1.heap.size := by
    have := hb1.size
    simp at this
    omega
  have O1 : Hid (w1.ownsMap (H := Unit) Tryd.prog 5 rdR w.heap.size 0 (.map [])) := O0.out.kept (row := none) ⟨hb1.os, hb1.tape, hb1.output, hb1.size, fun k hk _ => hb1.block k hk⟩ (by simp)
  have HC1 := Lib.hid hc1
  have hBne : some B1 ≠ some w.heap.size := by
    rw [hB1]
    simp
  have HBne := Lib.hid hBne
  have HLe1 := Lib.hid hle1
  have hm0 : IsMap ((.map []) : DataW Unit) := O0.out.isMap
  have HM0 := Lib.hid hm0
  clear hb1 hb0 hc1 hB1 hBne O0 hle1 hm0
  go_wp2_with (refine wpList_insert_own _ rfl _ _ _ 36 rfl 5 45 keyLaw8 Tryd.underlying36 rdR w.heap.size 0 _ rfl O1.out (by unfold maxLen; omega) _ _ _ rfl rfl HK1.out _ [] (HRr.out B1) ?_; intro w2 hown2 hgrow2
               have O2 := Lib.hid hown2
               have C2 : Hid (w2.cell? ⟨B1, 0, none⟩ = some (.func (.func 25) #[] #[])) := (cell_of_block (hgrow2.block B1 (World.block_lt_of_cell? _ _ HC1.out) HBne.out)).trans HC1.out
               have HB2 : Hid (Below w.heap.size w w2) := HB1.out.grown hgrow2 HB1.out.size (fun q hq => by cases hq; exact Nat.le_refl _)
               have S2 := Lib.hid hgrow2.size
               clear hown2 hgrow2)
  with_reducible refine (HRb.out _ _).mono ?_
  rintro e w3 ⟨rfl, hc3, hb3⟩
  obtain ⟨B2, hB2⟩ : ∃ B2, B2 = w2.heap.size := ⟨_, rfl⟩
  rw [← hB2] at hc3 ⊢
  have HB3 := Lib.hid (HB2.out.trans (hb3.mono HB2.out.size))
  have hBne2 : some B2 ≠ some w.heap.size := by
    have := S2.out
    have := HLe1.out
    intro e
    have := Option.some.inj e
    omega
  have HBne2 := Lib.hid hBne2
  have O3 : Hid (w3.ownsMap (H := Unit) Tryd.prog 5 rdR w.heap.size 1 _) := O2.out.kept (row := none) ⟨hb3.os, hb3.tape, hb3.output, hb3.size, fun k hk _ => hb3.block k hk⟩ (by simp)
  have C3 : Hid (w3.cell? ⟨B1, 0, none⟩ = some (.func (.func 25) #[] #[])) := (hb3.cell (p := ⟨B1, 0, none⟩) (World.block_lt_of_cell? _ _ C2.out)).trans C2.out
  have HC3 := Lib.hid hc3
  have hm1 := O2.out.isMap
  have HM1 := Lib.hid hm1
  clear hb3 hc3 hB2 hBne2 hm1 O2 C2
  go_wp2_with (refine wpList_insert_own _ rfl _ _ _ 36 rfl 5 45 keyLaw8 Tryd.underlying36 rdR w.heap.size 1 _ rfl O3.out (by unfold maxLen; omega) _ _ _ rfl rfl HK2.out _ [] (HRr.out B2) ?_; intro w4 hown4 hgrow4
               have O4 := Lib.hid hown4
               have C4 : Hid (w4.cell? ⟨B1, 0, none⟩ = some (.func (.func 25) #[] #[])) := (cell_of_block (hgrow4.block B1 (World.block_lt_of_cell? _ _ C3.out) HBne.out)).trans C3.out
               have Q4 : Hid (w4.cell? ⟨B2, 0, none⟩ = some (.func (.func 26) #[] #[])) := (cell_of_block (hgrow4.block B2 (World.block_lt_of_cell? _ _ HC3.out) HBne2.out)).trans HC3.out
               have HB4 : Hid (Below w.heap.size w w4) := HB3.out.grown hgrow4 HB3.out.size (fun q hq => by cases hq; exact Nat.le_refl _)
               clear hown4 hgrow4)
  go_ret
  exact ⟨_, rfl, ⟨_, _, _, B1, B2, rfl, Nat.le_refl _, O4.out, rdD_is B1 B2 HM0.out HM1.out, C4.out, Q4.out⟩, HB4.out⟩

/-! ### One that reads -/
theorem DecGot.q {o : Option (List UInt8)} {e : Ending} {w w' : World} (h : DecGot w o e w') : gotQ o w e w' := by
  obtain ⟨u, rfl, h1, h2⟩ := h
  refine ⟨?_, h2⟩
  cases o with
  | none => exact ⟨u, rfl⟩
  | some t => exact ⟨u, rfl, bytesArg_owned h1⟩
/-- What the variables hold. -/
def env (w : World) : Prop := Tryd.tabs w ∧ lets w ∧ errAt w
theorem env.below {w w' : World} (h : env w) (hb : Below w.heap.size w w') : env w' := ⟨Utf8Tabs_below h.1 hb, h.2.1.below hb, h.2.2.below hb⟩
set_option maxRecDepth 100000 in
set_option maxHeartbeats 1000000 in
theorem clo_dec (o : Option (List UInt8)) (B : Nat) (nm : ByteArray) (v : Value) (w : World) (hn : nm.size ≤ 1000000) (ho : ∀ t, o = some t → t.length ≤ 100000) (hT : env w)
    (hc : w.cell? ⟨B, 0, none⟩ = some (.func (.func 25) #[] #[])) (hF : Calls Tryd.prog 25 #[v] w (gotQ o w)) :
    Calls Tryd.prog 32 #[.string nm, v, .pointer (some ⟨B, 0, none⟩)] w fun e w' => e = .returned (textV (o.bind (textK (kindL nm.data.toList)))) ∧ Below w.heap.size w w' := by
  have HF := Lib.hid hF
  have HT := Lib.hid hT
  have HO := Lib.hid ho
  have HX := Lib.hid (fun u t W h1 h2 h3 => text_any nm u t W hn h1 h2 h3)
  clear hF hT ho
  go_enter Tryd.func32, Tryd.ntmps32
  go_wp2_with fail
  with_reducible refine HF.out.mono ?_
  rintro e w1 ⟨hg, hb1⟩
  cases o with
  | none =>
    obtain ⟨u, rfl⟩ := hg
    go_wp2_with fail
    go_ret2
    exact ⟨rfl, hb1⟩
  | some t =>
    obtain ⟨u, rfl, hu⟩ := hg
    have HU := Lib.hid hu
    have HB1 := Lib.hid hb1
    have HX1 := Lib.hid (HX.out u t w1 hu (HO.out t rfl) (HT.out.below hb1).1)
    obtain ⟨q, hq⟩ : ∃ q, q = textK (kindL nm.data.toList) t := ⟨_, rfl⟩
    have HQ : Hid ((some t).bind (textK (kindL nm.data.toList)) = q) := hq.symm
    rw [← hq] at HX1
    clear hu hb1 hq
    cases q with
    | none =>
      unfold errV at HX1
      go_wp2_with fail
      with_reducible refine HX1.out.mono ?_
      rintro e w2 ⟨rfl, hb2⟩
      have HB2 := Lib.hid (HB1.out.trans (hb2.mono HB1.out.size))
      clear hb2
      go_wp2_with fail
      go_ret2
      exact ⟨by rw [HQ.out]; rfl, HB2.out⟩
    | some t2 =>
      unfold errV at HX1
      go_wp2_with fail
      with_reducible refine HX1.out.mono ?_
      rintro e w2 ⟨rfl, hb2⟩
      have HB2 := Lib.hid (HB1.out.trans (hb2.mono HB1.out.size))
      clear hb2
      go_wp2_with fail
      go_ret2
      exact ⟨by rw [HQ.out]; rfl, HB2.out⟩
set_option maxRecDepth 100000 in
set_option maxHeartbeats 1000000 in
theorem clo_quo (o : Option (List UInt8)) (B : Nat) (nm : ByteArray) (v : Value) (w : World) (hn : nm.size ≤ 1000000) (ho : ∀ t, o = some t → t.length ≤ 100000) (hT : env w)
    (hc : w.cell? ⟨B, 0, none⟩ = some (.func (.func 26) #[] #[])) (hF : Calls Tryd.prog 26 #[v] w (gotQ o w)) :
    Calls Tryd.prog 32 #[.string nm, v, .pointer (some ⟨B, 0, none⟩)] w fun e w' => e = .returned (textV (o.bind (textK (kindL nm.data.toList)))) ∧ Below w.heap.size w w' := by
  have HF := Lib.hid hF
  have HT := Lib.hid hT
  have HO := Lib.hid ho
  have HX := Lib.hid (fun u t W h1 h2 h3 => text_any nm u t W hn h1 h2 h3)
  clear hF hT ho
  go_enter Tryd.func32, Tryd.ntmps32
  go_wp2_with fail
  with_reducible refine HF.out.mono ?_
  rintro e w1 ⟨hg, hb1⟩
  cases o with
  | none =>
    obtain ⟨u, rfl⟩ := hg
    go_wp2_with fail
    go_ret2
    exact ⟨rfl, hb1⟩
  | some t =>
    obtain ⟨u, rfl, hu⟩ := hg
    have HU := Lib.hid hu
    have HB1 := Lib.hid hb1
    have HX1 := Lib.hid (HX.out u t w1 hu (HO.out t rfl) (HT.out.below hb1).1)
    obtain ⟨q, hq⟩ : ∃ q, q = textK (kindL nm.data.toList) t := ⟨_, rfl⟩
    have HQ : Hid ((some t).bind (textK (kindL nm.data.toList)) = q) := hq.symm
    rw [← hq] at HX1
    clear hu hb1 hq
    cases q with
    | none =>
      unfold errV at HX1
      go_wp2_with fail
      with_reducible refine HX1.out.mono ?_
      rintro e w2 ⟨rfl, hb2⟩
      have HB2 := Lib.hid (HB1.out.trans (hb2.mono HB1.out.size))
      clear hb2
      go_wp2_with fail
      go_ret2
      exact ⟨by rw [HQ.out]; rfl, HB2.out⟩
    | some t2 =>
      unfold errV at HX1
      go_wp2_with fail
      with_reducible refine HX1.out.mono ?_
      rintro e w2 ⟨rfl, hb2⟩
      have HB2 := Lib.hid (HB1.out.trans (hb2.mono HB1.out.size))
      clear hb2
      go_wp2_with fail
      go_ret2
      exact ⟨by rw [HQ.out]; rfl, HB2.out⟩
end Go.Proofs.YtolkjaebhhbilaaDoor
