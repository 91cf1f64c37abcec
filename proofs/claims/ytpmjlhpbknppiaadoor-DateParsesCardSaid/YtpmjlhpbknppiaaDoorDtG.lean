/- Contracts of package date: whole texts, and rows of them. -/
import Derived.Test.YtpmjlhpbknppiaaDoorDtF
import Derived.Test.YtpmjlhpbknppiaaDoorStrs
namespace Go.Proofs.YtpmjlhpbknppiaaDoor
open Go Go.RowKit

/-- Is a text pieces, one behind the other, and nothing more? -/
def wholeF (fs : List Pf) (σ : Sg) (l : List UInt8) : Bool × Sg := (decide ((rowF fs σ l).1 = some []), (rowF fs σ l).2)
set_option maxRecDepth 100000 in
set_option maxHeartbeats 2000000 in
theorem whole_any (τ : Tg) (sv : Value) (fs : List Pf) (w : World) (hl : Low τ w.heap.size) (hp : Pcs τ w sv fs) (σ : Sg) (s : ByteArray) (hh : Holds τ w σ) (hs : s.size ≤ 9223372036854775807) :
    Calls Tryd.prog 33 #[.string s, sv] w fun e w' => e = .returned (.bool (wholeF fs σ s.data.toList).1) ∧ Lt τ w w' ∧ Holds τ w' (wholeF fs σ s.data.toList).2 := by
  have HRow := Lib.hid (fun w h1 h2 => row_any τ sv fs w h1 h2)
  obtain ⟨ao, cap, rfl, hca, hcm, hcell⟩ := hp
  have hp : Pcs τ w (.slice ao fs.length cap) fs := ⟨ao, cap, rfl, hca, hcm, hcell⟩
  have HP := Lib.hid hp
  have HLow := Lib.hid hl
  have HH := Lib.hid hh
  unfold MakesP at HRow
  clear hcell hp hcm hl hh
  go_enter Tryd.func33, Tryd.ntmps33
  go_wp2_with fail
  with_reducible refine (HRow.out _ HLow.out HP.out).mono ?_
  rintro e w1 ⟨g, lb, rfl, T, hb⟩
  obtain ⟨hen, hcall⟩ := T.call
  have eg : ∀ args w, (callFunc g args).run Tryd.prog w = .ok (.enter g args) w := hen
  have cS := hcall w1 σ s (Lt.refl _ _) (HH.out.below hb) hs
  have HL1 := Lib.hid (show Lt τ w w1 from Lt.of_below hb)
  rcases hr : rowF fs σ s.data.toList with ⟨o, σ1⟩
  have HR : Hid (wholeF fs σ s.data.toList = (decide (o = some []), σ1)) := by
    unfold Hid wholeF
    rw [hr]
  rw [hr] at cS
  clear hcall hen T hb hr HRow
  cases o with
  | none =>
    go_wp2_with fail
    refine cS.mono ?_
    rintro e w2 ⟨⟨t2, rfl, hl2, hs2⟩, hk2, hh2⟩
    go_wp2_with fail
    go_ret
    rw [HR.out]
    exact ⟨rfl, HL1.out.trans hk2, hh2⟩
  | some l2 =>
    go_wp2_with fail
    refine cS.mono ?_
    rintro e w2 ⟨⟨t2, rfl, hl2, hs2⟩, hk2, hh2⟩
    have hl3 := hl2 l2 rfl
    have HK := Lib.hid (HL1.out.trans hk2)
    have HH2 := Lib.hid hh2
    clear hl2 hk2 hh2 cS
    by_cases h0 : l2 = []
    · have e1 : (t2.toList == []) = true := by
        have : t2.toList = [] := (toList_nil_iff t2).2 (by rw [bytes_len, hl3, h0]; rfl)
        rw [this]; rfl
      have e2 : t2.toList.isEmpty = true := by
        have : t2.toList = [] := (toList_nil_iff t2).2 (by rw [bytes_len, hl3, h0]; rfl)
        rw [this]; rfl
      have HX : Hid (decide (some l2 = some []) = true) := by unfold Hid; rw [h0]; rfl
      clear hl3 h0
      go_wp2_with fail
      go_ret
      rw [HR.out]
      exact ⟨ret_bool HX.out.symm, HK.out, HH2.out⟩
    · have hne : ¬ t2.toList = [] := fun e => h0 (by
        have := (toList_nil_iff t2).1 e
        rw [bytes_len, hl3] at this
        exact List.eq_nil_of_length_eq_zero this)
      have e1 : (t2.toList == []) = false := beq_eq_false_iff_ne.2 hne
      have e2 : t2.toList.isEmpty = false := by
        rw [List.isEmpty_eq_false_iff]
        exact hne
      have HX : Hid (decide (some l2 = some []) = false) := by
        unfold Hid
        exact decide_eq_false (fun h => h0 (Option.some.inj h))
      clear hl3 h0 hne
      go_wp2_with fail
      go_ret
      rw [HR.out]
      exact ⟨ret_bool HX.out.symm, HK.out, HH2.out⟩

/-- Texts in a row. -/
def Txts (τ : Tg) (w : World) (v : Value) (ts : List ByteArray) : Prop :=
  ∃ ao cap, v = .slice ao ts.length cap ∧ ts.length ≤ cap ∧ cap ≤ maxLen ∧ ∀ j, (h : j < ts.length) → ∃ b off, ao = some ⟨b, off, none⟩ ∧ b < w.heap.size ∧ Off τ b ∧ w.cell? ⟨b, off + j, none⟩ = some (.string ts[j]) ∧ ts[j].size ≤ 9223372036854775807
theorem Txts.lt {τ : Tg} {w W : World} {v : Value} {ts : List ByteArray} (h : Txts τ w v ts) (hl : Lt τ w W) : Txts τ W v ts := by
  obtain ⟨ao, cap, e, h1, h2, h3⟩ := h
  refine ⟨ao, cap, e, h1, h2, fun j hj => ?_⟩
  obtain ⟨b, off, e, hb, ho, hc, hs⟩ := h3 j hj
  exact ⟨b, off, e, Nat.lt_of_lt_of_le hb hl.size, ho, (hl.cell hb ho).trans hc, hs⟩
def eachG : List Pf → List (List UInt8) → Sg → Bool × Sg
  | f :: fs, t :: ts, σ => match wholeF [f] σ t with
    | (false, σ1) => (false, σ1)
    | (true, σ1) => eachG fs ts σ1
  | _, _, σ => (true, σ)
/-- Are texts pieces, each a whole one? -/
def eachF (fs : List Pf) (ts : List (List UInt8)) (σ : Sg) : Bool × Sg := if ts.length = fs.length then eachG fs ts σ else (false, σ)
theorem eachG_no {f : Pf} {fs : List Pf} {t : List UInt8} {ts : List (List UInt8)} {σ σ1 : Sg} (h : wholeF [f] σ t = (false, σ1)) : eachG (f :: fs) (t :: ts) σ = (false, σ1) := by rw [eachG, h]
theorem eachG_yes {f : Pf} {fs : List Pf} {t : List UInt8} {ts : List (List UInt8)} {σ σ1 : Sg} (h : wholeF [f] σ t = (true, σ1)) : eachG (f :: fs) (t :: ts) σ = eachG fs ts σ1 := by rw [eachG, h]
theorem eachG_end (fs : List Pf) (σ : Sg) : eachG fs [] σ = (true, σ) := by cases fs <;> rfl
set_option maxRecDepth 100000 in
set_option maxHeartbeats 2000000 in
theorem each_any (τ : Tg) (tv sv : Value) (ts : List ByteArray) (fs : List Pf) (w : World) (hl : Low τ w.heap.size) (ht : Txts τ w tv ts) (hp : Pcs τ w sv fs) (σ : Sg) (hh : Holds τ w σ) :
    Calls Tryd.prog 22 #[tv, sv] w fun e w' => e = .returned (.bool (eachF fs (ts.map (·.data.toList)) σ).1) ∧ Lt τ w w' ∧ Holds τ w' (eachF fs (ts.map (·.data.toList)) σ).2 := by
  have HWh := Lib.hid (fun sv fs w hl hp σ s hh hs => whole_any τ sv fs w hl hp σ s hh hs)
  obtain ⟨ao, cap, rfl, hca, hcm, hcell⟩ := hp
  unfold maxLen at hcm
  have HP := Lib.hid hcell
  obtain ⟨tao, tc, rfl, hta, htm, htl⟩ := ht
  have HT := Lib.hid htl
  have HLow := Lib.hid hl
  have HH := Lib.hid hh
  obtain ⟨R, hR⟩ : ∃ R, R = eachF fs (ts.map (·.data.toList)) σ := ⟨_, rfl⟩
  rw [← hR]
  unfold maxLen at htm
  clear hcell htl hl hh
  by_cases hlen : ts.length = fs.length
  · have hlI : ((ts.length : Int) != (fs.length : Int)) = false := bne_no (by omega)
    have HR : Hid (R = eachG fs (ts.map (·.data.toList)) σ) := by
      unfold Hid
      rw [hR]
      unfold eachF
      rw [if_pos (by rw [List.length_map]; exact hlen)]
    have hlf : fs.length ≤ ts.length := by omega
    have hlf2 : ts.length ≤ fs.length := by omega
    clear hlen hR
    go_enter Tryd.func22, Tryd.ntmps22
    go_wp2_with fail
    go_loopg [14] ts.length (fun q xi wr => ∃ (i : Nat) (σ1 : Sg), i ≤ ts.length ∧ q = ts.length - i ∧ xi = .int .i64 (i : Int) ∧ Hid (Lt τ w wr) ∧ Hid (Holds τ wr σ1) ∧ Hid (R = eachG (fs.drop i) ((ts.drop i).map (·.data.toList)) σ1))
    case atStart => exact ⟨0, σ, by omega, by omega, rfl, Lt.refl _ _, HH.out, HR.out⟩
    case round =>
      obtain ⟨i, σ1, hi, rfl, rfl, HL, HHr, HE⟩ := hrel
      by_cases hlt : i < ts.length
      · have hlf3 : i < fs.length := by omega
        obtain ⟨b, off, rfl, hb, hob, hct, hst⟩ := HT.out i hlt
        obtain ⟨rb, vi, rfl, hrb, horb, hci, htk⟩ := HP.out i hlf3
        have hct2 := (HL.out.cell (k := b) (i := off + i) hb hob).trans hct
        have hci2 := (HL.out.cell (k := rb) (i := i) hrb horb).trans hci
        rw [List.drop_eq_getElem_cons hlt, List.drop_eq_getElem_cons hlf3, List.map_cons] at HE
        obtain ⟨f, hf⟩ : ∃ f, f = fs[i] := ⟨_, rfl⟩
        obtain ⟨t, ht⟩ : ∃ t, t = ts[i] := ⟨_, rfl⟩
        rw [← hf, ← ht] at HE
        rw [← hf] at htk
        rw [← ht] at hct2 hst
        obtain ⟨g, lb, rfl, hgl⟩ : ∃ g lb, vi = .func (.func g) #[] lb ∧ Takes τ w (.func (.func g) #[] lb) f := by
          obtain ⟨g, lb, e, h1, h2⟩ := htk
          exact ⟨g, lb, e, g, lb, rfl, h1, h2⟩
        obtain ⟨W2, hW2⟩ : ∃ W2, W2 = wr.alloc (.cells #[.func (.func g) #[] lb] 42) := ⟨_, rfl⟩
        have hb2 : Below wr.heap.size wr W2 := by rw [hW2]; exact (Below.refl _ _).alloc (Nat.le_refl _) _
        have HL2 := Lib.hid (HL.out.trans (Lt.of_below hb2))
        have HLow2 := Lib.hid (HLow.out.mono HL2.out.size)
        have hS : Pcs τ W2 (.slice (some ⟨wr.heap.size, 0, none⟩) 1 1) [f] := by rw [hW2]; exact pcs_new (HLow.out.mono HL.out.size) (PcL.cons (hgl.lt HL.out) PcL.nil) (by simp)
        have cS := HWh.out _ _ W2 HLow2.out hS σ1 t (HHr.out.below hb2) hst
        rcases hr : wholeF [f] σ1 t.data.toList with ⟨o, σ2⟩
        rw [hr] at cS
        have HS := Lib.hid cS
        clear hct hci htk hf ht hS cS hgl hb2
        cases o with
        | false =>
          have HN := Lib.hid (eachG_no (fs := fs.drop (i + 1)) (ts := (ts.drop (i + 1)).map (·.data.toList)) hr)
          clear hr
          go_wp2_with fail
          rw [← hW2]
          clear hW2
          with_reducible refine HS.out.mono ?_
          rintro e w2 ⟨rfl, hk2, hh2⟩
          have HK := Lib.hid (HL2.out.trans hk2)
          have HH2 := Lib.hid hh2
          clear hk2 hh2
          go_wp2_with fail
          go_ret
          rw [HE.out, HN.out]
          exact ⟨rfl, HK.out, HH2.out⟩
        | true =>
          have HN := Lib.hid (eachG_yes (fs := fs.drop (i + 1)) (ts := (ts.drop (i + 1)).map (·.data.toList)) hr)
          clear hr
          go_wp2_with fail
          rw [← hW2]
          clear hW2
          with_reducible refine HS.out.mono ?_
          rintro e w2 ⟨rfl, hk2, hh2⟩
          have HK := Lib.hid (HL2.out.trans hk2)
          have HH2 := Lib.hid hh2
          clear hk2 hh2
          go_wp2_with fail
          go_roundg (ts.length - (i + 1))
          case measure => omega
          case rel =>
            refine ⟨i + 1, σ2, by omega, rfl, by first | rfl | (congr 1), HK.out, HH2.out, ?_⟩
            unfold Hid
            rw [HE.out, HN.out]
      · obtain rfl : i = ts.length := by omega
        go_wp2_with fail
        go_ret
        rw [HE.out, List.drop_length, List.map_nil, eachG_end]
        exact ⟨rfl, HL.out, HHr.out⟩
  · have hlI : ((ts.length : Int) != (fs.length : Int)) = true := bne_yes (by omega)
    have HR : Hid (R = (false, σ)) := by
      unfold Hid
      rw [hR]
      unfold eachF
      rw [if_neg (by rw [List.length_map]; exact hlen)]
    clear hlen hR
    go_enter Tryd.func22, Tryd.ntmps22
    go_wp2_with fail
    go_ret
    rw [HR.out]
    exact ⟨rfl, Lt.refl _ _, HH.out⟩
end Go.Proofs.YtpmjlhpbknppiaaDoor
