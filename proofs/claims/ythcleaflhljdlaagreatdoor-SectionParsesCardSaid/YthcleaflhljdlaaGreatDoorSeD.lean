/- Contracts of package section: quoted, name. -/
import Derived.Test.YthcleaflhljdlaaGreatDoorSeC
namespace Go.Proofs.YthcleaflhljdlaaGreatDoor
open Go Go.RowKit

theorem byteCells_str (acc : List UInt8) (T : ByteArray) : Lib.byteCells acc ++ Lib.strCells T = Lib.byteCells (acc ++ T.data.toList) := by
  simp [Lib.byteCells, Lib.strCells]
theorem byteCells_app (a b : List UInt8) : Lib.byteCells (a ++ b) = Lib.byteCells a ++ Lib.byteCells b := by simp [Lib.byteCells]
theorem byteCells_len (a : List UInt8) : (Lib.byteCells a).length = a.length := by simp [Lib.byteCells]
theorem byteCells_one (c : UInt8) : Lib.byteCells [c] = [.int .u8 (c.toNat : Int)] := rfl
theorem builder_new2 (w : World) : Lib.IsBuilderF 82 5 w.heap.size w.heap.size (Lib.byteCells []) (w.alloc (.cells #[.pointer none, .slice none 0 0] 82)) :=
  .inl ⟨Nat.le_refl _, _, heap_alloc_new _ _, ⟨rfl, .inl ⟨rfl, rfl⟩⟩, by simp [Value.ownBlock]⟩
theorem drop_len {s : ByteArray} {j j1 : Nat} {a : List UInt8} (h1 : j ≤ s.size) (h2 : j1 ≤ s.size) (h : s.data.toList.drop j = a ++ s.data.toList.drop j1) : j1 = j + a.length := by
  have := congrArg List.length h
  simp only [List.length_append, List.length_drop, len_toList] at this
  omega
set_option maxRecDepth 100000 in
set_option maxHeartbeats 4000000 in
theorem quoted_sec (B : Nat) (s : ByteArray) (k : Nat) (w : World) (hr : Rd w B s k) (hl : s.size ≤ 1000000000) (hk : k ≤ s.size) :
    Calls Tryz.prog 64 #[.pointer (some ⟨B, 0, none⟩)] w (QuoIs B s w (unqP false [] (s.data.toList.drop k))) := by
  have hBw := hr.lt
  have HR := Lib.hid hr
  have HRow := Lib.hid (fun j W h hj => row_quo B s j W h hl hj)
  unfold RowIs at HRow
  have HWS := Lib.hid (fun bs T W h hlen hB => Tryz.Builder_WriteString_k w.heap.size w.heap.size bs T W h hlen hB)
  have HWB := Lib.hid (fun bs (c : Int) W h hlen hB => Tryz.Builder_WriteByte_k w.heap.size w.heap.size bs c W h hlen hB)
  have HSt := Lib.hid (fun l W h => Tryz.Builder_String_any_k w.heap.size w.heap.size l W h)
  have HTy := Lib.hid (fun j l p q r W hq hp hd h hr hk => takes_yes B s j l p q r W hq hp hd h hr hl hk)
  have HTn := Lib.hid (fun j l p q W hq hp hd h hr hk => takes_no B s j l p q W hq hp hd h hr hl hk)
  clear hr
  go_enter Tryz.func64, Tryz.ntmps64
  go_wp2_with fail
  go_loopg [] (s.size - k) (fun g wr => ∃ (j : Nat) (acc : List UInt8), g = s.size - j ∧ j ≤ s.size ∧ acc.length ≤ j ∧ Hid (Rd wr B s j) ∧ Hid (Gr B w wr) ∧ Hid (w.heap.size ≤ wr.heap.size) ∧ Hid (Lib.IsBuilderF 82 5 w.heap.size w.heap.size (Lib.byteCells acc) wr) ∧
    Hid (unqP false [] (s.data.toList.drop k) = unqP false acc (s.data.toList.drop j)))
  case atStart => exact ⟨k, [], rfl, hk, by simp, HR.out.below ((Below.refl _ _).alloc (Nat.le_refl _) _), (Gr.refl _ _).below ((Below.refl _ _).alloc (Nat.le_refl _) _), by unfold Hid; simp, builder_new2 w, rfl⟩
  case round =>
    obtain ⟨j, acc, rfl, hj, hal, HRj, HG, HZ, HBu, HS⟩ := hrel
    have HRw := Lib.hid (HRow.out j wr HRj.out hj)
    go_wp2_with fail
    with_reducible refine HRw.out.mono ?_
    rintro e w1 ⟨T, j1, rfl, hT, hTs, hR1, hj1, hD1, hG1⟩
    have hlen : j1 = j + T.data.toList.length := by
      rw [hT]
      exact drop_len hj hj1 (by rw [hD1, List.takeWhile_append_dropWhile])
    rw [len_toList] at hlen
    have HQ : Hid (∀ x, (s.data.toList.drop j1).head? = some x → quoB x = false) := by
      rw [hD1]
      exact fun x hx => dropWhile_first _ _ x hx
    have HS1 : Hid (unqP false [] (s.data.toList.drop k) = unqP false (acc ++ T.data.toList) (s.data.toList.drop j1)) := by
      unfold Hid
      rw [HS.out, unqP_row, hT, hD1]
    have HR1 := Lib.hid hR1
    have HG1 := Lib.hid (HG.out.trans hG1)
    have HZ1 : Hid (w.heap.size ≤ w1.heap.size) := Nat.le_trans HZ.out hG1.size
    have HBu1 := Lib.hid (builder_gr HBu.out hG1 hBw)
    have HW1 := Lib.hid (HWS.out (Lib.byteCells acc) T w1 HBu1.out (by rw [byteCells_len]; omega) HZ1.out)
    have HLen := Lib.hid hlen
    have hjj : j ≤ j1 := by omega
    clear hT hTs hR1 hD1 hG1 HRw HRj HG HZ HBu HS hlen
    go_wp2_with fail
    with_reducible refine HW1.out.mono ?_
    rintro e w2 ⟨rfl, hbu2, hb2, _⟩
    have HBu2 := Lib.hid (Or.inr hbu2 : Lib.IsBuilderF 82 5 w.heap.size w.heap.size _ w2)
    rw [byteCells_str] at HBu2
    have HG2 := Lib.hid (HG1.out.low hb2)
    have HZ2 : Hid (w.heap.size ≤ w2.heap.size) := HG2.out.size
    have HR2 := Lib.hid (HR1.out.block (hb2.block B hBw))
    obtain ⟨A, hA⟩ : ∃ A, A = acc ++ T.data.toList := ⟨_, rfl⟩
    rw [← hA] at HS1 HBu2
    have hAl : A.length ≤ j1 := by
      have h1 := HLen.out
      rw [hA, List.length_append, len_toList]
      omega
    clear hbu2 hb2 HW1 HBu1 HG1 HR1 HZ1 hA HLen
    cases h1 : takeP [34] (s.data.toList.drop j1) with
    | some r =>
      have HT1 := Lib.hid (HTy.out j1 _ [34] ⟨#[34]⟩ r w2 rfl (by decide) rfl h1 HR2.out hj1)
      have HX : Hid (unqP false A (s.data.toList.drop j1) = some (A, r)) := by
        rw [takeP_iff] at h1
        rw [h1]
        rfl
      clear h1
      go_wp2_with fail
      with_reducible refine HT1.out.mono ?_
      rintro e w3 ⟨rfl, j3, hR3, hj3, hD3, hG3⟩
      have HBu3 := Lib.hid (builder_gr HBu2.out hG3 hBw)
      have HZ3 : Hid (w.heap.size ≤ w3.heap.size) := Nat.le_trans HZ2.out hG3.size
      have HSt3 := Lib.hid (HSt.out A w3 HBu3.out HZ3.out)
      have HR3 := Lib.hid hR3
      have HD3 := Lib.hid hD3
      have HG3 := Lib.hid (HG2.out.trans hG3)
      clear hR3 hD3 hG3 HT1
      go_wp2_with fail
      with_reducible refine HSt3.out.mono ?_
      rintro e w4 ⟨rfl, _, hb4, _⟩
      go_wp2_with fail
      go_ret2
      rw [HS1.out, HX.out]
      exact ⟨⟨A.toArray⟩, j3, rfl, by simp, by show A.toArray.size ≤ _; simp; omega, HR3.out.block (hb4.block B hBw), hj3, HD3.out, HG3.out.low hb4⟩
    | none =>
      have HT1 := Lib.hid (HTn.out j1 _ [34] ⟨#[34]⟩ w2 rfl (by decide) rfl h1 HR2.out hj1)
      have H1 := Lib.hid h1
      clear h1
      cases h2 : takeP [92, 34] (s.data.toList.drop j1) with
      | some r =>
        have HT2 := Lib.hid (fun W hr => HTy.out j1 _ [92, 34] ⟨#[92, 34]⟩ r W rfl (by decide) rfl h2 hr hj1)
        rw [takeP_iff] at h2
        have HX : Hid (unqP false A (s.data.toList.drop j1) = unqP false (A ++ [34]) r) := by
          rw [h2]
          exact unqP_stroke _ _ _ (by decide)
        have HL2 := Lib.hid h2
        clear h2
        go_wp2_with fail
        with_reducible refine HT1.out.mono ?_
        rintro e w3 ⟨rfl, hR3, hG3⟩
        have HT3 := Lib.hid (HT2.out w3 hR3)
        have HG3 := Lib.hid (HG2.out.trans hG3)
        have HBu3 := Lib.hid (builder_gr HBu2.out hG3 hBw)
        clear hR3 hG3 HT1 HT2 HBu2 HG2 HR2
        go_wp2_with fail
        with_reducible refine HT3.out.mono ?_
        rintro e w4 ⟨rfl, j4, hR4, hj4, hD4, hG4⟩
        have HG4 := Lib.hid (HG3.out.trans hG4)
        have HBu4 := Lib.hid (builder_gr HBu3.out hG4 hBw)
        have HR4 := Lib.hid hR4
        have HD4 := Lib.hid hD4
        have hj4' : j4 = j1 + 2 := drop_len (a := [92, 34]) hj1 hj4 (by rw [HL2.out, HD4.out])
        have HW4 := Lib.hid (HWB.out (Lib.byteCells A) 34 w4 HBu4.out (by rw [byteCells_len]; omega) HG4.out.size)
        have HJ4 := Lib.hid hj4'
        clear hR4 hD4 hG4 HT3 HBu3 HG3 hj4'
        go_wp2_with fail
        with_reducible refine HW4.out.mono ?_
        rintro e w5 ⟨rfl, hbu5, hb5, _⟩
        have HBu5 := Lib.hid (Or.inr hbu5 : Lib.IsBuilderF 82 5 w.heap.size w.heap.size _ w5)
        clear hbu5
        go_wp2_with fail
        go_roundg (s.size - j4)
        case measure => have := HJ4.out; omega
        case rel =>
          refine ⟨j4, A ++ [34], rfl, hj4, by have := HJ4.out; simp; omega, HR4.out.block (hb5.block B hBw), HG4.out.low hb5, (HG4.out.low hb5).size, ?_, ?_⟩
          · unfold Hid
            rw [byteCells_app, byteCells_one]
            exact HBu5.out
          · unfold Hid
            rw [HS1.out, HX.out, HD4.out]
      | none =>
        have HT2 := Lib.hid (fun W hr => HTn.out j1 _ [92, 34] ⟨#[92, 34]⟩ W rfl (by decide) rfl h2 hr hj1)
        have H2 := Lib.hid h2
        clear h2
        cases h3 : takeP [92, 92] (s.data.toList.drop j1) with
        | some r =>
          have HT3 := Lib.hid (fun W hr => HTy.out j1 _ [92, 92] ⟨#[92, 92]⟩ r W rfl (by decide) rfl h3 hr hj1)
          rw [takeP_iff] at h3
          have HX : Hid (unqP false A (s.data.toList.drop j1) = unqP false (A ++ [92]) r) := by
            rw [h3]
            exact unqP_stroke _ _ _ (by decide)
          have HL2 := Lib.hid h3
          clear h3
          go_wp2_with fail
          with_reducible refine HT1.out.mono ?_
          rintro e w3 ⟨rfl, hR3, hG3⟩
          have HT3' := Lib.hid (HT2.out w3 hR3)
          have HG3 := Lib.hid (HG2.out.trans hG3)
          have HBu3 := Lib.hid (builder_gr HBu2.out hG3 hBw)
          clear hR3 hG3 HT1 HT2 HBu2 HG2 HR2
          go_wp2_with fail
          with_reducible refine HT3'.out.mono ?_
          rintro e w3b ⟨rfl, hR3b, hG3b⟩
          have HT4 := Lib.hid (HT3.out w3b hR3b)
          have HG3b := Lib.hid (HG3.out.trans hG3b)
          have HBu3b := Lib.hid (builder_gr HBu3.out hG3b hBw)
          clear hR3b hG3b HT3 HT3' HBu3 HG3
          go_wp2_with fail
          with_reducible refine HT4.out.mono ?_
          rintro e w4 ⟨rfl, j4, hR4, hj4, hD4, hG4⟩
          have HG4 := Lib.hid (HG3b.out.trans hG4)
          have HBu4 := Lib.hid (builder_gr HBu3b.out hG4 hBw)
          have HR4 := Lib.hid hR4
          have HD4 := Lib.hid hD4
          have hj4' : j4 = j1 + 2 := drop_len (a := [92, 92]) hj1 hj4 (by rw [HL2.out, HD4.out])
          have HW4 := Lib.hid (HWB.out (Lib.byteCells A) 92 w4 HBu4.out (by rw [byteCells_len]; omega) HG4.out.size)
          have HJ4 := Lib.hid hj4'
          clear hR4 hD4 hG4 HT4 HBu3b HG3b hj4'
          go_wp2_with fail
          with_reducible refine HW4.out.mono ?_
          rintro e w5 ⟨rfl, hbu5, hb5, _⟩
          have HBu5 := Lib.hid (Or.inr hbu5 : Lib.IsBuilderF 82 5 w.heap.size w.heap.size _ w5)
          clear hbu5
          go_wp2_with fail
          go_roundg (s.size - j4)
          case measure => have := HJ4.out; omega
          case rel =>
            refine ⟨j4, A ++ [92], rfl, hj4, by have := HJ4.out; simp; omega, HR4.out.block (hb5.block B hBw), HG4.out.low hb5, (HG4.out.low hb5).size, ?_, ?_⟩
            · unfold Hid
              rw [byteCells_app, byteCells_one]
              exact HBu5.out
            · unfold Hid
              rw [HS1.out, HX.out, HD4.out]
        | none =>
          have HT3 := Lib.hid (fun W hr => HTn.out j1 _ [92, 92] ⟨#[92, 92]⟩ W rfl (by decide) rfl h3 hr hj1)
          have HX : Hid (unqP false A (s.data.toList.drop j1) = none) := unqP_end _ _ HQ.out H1.out H2.out h3
          clear h3
          go_wp2_with fail
          with_reducible refine HT1.out.mono ?_
          rintro e w3 ⟨rfl, hR3, hG3⟩
          have HT3' := Lib.hid (HT2.out w3 hR3)
          have HG3 := Lib.hid (HG2.out.trans hG3)
          clear hR3 hG3 HT1 HT2
          go_wp2_with fail
          with_reducible refine HT3'.out.mono ?_
          rintro e w3b ⟨rfl, hR3b, hG3b⟩
          have HT4 := Lib.hid (HT3.out w3b hR3b)
          have HG3b := Lib.hid (HG3.out.trans hG3b)
          clear hR3b hG3b HT3 HT3'
          go_wp2_with fail
          with_reducible refine HT4.out.mono ?_
          rintro e w4 ⟨rfl, hR4, hG4⟩
          have HG4 := Lib.hid (HG3b.out.trans hG4)
          have HR4 := Lib.hid hR4
          clear hR4 hG4 HT4
          go_wp2_with fail
          go_ret2
          rw [HS1.out, HX.out]
          exact ⟨⟨#[]⟩, j1, rfl, HR4.out, hj1, HG4.out⟩
set_option maxRecDepth 100000 in
set_option maxHeartbeats 2000000 in
theorem name_sec (B : Nat) (s : ByteArray) (k : Nat) (w : World) (hr : Rd w B s k) (hl : s.size ≤ 1000000000) (hk : k ≤ s.size) :
    Calls Tryz.prog 48 #[.pointer (some ⟨B, 0, none⟩)] w (QuoIs B s w (nameL (s.data.toList.drop k))) := by
  have HR := Lib.hid hr
  cases h1 : takeP [34] (s.data.toList.drop k) with
  | some r =>
    have HT1 := Lib.hid (takes_yes B s k _ [34] ⟨#[34]⟩ r w rfl (by decide) rfl h1 hr hl hk)
    have HX : Hid (nameL (s.data.toList.drop k) = unqP false [] r) := by unfold Hid nameL; rw [h1]
    have HQ := Lib.hid (fun j W h hj => quoted_sec B s j W h hl hj)
    clear h1 hr
    go_enter Tryz.func48, Tryz.ntmps48
    go_wp2_with fail
    with_reducible refine HT1.out.mono ?_
    rintro e w3 ⟨rfl, j3, hR3, hj3, hD3, hG3⟩
    have HQ3 := HQ.out j3 w3 hR3 hj3
    rw [hD3] at HQ3
    have HG3 := Lib.hid hG3
    clear hR3 hD3 hG3 HT1 HQ
    unfold QuoIs at HQ3
    cases ho : unqP false [] r with
    | none =>
      rw [ho] at HQ3
      have HO := Lib.hid ho
      clear ho
      have HQ4 := Lib.hid HQ3
      clear HQ3
      go_wp2_with fail
      with_reducible refine HQ4.out.mono ?_
      rintro e w4 ⟨T, j4, rfl, hR4, hj4, hG4⟩
      have HR4 := Lib.hid hR4
      have HG4 := Lib.hid (HG3.out.trans hG4)
      clear hR4 hG4
      go_wp2_with fail
      go_ret2
      rw [HX.out, HO.out]
      exact ⟨T, j4, rfl, HR4.out, hj4, HG4.out⟩
    | some ar =>
      rw [ho] at HQ3
      have HO := Lib.hid ho
      clear ho
      have HQ4 := Lib.hid HQ3
      clear HQ3
      obtain ⟨a, r4⟩ := ar
      simp only at HQ4
      go_wp2_with fail
      with_reducible refine HQ4.out.mono ?_
      rintro e w4 ⟨T, j4, rfl, hT, hTs, hR4, hj4, hD4, hG4⟩
      have HR4 := Lib.hid hR4
      have HG4 := Lib.hid (HG3.out.trans hG4)
      have HD4 := Lib.hid hD4
      have HT4 := Lib.hid hT
      clear hR4 hG4 hD4 hT
      go_wp2_with fail
      go_ret2
      rw [HX.out, HO.out]
      exact ⟨T, j4, rfl, HT4.out, hTs, HR4.out, hj4, HD4.out, HG4.out⟩
  | none =>
    have HT1 := Lib.hid (takes_no B s k _ [34] ⟨#[34]⟩ w rfl (by decide) rfl h1 hr hl hk)
    have HX : Hid (nameL (s.data.toList.drop k) = if (s.data.toList.drop k).takeWhile atomB = [] then none else some ((s.data.toList.drop k).takeWhile atomB, (s.data.toList.drop k).dropWhile atomB)) := by unfold Hid nameL; rw [h1]
    have HQ := Lib.hid (fun W h => row_atom B s k W h hl hk)
    unfold RowIs at HQ
    clear h1 hr
    go_enter Tryz.func48, Tryz.ntmps48
    go_wp2_with fail
    with_reducible refine HT1.out.mono ?_
    rintro e w3 ⟨rfl, hR3, hG3⟩
    have HQ3 := Lib.hid (HQ.out w3 hR3)
    have HG3 := Lib.hid hG3
    clear hR3 hG3 HT1 HQ
    go_wp2_with fail
    with_reducible refine HQ3.out.mono ?_
    rintro e w4 ⟨T, j4, rfl, hT, hTs, hR4, hj4, hD4, hG4⟩
    have HR4 := Lib.hid hR4
    have HG4 := Lib.hid (HG3.out.trans hG4)
    have HD4 := Lib.hid hD4
    have HT4 := Lib.hid hT
    by_cases he : (s.data.toList.drop k).takeWhile atomB = []
    · have hem : T.toList = [] := by rw [ByteArray.toList_eq, hT, he]
      have hem3 : Hid (T.toList.isEmpty = true) := by unfold Hid; rw [hem]; rfl
      have HX2 := Lib.hid (HX.out.trans (if_pos he))
      clear hR4 hG4 hD4 hT he hem
      go_wp2_with fail
      go_ret2
      rw [HX2.out]
      exact ⟨T, j4, (by show Ending.returned (.tuple #[.string T, .bool !T.toList.isEmpty]) = _; rw [hem3.out]; rfl), HR4.out, hj4, HG4.out⟩
    · have hem3 : Hid (T.toList.isEmpty = false) := by
        unfold Hid
        rw [ByteArray.toList_eq, hT]
        cases h : (s.data.toList.drop k).takeWhile atomB with
        | nil => exact (he h).elim
        | cons x y => rfl
      have HX2 := Lib.hid (HX.out.trans (if_neg he))
      clear hR4 hG4 hD4 hT he
      go_wp2_with fail
      go_ret2
      rw [HX2.out]
      exact ⟨T, j4, (by show Ending.returned (.tuple #[.string T, .bool !T.toList.isEmpty]) = _; rw [hem3.out]; rfl), HT4.out, hTs, HR4.out, hj4, HD4.out, HG4.out⟩
end Go.Proofs.YthcleaflhljdlaaGreatDoor
