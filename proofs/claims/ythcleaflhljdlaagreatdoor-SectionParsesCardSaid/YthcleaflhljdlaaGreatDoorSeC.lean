/- Contracts of package section: what, quoted, name. -/
import Derived.Test.YthcleaflhljdlaaGreatDoorSeB
import Derived.Laws.Tables
namespace Go.Proofs.YthcleaflhljdlaaGreatDoor
open Go Go.RowKit

def wordB (k : Nat) : ByteArray := ⟨(wordL k).toArray⟩
def wrdA : Array Value := #[.string (wordB 0), .string (wordB 1), .string (wordB 2), .string (wordB 3), .string (wordB 4), .string (wordB 5)]
/-- The words' variable. -/
def wrds (w : World) : Prop := ∃ t fr, w.heap[0]? = some (.cells wrdA t fr)
theorem wrds.lt {w : World} (h : wrds w) : 0 < w.heap.size := by
  obtain ⟨t, fr, h⟩ := h
  exact (Array.getElem?_eq_some_iff.1 h).1
theorem wrds.below {w w' : World} (h : wrds w) (hb : Below w.heap.size w w') : wrds w' := by
  have hlt := h.lt
  obtain ⟨t, fr, h⟩ := h
  exact ⟨t, fr, (hb.block _ hlt).trans h⟩
theorem wrds.low {n : Nat} {w w' : World} (h : wrds w) (hn : 0 < n) (hb : Below n w w') : wrds w' := by
  obtain ⟨t, fr, h⟩ := h
  exact ⟨t, fr, (hb.block _ hn).trans h⟩
theorem wrds.gr {B : Nat} {w w' : World} (h : wrds w) (hg : Gr B w w') (hB : 0 ≠ B) : wrds w' := by
  have hlt := h.lt
  obtain ⟨t, fr, h⟩ := h
  exact ⟨t, fr, (hg.block _ hlt (fun e => hB (Option.some.inj e))).trans h⟩
theorem wordB_list (k : Nat) : (wordB k).data.toList = wordL k := by simp [wordB]
set_option maxRecDepth 100000 in
theorem index_words (i : Nat) (h : i < 6) (W : World) : (Instr.index 72 (.agg wrdA) (.int .i64 (i : Int))).run Tryz.prog W = .ok (.string (wordB i)) W := by
  rcases (by omega : i = 0 ∨ i = 1 ∨ i = 2 ∨ i = 3 ∨ i = 4 ∨ i = 5) with rfl | rfl | rfl | rfl | rfl | rfl <;> clear h <;> kernel_rfl
theorem whatOf_at {T : List UInt8} {i : Nat} (hi : i < 6) (h : ∀ j, j < i → isWord T j = false) (h1 : isWord T i = true) : whatOf T = some i := by
  rcases (by omega : i = 0 ∨ i = 1 ∨ i = 2 ∨ i = 3 ∨ i = 4 ∨ i = 5) with rfl | rfl | rfl | rfl | rfl | rfl
  all_goals
    unfold whatOf
    repeat rw [h _ (by decide)]
    rw [h1]
    rfl
theorem whatOf_not {T : List UInt8} (h : ∀ j, j < 6 → isWord T j = false) : whatOf T = none := by
  unfold whatOf
  repeat rw [h _ (by decide)]
  rfl
theorem sameW_any (T : ByteArray) (i : Nat) (w : World) (hl : T.size ≤ 9223372036854775807) :
    Calls Tryz.prog 63 #[.string T, .string (wordB i)] w fun e w' => e = .returned (.bool (isWord T.data.toList i)) ∧ Below w.heap.size w w' :=
  (same_any T (wordB i) w hl).mono fun e w' ⟨he, n, hw⟩ => ⟨by rw [he, wordB_list]; rfl, by rw [hw]; exact below_drewN' n⟩
set_option maxRecDepth 100000 in
set_option maxHeartbeats 2000000 in
theorem what_any (B : Nat) (s : ByteArray) (k : Nat) (w : World) (hr : Rd w B s k) (hl : s.size ≤ 1000000000) (hk : k ≤ s.size) (hw : wrds w) (hB : 0 ≠ B) :
    Calls Tryz.prog 47 #[.pointer (some ⟨B, 0, none⟩)] w fun e w' => e = .returned (numV (whatOf ((s.data.toList.drop k).takeWhile whatB))) ∧
      ∃ k', Rd w' B s k' ∧ k' ≤ s.size ∧ s.data.toList.drop k' = (s.data.toList.drop k).dropWhile whatB ∧ Gr B w w' := by
  have HW := Lib.hid (row_what B s k w hr hl hk)
  unfold RowIs at HW
  have HWr := Lib.hid hw
  have HI := Lib.hid index_words
  clear hr hw
  go_enter Tryz.func47, Tryz.ntmps47
  go_wp2_with fail
  with_reducible refine HW.out.mono ?_
  rintro e w1 ⟨T, k1, rfl, hT, hTs, hR1, hk1, hD1, hG1⟩
  obtain ⟨t, fr, hg⟩ := HWr.out.gr hG1 hB
  have HG := Lib.hid hg
  have HR1 := Lib.hid hR1
  have HG1 := Lib.hid hG1
  have HD1 := Lib.hid hD1
  have HT := Lib.hid hT
  have HTl : Hid (T.size ≤ 9223372036854775807) := by unfold Hid; omega
  have HS := Lib.hid (fun i W => sameW_any T i W HTl.out)
  clear hT hTs hR1 hG1 hD1 hg HW
  go_wp2_with (refine wpList_load_row rfl 72 (.global 0) rfl 0 rfl t wrdA fr (.array 6 9) HG.out Tryz.underlying72 rfl (by kernel_rfl) ?_)
  go_loopg [10] 6 (fun q xi wr => ∃ i : Nat, i ≤ 6 ∧ q = 6 - i ∧ xi = .int .i64 (i : Int) ∧ Hid (∀ j, j < i → isWord T.data.toList j = false) ∧ Hid (Below w1.heap.size w1 wr))
  case atStart => exact ⟨0, by omega, by omega, rfl, fun j h => (by omega), Below.refl _ _⟩
  case round =>
    obtain ⟨i, hi, rfl, rfl, HE, HB⟩ := hrel
    by_cases hlt : i < 6
    · have hix := HI.out i hlt
      have HSi := Lib.hid (HS.out i)
      rcases Bool.eq_false_or_eq_true (isWord T.data.toList i) with hb | hb
      · rw [hb] at HSi
        have HX := Lib.hid (whatOf_at hlt HE.out hb)
        go_wp2_with (go_at_call 63; refine (HSi.out _).mono ?_; rintro e w2 ⟨rfl, hb2⟩)
        go_ret2
        refine ⟨?_, k1, (HR1.out.below (HB.out.trans (hb2.mono HB.out.size))), hk1, HD1.out, HG1.out.below (HB.out.trans (hb2.mono HB.out.size))⟩
        rw [← HT.out, HX.out]
        rfl
      · rw [hb] at HSi
        go_wp2_with (go_at_call 63; refine (HSi.out _).mono ?_; rintro e w2 ⟨rfl, hb2⟩)
        go_roundg (6 - (i + 1))
        case measure => omega
        case rel =>
          refine ⟨i + 1, by omega, rfl, by go_num, fun j hj => ?_, HB.out.trans (hb2.mono HB.out.size)⟩
          by_cases e : j = i
          · subst e; exact hb
          · exact HE.out j (by omega)
    · have hi6 : i = 6 := by omega
      subst hi6
      have HX := Lib.hid (whatOf_not HE.out)
      go_wp2_with fail
      go_ret2
      refine ⟨?_, k1, HR1.out.below HB.out, hk1, HD1.out, HG1.out.below HB.out⟩
      rw [← HT.out, HX.out]
      rfl

theorem builder_gr {T e : TypeId} {Bm B b : Nat} {bs : List Value} {w w' : World} (h : Lib.IsBuilderF T e Bm b bs w) (hg : Gr B w w') (hB : B < Bm) : Lib.IsBuilderF T e Bm b bs w' := by
  have key : ∀ p, Lib.BuilderAtF T e Bm b p bs w → Lib.BuilderAtF T e Bm b p bs w' := by
    intro p h
    have hlt := h.lt
    obtain ⟨hb, v, hbk, hown, hne⟩ := h
    refine ⟨hb, v, (hg.block b hlt (fun e => by cases e; omega)).trans hbk, hown.kept (row := some B) hg ?_, hne⟩
    rcases hv : v.ownBlock with _ | q
    · simp
    · right
      intro e
      cases e
      have := (hown.lt B hv).1
      omega
  exact h.imp (key _) (key _)
theorem unqP_row : ∀ (l acc : List UInt8), unqP false acc l = unqP false (acc ++ l.takeWhile quoB) (l.dropWhile quoB)
  | [], acc => by simp
  | c :: l, acc => by
    by_cases h : quoB c = true
    · rw [List.takeWhile_cons_of_pos h, List.dropWhile_cons_of_pos h]
      have hh : hitB c = false := by
        unfold quoB at h
        unfold hitB
        rw [Bool.and_eq_true, bne_iff_ne, bne_iff_ne] at h
        simp [h.1, h.2]
      rw [unqP_plain _ _ _ hh, unqP_row l, List.append_assoc]
      rfl
    · rw [List.takeWhile_cons_of_neg h, List.dropWhile_cons_of_neg h, List.append_nil]
theorem unqP_end (acc : List UInt8) (l : List UInt8) (hl : ∀ x, l.head? = some x → quoB x = false) (h1 : takeP [34] l = none) (h2 : takeP [92, 34] l = none) (h3 : takeP [92, 92] l = none) : unqP false acc l = none := by
  match l, hl, h1, h2, h3 with
  | [], _, _, _, _ => rfl
  | c :: l, hl, h1, h2, h3 =>
    have hc := hl c rfl
    have hc1 : c ≠ 34 := by
      rintro rfl
      cases h1
    have hc2 : c = 92 := by
      unfold quoB at hc
      simp only [Bool.and_eq_false_iff, bne_eq_false_iff_eq] at hc
      rcases hc with h | h
      · exact (hc1 h).elim
      · exact h
    subst hc2
    show (if (92 : UInt8) = 34 then _ else if (92 : UInt8) = 92 then unqP true acc l else _) = _
    rw [if_neg (by decide), if_pos rfl]
    match l, h2, h3 with
    | [], _, _ => rfl
    | d :: l, h2, h3 =>
      have hd1 : d ≠ 34 := by rintro rfl; cases h2
      have hd2 : d ≠ 92 := by rintro rfl; cases h3
      show (if hitB d = true then _ else none) = none
      rw [if_neg (by simp [hitB, hd1, hd2])]
/-- What a quoted text's end is read as. -/
def QuoIs (B : Nat) (s : ByteArray) (w : World) (o : Option (List UInt8 × List UInt8)) (e : Ending) (w' : World) : Prop :=
  match o with
  | some (a, r) => ∃ (T : ByteArray) (k' : Nat), e = .returned (.tuple #[.string T, .bool true]) ∧ T.data.toList = a ∧ T.size ≤ s.size ∧ Rd w' B s k' ∧ k' ≤ s.size ∧ s.data.toList.drop k' = r ∧ Gr B w w'
  | none => ∃ (T : ByteArray) (k' : Nat), e = .returned (.tuple #[.string T, .bool false]) ∧ Rd w' B s k' ∧ k' ≤ s.size ∧ Gr B w w'
end Go.Proofs.YthcleaflhljdlaaGreatDoor
