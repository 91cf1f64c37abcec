/- Laws of layer 9: the document's examples. -/
import Derived.Test.YtolkjaebhhbilaaGreatDoorWdG
import Derived.Test.YtolkjaebhhbilaaGreatDoorRow
import Derived.Test.YtolkjaebhhbilaaGreatDoorWdD
import Derived.LaidLaws
import Derived.Lib.LaidU8
import Derived.Lib.LaidU8T
import Derived.Test.YtolkjaebhhbilaaGreatDoorWdQ
namespace Go.Proofs.YtolkjaebhhbilaaGreatDoor
open Go Go.RowKit

def txA : ByteArray := ⟨#[61, 63, 108, 97, 116, 105, 110, 49, 42, 101, 110, 63, 98, 63, 54, 81, 61, 61, 63, 61, 32, 120]⟩
def txB : ByteArray := ⟨#[61, 63, 117, 116, 102, 45, 56, 63, 81, 63, 97, 61, 53, 70, 95, 98, 63, 61]⟩
def txC : ByteArray := ⟨#[120, 32, 61, 63, 117, 116, 102, 45, 56, 63, 113, 63, 97, 63, 61, 32, 9, 61, 63, 117, 116, 102, 45, 56, 63, 113, 63, 98, 63, 61, 32, 121]⟩
theorem exA : ewL txA.data.toList = some ([195, 169], 20) := by kernel_rfl
theorem exB : decM none txB.data.toList = [97, 95, 32, 98] := by kernel_rfl
theorem exC : decM none txC.data.toList = [120, 32, 97, 98, 32, 121] := by kernel_rfl
theorem exD : encodeL [97] = [61, 63, 117, 116, 102, 45, 56, 63, 66, 63, 89, 81, 61, 61, 63, 61] := by kernel_rfl
set_option maxRecDepth 100000 in
set_option maxHeartbeats 4000000 in
theorem awake_any (w : World) (hE : env w) :
    Calls Tryz.prog 4 #[] w fun e w' => e = .returned (.bool true) ∧ Below w.heap.size w w' := by
  have HEn := Lib.hid hE
  have H1 : Hid (∀ W, Below w.heap.size w W → Calls Tryz.prog 5 #[.string ⟨#[61, 63, 108, 97, 116, 105, 110, 49, 42, 101, 110, 63, 98, 63, 54, 81, 61, 61, 63, 61, 32, 120]⟩] W fun e w' => e = .returned (.tuple #[.string ⟨#[195, 169]⟩, .int .i64 20]) ∧ Below W.heap.size W w') := fun W hb => by
    have h := Word_any txA W (by decide) (HEn.out.below hb)
    rw [exA] at h
    exact h
  have H2 : Hid (∀ W, Below w.heap.size w W → Calls Tryz.prog 7 #[.string ⟨#[61, 63, 117, 116, 102, 45, 56, 63, 81, 63, 97, 61, 53, 70, 95, 98, 63, 61]⟩] W fun e w' => e = .returned (.string ⟨#[97, 95, 32, 98]⟩) ∧ Below W.heap.size W w') := fun W hb => by
    have h := Decode_any txB W (by decide) (HEn.out.below hb)
    rw [exB] at h
    exact h
  have H3 : Hid (∀ W, Below w.heap.size w W → Calls Tryz.prog 7 #[.string ⟨#[120, 32, 61, 63, 117, 116, 102, 45, 56, 63, 113, 63, 97, 63, 61, 32, 9, 61, 63, 117, 116, 102, 45, 56, 63, 113, 63, 98, 63, 61, 32, 121]⟩] W fun e w' => e = .returned (.string ⟨#[120, 32, 97, 98, 32, 121]⟩) ∧ Below W.heap.size W w') := fun W hb => by
    have h := Decode_any txC W (by decide) (HEn.out.below hb)
    rw [exC] at h
    exact h
  have H4 : Hid (∀ W, Below w.heap.size w W → Calls Tryz.prog 9 #[.string ⟨#[97]⟩] W fun e w' => e = .returned (.string ⟨#[61, 63, 117, 116, 102, 45, 56, 63, 66, 63, 89, 81, 61, 61, 63, 61]⟩) ∧ Below W.heap.size W w') := fun W hb => by
    have h := Encode_any ⟨#[97]⟩ W (by decide) (HEn.out.below hb)
    rw [show (⟨#[97]⟩ : ByteArray).data.toList = [97] from rfl, exD] at h
    exact h
  have q1 : ((⟨#[195, 169]⟩ : ByteArray).toList == [195, 169]) = true := by kernel_rfl
  have q2 : ((⟨#[97, 95, 32, 98]⟩ : ByteArray).toList == [97, 95, 32, 98]) = true := by kernel_rfl
  have q3 : ((⟨#[120, 32, 97, 98, 32, 121]⟩ : ByteArray).toList == [120, 32, 97, 98, 32, 121]) = true := by kernel_rfl
  have q4 : ((⟨#[61, 63, 117, 116, 102, 45, 56, 63, 66, 63, 89, 81, 61, 61, 63, 61]⟩ : ByteArray).toList == [61, 63, 117, 116, 102, 45, 56, 63, 66, 63, 89, 81, 61, 61, 63, 61]) = true := by kernel_rfl
  clear hE
  go_enter Tryz.func4, Tryz.ntmps4
  go_wp2_with fail
  with_reducible refine (H1.out _ (Below.refl _ _)).mono ?_
  rintro e w1 ⟨rfl, hb1⟩
  have HB1 := Lib.hid hb1
  clear hb1
  go_wp2_with fail
  with_reducible refine (H2.out _ HB1.out).mono ?_
  rintro e w2 ⟨rfl, hb2⟩
  have HB2 := Lib.hid (HB1.out.trans (hb2.mono HB1.out.size))
  clear hb2
  go_wp2_with fail
  with_reducible refine (H3.out _ HB2.out).mono ?_
  rintro e w3 ⟨rfl, hb3⟩
  have HB3 := Lib.hid (HB2.out.trans (hb3.mono HB2.out.size))
  clear hb3
  go_wp2_with fail
  with_reducible refine (H4.out _ HB3.out).mono ?_
  rintro e w4 ⟨rfl, hb4⟩
  have HB4 := Lib.hid (HB3.out.trans (hb4.mono HB3.out.size))
  clear hb4
  go_wp2_with fail
  go_ret
  exact ⟨rfl, HB4.out⟩
end Go.Proofs.YtolkjaebhhbilaaGreatDoor

/- What the rows' variables give: the letters, utf8's two tables, and that an error lies. -/
namespace Go.Proofs.YtolkjaebhhbilaaGreatDoor
open Go Go.RowKit

theorem gLetters : Tryz.prog.globalNamed "letterbox/b64.letters" = some 0 := by kernel_rfl
theorem gLettersType : (Tryz.prog.globals[0]?).map (·.type) = some 71 := by kernel_rfl
theorem cellsLetters : Tryz.prog.cellsOf 71 = 64 := by kernel_rfl
theorem cellsU8 : Tryz.prog.cellsOf 5 = 1 := by kernel_rfl
theorem lets_of_laid {W : World} (h : laidMetH Tryz.prog Rows.wordsDecodesRow.laid W) : lets W := by
  have h1 := Lib.tabIs_of_head (k := .u8) (zs := tabL.map fun (b : UInt8) => (b.toNat : Int)) (W := W) (rest := _) gLetters gLettersType Tryz.underlying71 Tryz.underlying5 cellsU8 cellsLetters h
  unfold Lib.TabIs World.var? at h1
  rw [gLetters, Option.bind_some] at h1
  split at h1
  · rename_i cs t fr hh
    refine ⟨t, fr, ?_⟩
    rw [hh]
    have : cs = letA := by
      have := Option.some.inj h1
      rw [this]
      unfold letA
      rw [List.map_map]
      rfl
    rw [this]
  · cases h1
theorem u8extra : U8Extra Tryz.prog Tryz.lays196_ren := ⟨by kernel_rfl, by kernel_rfl, by kernel_rfl, by kernel_rfl, by kernel_rfl, by kernel_rfl, by kernel_rfl⟩
theorem first_is : Rows.laid_unicode_utf8_first = Lib.firstData := by kernel_rfl
theorem accept_is : (Rows.laid_unicode_utf8_acceptRanges : DataW Unit) = Lib.acceptData := by kernel_rfl
theorem laid_plain {W : World} (h : laidMetH Tryz.prog Rows.wordsDecodesRow.laid W) : laidMet Tryz.prog Rows.wordsDecodesRow.laid W := h
theorem tabs_of_laid {W : World} (h : laidMetH Tryz.prog Rows.wordsDecodesRow.laid W) : Tryz.tabs W := by
  have h1 := Lib.laidMet.reads (laid_plain h) (n := "unicode/utf8.first") (d := Rows.laid_unicode_utf8_first) (by exact .tail _ (.tail _ (.tail _ (.tail _ (.tail _ (.tail _ (.tail _ (.head _))))))))
  have h2 := Lib.laidMet.reads (laid_plain h) (n := "unicode/utf8.acceptRanges") (d := Rows.laid_unicode_utf8_acceptRanges) (by exact .tail _ (.tail _ (.tail _ (.tail _ (.head _)))))
  rw [first_is] at h1
  rw [accept_is] at h2
  exact utf8Tabs_of_readsT (U8Types.of196 Tryz.lays196) u8extra h1 h2
theorem gErrSyn : Tryz.prog.globalNamed "strconv.ErrSyntax" = some 2 := by kernel_rfl
theorem gErrSynType : (Tryz.prog.globals[2]?).map (·.type) = some 84 := by kernel_rfl
theorem errAt_of_laid {W : World} (h : laidMet Tryz.prog Rows.wordsDecodesRow.laid W) : errAt W := by
  obtain ⟨g, t, cs, fuel, p, hg, ht, hv, hd⟩ := Lib.laidMet.reads h (n := "strconv.ErrSyntax") (d := Rows.laid_strconv_ErrSyntax) (by exact .tail _ (.tail _ (.tail _ (.tail _ (.tail _ (.tail _ (.head _)))))))
  obtain rfl := Option.some.inj (gErrSyn.symm.trans hg)
  obtain rfl := Option.some.inj (gErrSynType.symm.trans ht)
  obtain ⟨l⟩ := cs
  obtain ⟨f1, u, v, hl, _, _⟩ := iface_of_trod Tryz.underlying84 hd
  have hl' : l = [.iface u v] := hl
  subst hl'
  exact ⟨u, v, World.var?_cell gErrSyn hv 0⟩
theorem env_of_laid {W : World} (h : laidMetH Tryz.prog Rows.wordsDecodesRow.laid W) : env W := ⟨tabs_of_laid h, lets_of_laid h, errAt_of_laid (laid_plain h)⟩
end Go.Proofs.YtolkjaebhhbilaaGreatDoor

/- The document's Decode. -/
namespace Go.Proofs.YtolkjaebhhbilaaGreatDoor
open Go Go.RowKit

theorem wordV_some {x : List UInt8 × Nat} : wordV (some x) = .tuple #[.string ⟨x.1.toArray⟩, .int .i64 (x.2 : Int)] := rfl
/-- What is told in a state: behind a word the blanks wait. -/
def stR (b : Bool) (l : List UInt8) : List UInt8 := decM (if b then some [] else none) l
/-- How many blanks stand ahead, where they count. -/
def blN (b : Bool) (l : List UInt8) : Nat := if b then l.findIdx (fun c => !blk c) else 0
theorem blN_le (b : Bool) (l : List UInt8) : blN b l ≤ l.length := by
  unfold blN
  split
  · exact List.findIdx_le_length
  · exact Nat.zero_le _
theorem blN_take (b : Bool) (l : List UInt8) : ∀ c ∈ l.take (blN b l), blk c = true := by
  intro c hc
  obtain ⟨j, hj, e⟩ := List.getElem_of_mem hc
  rw [List.length_take] at hj
  rw [List.getElem_take] at e
  unfold blN at hj
  split at hj
  · have := List.not_of_lt_findIdx (p := fun c => !blk c) (show j < l.findIdx _ by omega)
    rw [← e]
    simpa using this
  · omega
theorem blN_at {b : Bool} {l : List UInt8} (hb : b = true) (h : blN b l < l.length) : blk l[blN b l] = false := by
  subst hb
  unfold blN at h ⊢
  simp only [if_true] at h ⊢
  have := List.findIdx_getElem (w := h)
  simpa using this
theorem stR_skip (b : Bool) (l : List UInt8) : stR b l = decM (if b then some (l.take (blN b l)) else none) (l.drop (blN b l)) := by
  unfold stR
  cases b with
  | false => rfl
  | true =>
    simp only [if_true]
    have := decM_blanks (l.drop (blN true l)) (l.take (blN true l)) [] (blN_take true l)
    rw [List.take_append_drop, List.nil_append] at this
    exact this
theorem stR_word {b : Bool} {l t : List UInt8} {n : Nat} (h : ewL (l.drop (blN b l)) = some (t, n)) : stR b l = t ++ stR true (l.drop (blN b l + n)) := by
  rw [stR_skip, decM_word _ h, List.drop_drop]
  rfl
theorem stR_none {b : Bool} {l : List UInt8} (hl : l ≠ []) (h : ewL (l.drop (blN b l)) = none) {k : Nat} (hk : k = if blN b l = 0 then 1 else blN b l) : stR b l = l.take k ++ stR false (l.drop k) := by
  have hpos : 0 < l.length := List.length_pos_iff.2 hl
  by_cases h0 : blN b l = 0
  · rw [if_pos h0] at hk
    subst hk
    rw [h0, List.drop_zero] at h
    match l, hl with
    | c :: r, _ =>
      show stR b (c :: r) = c :: stR false r
      unfold stR
      cases b with
      | false => exact decM_out h
      | true =>
        have hb := blN_at (b := true) (l := c :: r) rfl (by rw [h0]; simp)
        have hb' : blk c = false := by simpa [h0] using hb
        simp only [if_true]
        rw [decM_other [] h hb']
        rfl
  · rw [if_neg h0] at hk
    subst hk
    have hbt : b = true := by
      cases b with
      | true => rfl
      | false => exact absurd rfl h0
    subst hbt
    rw [stR_skip]
    simp only [if_true]
    have hle := blN_le true l
    by_cases he : blN true l = l.length
    · rw [he, List.drop_length, List.take_length]
      unfold stR
      rw [decM_nil]
      show l = l ++ decM none []
      rw [decM_nil]
      simp
    · have hlt : blN true l < l.length := by omega
      have hb := blN_at (b := true) rfl hlt
      have hd := List.drop_eq_getElem_cons hlt
      rw [hd] at h ⊢
      unfold stR
      simp only [Bool.false_eq_true, if_false]
      rw [decM_other _ h hb, decM_out h]
theorem blN_step {l : List UInt8} {k : Nat} (h : k < l.length) (hk : k ≤ blN true l) (hb : blk l[k] = true) : k + 1 ≤ blN true l := by
  rcases Nat.lt_or_ge k (blN true l) with h1 | h1
  · exact h1
  · exfalso
    have e : blN true l = k := by omega
    have := blN_at (b := true) (l := l) rfl (by rw [e]; exact h)
    have h2 : blk l[k] = false := by rw [← this]; congr 2; exact e.symm
    rw [hb] at h2
    cases h2
theorem blN_stop {l : List UInt8} {k : Nat} (h : k < l.length) (hk : k ≤ blN true l) (hb : blk l[k] = false) : blN true l = k := by
  rcases Nat.lt_or_ge k (blN true l) with h1 | h1
  · exfalso
    have hm : l[k] ∈ l.take (blN true l) := by
      have : (l.take (blN true l))[k]'(by rw [List.length_take]; omega) = l[k] := List.getElem_take
      rw [← this]
      exact List.getElem_mem _
    have := blN_take true l _ hm
    rw [hb] at this
    cases this
  · omega
/-! ### The walk -/
theorem extract_whole (T : ByteArray) : T.extract 0 T.size = T := bytes_eq (by rw [extract_toList, List.drop_zero, Nat.sub_zero, List.take_of_length_le (by simp)])
set_option maxRecDepth 100000 in
set_option maxHeartbeats 8000000 in
theorem refDecode9_any (s : ByteArray) (w : World) (hl : s.size ≤ 1000) :
    Calls Tryz.prog 8 #[.string s] w fun e w' => (∃ T : ByteArray, e = .returned (.string T) ∧ T.data.toList = decM none s.data.toList) ∧ Below w.heap.size w w' := by
  have HWd := Lib.hid (fun (T : ByteArray) (h : T.size ≤ 10000) W => refWord_any T W h)
  go_enter Tryz.func8, Tryz.ntmps8
  go_wp2_with fail
  go_loopg [0, 3, 4, 5, 6, 7] s.size (fun g v0 v3 v4 v5 v6 v7 wr => ∃ (T O : ByteArray) (b : Bool), T.size ≤ g ∧ T.size ≤ s.size ∧ v0 = .string T ∧ v3 = .string O ∧ v4 = .bool b ∧ O.size + 2 * T.size ≤ 2 * s.size ∧ Hid (Below w.heap.size w wr) ∧ Hid (decM none s.data.toList = O.data.toList ++ stR b T.data.toList))
  case atStart => exact ⟨s, ⟨#[]⟩, false, Nat.le_refl _, Nat.le_refl _, rfl, rfl, rfl, by show 0 + _ ≤ _; omega, Below.refl _ _, rfl⟩
  case round =>
    obtain ⟨T, O, b, hTg, hTs, rfl, rfl, rfl, hOT, HB, HE⟩ := hrel
    by_cases hT0 : 0 < T.size
    · have hse : (T.toList == []) = false := by rw [beq_eq_false_iff_ne]; intro e; rw [toList_nil_iff] at e; omega
      have hse2 : T.toList.isEmpty = false := by rw [← Bool.not_eq_true, List.isEmpty_iff]; intro e; rw [toList_nil_iff] at e; omega
      have hse3 : (T.toList != []) = true := by simp [bne, hse]
      have HTne : Hid (T.data.toList ≠ []) := by
        unfold Hid
        intro e
        have := congrArg List.length e
        rw [len_toList, List.length_nil] at this
        omega
      obtain ⟨wv, hwv⟩ : ∃ wv, wv = wr := ⟨_, rfl⟩
      go_wp2_with fail
      go_loopg [5] T.size (fun g v5 wx => ∃ k : Nat, T.size - k ≤ g ∧ k ≤ T.size ∧ v5 = .int .i64 (k : Int) ∧ Hid (k ≤ blN b T.data.toList) ∧ wr = wx)
      case atStart => exact ⟨0, by omega, Nat.zero_le _, rfl, Nat.zero_le _, rfl⟩
      case round =>
        obtain ⟨k, hkg, hk, rfl, HK, rfl⟩ := hrel
        cases b with
        | false =>
          have HKe : Hid (k = blN false T.data.toList) := by
            have h1 := HK.out
            have h2 : blN false T.data.toList = 0 := rfl
            unfold Hid
            omega
          obtain ⟨b, hb⟩ : ∃ b, b = false := ⟨_, rfl⟩
          rw [← hb] at HE HKe
          clear hb
          have HKz := Lib.hid (extract_size' T k T.size (Nat.le_refl _))
          have HKl : Hid ((T.extract k T.size).data.toList = T.data.toList.drop k) := by unfold Hid; rw [extract_toList]; exact List.take_of_length_le (by simp)
          have HW1 := Lib.hid (HWd.out (T.extract k T.size) (by rw [HKz.out]; omega))
          rw [HKl.out] at HW1
          cases hq : ewL (T.data.toList.drop k) with
          | some p =>
            obtain ⟨t, n⟩ := p
            have hn := ewL_len hq
            have htl := ewL_text hq
            rw [hq] at HW1
            unfold wordV at HW1
            have hnk : k + n ≤ T.size := by
              have := hn.2
              rw [List.length_drop, len_toList] at this
              omega
            have HSt : Hid (stR b T.data.toList = t ++ stR true (T.data.toList.drop (k + n))) := by
              unfold Hid
              rw [HKe.out] at hq ⊢
              exact stR_word hq
            have HZ2 := Lib.hid (extract_size' T (k + n) T.size (Nat.le_refl _))
            have HX2 : Hid ((T.extract (k + n) T.size).data.toList = T.data.toList.drop (k + n)) := by unfold Hid; rw [extract_toList]; exact List.take_of_length_le (by simp)
            have hn0 := hn.1
            have hni : (0 : Int) < (n : Int) := by omega
            clear hq hn
            go_wp2_with fail
            with_reducible refine (HW1.out _).mono ?_
            rintro e w3 ⟨rfl, hb3⟩
            have HB3 := Lib.hid (HB.out.trans (hb3.mono HB.out.size))
            clear hb3
            go_wp2_with fail
            go_roundg (T.size - (k + n))
            case measure => omega
            case rel =>
              refine ⟨T.extract (k + n) T.size, O ++ ⟨t.toArray⟩, true, by rw [HZ2.out]; exact Nat.le_refl _, by rw [HZ2.out]; omega, rfl, rfl, rfl, ?_, HB3, ?_⟩
              · rw [ByteArray.size_append, HZ2.out]
                show _ + t.length + _ ≤ _
                omega
              · unfold Hid
                rw [HE.out, HSt.out, cat_toList, HX2.out, List.append_assoc]
          | none =>
            rw [hq] at HW1
            unfold wordV at HW1
            by_cases hk0 : k = 0
            · subst hk0
              have HSt : Hid (stR b T.data.toList = T.data.toList.take 1 ++ stR false (T.data.toList.drop 1)) := by
                unfold Hid
                rw [HKe.out] at hq
                exact stR_none HTne.out hq (by rw [← HKe.out]; rfl)
              have HZ1 := Lib.hid (extract_size' T 0 1 (by omega))
              have HZ2 := Lib.hid (extract_size' T 1 T.size (Nat.le_refl _))
              have HX1 : Hid ((T.extract 0 1).data.toList = T.data.toList.take 1) := by unfold Hid; rw [extract_toList]; rfl
              have HX2 : Hid ((T.extract 1 T.size).data.toList = T.data.toList.drop 1) := by unfold Hid; rw [extract_toList]; exact List.take_of_length_le (by simp)
              have hz1 : (T.extract 0 1).size ≤ 1 := by rw [HZ1.out]; exact Nat.le_refl _
              rw [extract_whole] at HW1
              clear hq
              go_wp2_with fail
              with_reducible refine (HW1.out _).mono ?_
              rintro e w3 ⟨rfl, hb3⟩
              have HB3 := Lib.hid (HB.out.trans (hb3.mono HB.out.size))
              clear hb3
              go_wp2_with fail
              go_roundg (T.size - 1)
              case measure => omega
              case rel =>
                refine ⟨T.extract 1 T.size, O ++ T.extract 0 1, false, by rw [HZ2.out]; exact Nat.le_refl _, by rw [HZ2.out]; omega, rfl, rfl, rfl, ?_, HB3, ?_⟩
                · rw [ByteArray.size_append, HZ2.out, HZ1.out]
                  omega
                · unfold Hid
                  rw [HE.out, HSt.out, cat_toList, HX1.out, HX2.out, List.append_assoc]
            · have HSt : Hid (stR b T.data.toList = T.data.toList.take k ++ stR false (T.data.toList.drop k)) := by
                unfold Hid
                have hk0' := hk0
                rw [HKe.out] at hq hk0' ⊢
                exact stR_none HTne.out hq (by rw [if_neg hk0'])
              have HZ1 := Lib.hid (extract_size' T 0 k (by omega))
              have HX1 : Hid ((T.extract 0 k).data.toList = T.data.toList.take k) := by unfold Hid; rw [extract_toList]; simp
              have hz1 : (T.extract 0 k).size ≤ k := by rw [HZ1.out]; omega
              have hkb : ((k : Int) == 0) = false := beq_no (by omega)
              clear hq
              go_wp2_with fail
              with_reducible refine (HW1.out _).mono ?_
              rintro e w3 ⟨rfl, hb3⟩
              have HB3 := Lib.hid (HB.out.trans (hb3.mono HB.out.size))
              clear hb3
              go_wp2_with fail
              go_roundg (T.size - k)
              case measure => omega
              case rel =>
                refine ⟨T.extract k T.size, O ++ T.extract 0 k, false, by rw [HKz.out]; exact Nat.le_refl _, by rw [HKz.out]; omega, rfl, rfl, rfl, ?_, HB3, ?_⟩
                · rw [ByteArray.size_append, HKz.out, HZ1.out]
                  omega
                · unfold Hid
                  rw [HE.out, HSt.out, cat_toList, HX1.out, HKl.out, List.append_assoc]
        | true =>
          by_cases hlt : k < T.size
          · have hct := T[k].toNat_lt
            have hlti : (k : Int) < (T.size : Int) := by omega
            have hkl : k < T.data.toList.length := by rw [len_toList]; exact hlt
            have hTk : T.data.toList[k] = T[k] := rfl
            by_cases q1 : T[k].toNat = 32
            · have b1 : ((T[k].toNat : Int) == 32) = true := beq_yes (by omega)
              have HK2 : Hid (k + 1 ≤ blN true T.data.toList) := blN_step hkl HK.out (by rw [hTk]; exact blk_true (.inl (by omega)))
              clear q1 hTk
              go_wp2_with fail
              go_roundg (T.size - (k + 1))
              case measure => omega
              case rel => exact ⟨k + 1, Nat.le_refl _, by omega, by go_num, HK2, rfl⟩
            · have b1 : ((T[k].toNat : Int) == 32) = false := beq_no (by omega)
              by_cases q2 : T[k].toNat = 9
              · have b2 : ((T[k].toNat : Int) == 9) = true := beq_yes (by omega)
                have HK2 : Hid (k + 1 ≤ blN true T.data.toList) := blN_step hkl HK.out (by rw [hTk]; exact blk_true (.inr (by omega)))
                clear q1 q2 hTk
                go_wp2_with fail
                go_roundg (T.size - (k + 1))
                case measure => omega
                case rel => exact ⟨k + 1, Nat.le_refl _, by omega, by go_num, HK2, rfl⟩
              · have b2 : ((T[k].toNat : Int) == 9) = false := beq_no (by omega)
                have HKe : Hid (k = blN true T.data.toList) := (blN_stop hkl HK.out (by rw [hTk]; exact blk_false (by omega))).symm
                obtain ⟨b, hb⟩ : ∃ b, b = true := ⟨_, rfl⟩
                rw [← hb] at HE HKe
                clear q1 q2 hTk hb
                have HKz := Lib.hid (extract_size' T k T.size (Nat.le_refl _))
                have HKl : Hid ((T.extract k T.size).data.toList = T.data.toList.drop k) := by unfold Hid; rw [extract_toList]; exact List.take_of_length_le (by simp)
                have HW1 := Lib.hid (HWd.out (T.extract k T.size) (by rw [HKz.out]; omega))
                rw [HKl.out] at HW1
                cases hq : ewL (T.data.toList.drop k) with
                | some p =>
                  obtain ⟨t, n⟩ := p
                  have hn := ewL_len hq
                  have htl := ewL_text hq
                  rw [hq] at HW1
                  unfold wordV at HW1
                  have hnk : k + n ≤ T.size := by
                    have := hn.2
                    rw [List.length_drop, len_toList] at this
                    omega
                  have HSt : Hid (stR b T.data.toList = t ++ stR true (T.data.toList.drop (k + n))) := by
                    unfold Hid
                    rw [HKe.out] at hq ⊢
                    exact stR_word hq
                  have HZ2 := Lib.hid (extract_size' T (k + n) T.size (Nat.le_refl _))
                  have HX2 : Hid ((T.extract (k + n) T.size).data.toList = T.data.toList.drop (k + n)) := by unfold Hid; rw [extract_toList]; exact List.take_of_length_le (by simp)
                  have hn0 := hn.1
                  have hni : (0 : Int) < (n : Int) := by omega
                  clear hq hn
                  go_wp2_with fail
                  with_reducible refine (HW1.out _).mono ?_
                  rintro e w3 ⟨rfl, hb3⟩
                  have HB3 := Lib.hid (HB.out.trans (hb3.mono HB.out.size))
                  clear hb3
                  go_wp2_with fail
                  go_roundg (T.size - (k + n))
                  case measure => omega
                  case rel =>
                    refine ⟨T.extract (k + n) T.size, O ++ ⟨t.toArray⟩, true, by rw [HZ2.out]; exact Nat.le_refl _, by rw [HZ2.out]; omega, rfl, rfl, rfl, ?_, HB3, ?_⟩
                    · rw [ByteArray.size_append, HZ2.out]
                      show _ + t.length + _ ≤ _
                      omega
                    · unfold Hid
                      rw [HE.out, HSt.out, cat_toList, HX2.out, List.append_assoc]
                | none =>
                  rw [hq] at HW1
                  unfold wordV at HW1
                  by_cases hk0 : k = 0
                  · subst hk0
                    have HSt : Hid (stR b T.data.toList = T.data.toList.take 1 ++ stR false (T.data.toList.drop 1)) := by
                      unfold Hid
                      rw [HKe.out] at hq
                      exact stR_none HTne.out hq (by rw [← HKe.out]; rfl)
                    have HZ1 := Lib.hid (extract_size' T 0 1 (by omega))
                    have HZ2 := Lib.hid (extract_size' T 1 T.size (Nat.le_refl _))
                    have HX1 : Hid ((T.extract 0 1).data.toList = T.data.toList.take 1) := by unfold Hid; rw [extract_toList]; rfl
                    have HX2 : Hid ((T.extract 1 T.size).data.toList = T.data.toList.drop 1) := by unfold Hid; rw [extract_toList]; exact List.take_of_length_le (by simp)
                    have hz1 : (T.extract 0 1).size ≤ 1 := by rw [HZ1.out]; exact Nat.le_refl _
                    rw [extract_whole] at HW1
                    clear hq
                    go_wp2_with fail
                    with_reducible refine (HW1.out _).mono ?_
                    rintro e w3 ⟨rfl, hb3⟩
                    have HB3 := Lib.hid (HB.out.trans (hb3.mono HB.out.size))
                    clear hb3
                    go_wp2_with fail
                    go_roundg (T.size - 1)
                    case measure => omega
                    case rel =>
                      refine ⟨T.extract 1 T.size, O ++ T.extract 0 1, false, by rw [HZ2.out]; exact Nat.le_refl _, by rw [HZ2.out]; omega, rfl, rfl, rfl, ?_, HB3, ?_⟩
                      · rw [ByteArray.size_append, HZ2.out, HZ1.out]
                        omega
                      · unfold Hid
                        rw [HE.out, HSt.out, cat_toList, HX1.out, HX2.out, List.append_assoc]
                  · have HSt : Hid (stR b T.data.toList = T.data.toList.take k ++ stR false (T.data.toList.drop k)) := by
                      unfold Hid
                      have hk0' := hk0
                      rw [HKe.out] at hq hk0' ⊢
                      exact stR_none HTne.out hq (by rw [if_neg hk0'])
                    have HZ1 := Lib.hid (extract_size' T 0 k (by omega))
                    have HX1 : Hid ((T.extract 0 k).data.toList = T.data.toList.take k) := by unfold Hid; rw [extract_toList]; simp
                    have hz1 : (T.extract 0 k).size ≤ k := by rw [HZ1.out]; omega
                    have hkb : ((k : Int) == 0) = false := beq_no (by omega)
                    clear hq
                    go_wp2_with fail
                    with_reducible refine (HW1.out _).mono ?_
                    rintro e w3 ⟨rfl, hb3⟩
                    have HB3 := Lib.hid (HB.out.trans (hb3.mono HB.out.size))
                    clear hb3
                    go_wp2_with fail
                    go_roundg (T.size - k)
                    case measure => omega
                    case rel =>
                      refine ⟨T.extract k T.size, O ++ T.extract 0 k, false, by rw [HKz.out]; exact Nat.le_refl _, by rw [HKz.out]; omega, rfl, rfl, rfl, ?_, HB3, ?_⟩
                      · rw [ByteArray.size_append, HKz.out, HZ1.out]
                        omega
                      · unfold Hid
                        rw [HE.out, HSt.out, cat_toList, HX1.out, HKl.out, List.append_assoc]
          · obtain hkT : k = T.size := by omega
            have hlti : ¬ (k : Int) < (T.size : Int) := by omega
            have HKe : Hid (k = blN true T.data.toList) := by
              have h1 := HK.out
              have h2 := blN_le true T.data.toList
              rw [len_toList] at h2
              unfold Hid
              omega
            obtain ⟨b, hb⟩ : ∃ b, b = true := ⟨_, rfl⟩
            rw [← hb] at HE HKe
            clear hb
            have HkT := Lib.hid hkT
            clear hkT
            have HKz := Lib.hid (extract_size' T k T.size (Nat.le_refl _))
            have HKl : Hid ((T.extract k T.size).data.toList = T.data.toList.drop k) := by unfold Hid; rw [extract_toList]; exact List.take_of_length_le (by simp)
            have HW1 := Lib.hid (HWd.out (T.extract k T.size) (by rw [HKz.out]; omega))
            rw [HKl.out] at HW1
            cases hq : ewL (T.data.toList.drop k) with
            | some p =>
              obtain ⟨t, n⟩ := p
              have hn := ewL_len hq
              have htl := ewL_text hq
              rw [hq] at HW1
              unfold wordV at HW1
              have hnk : k + n ≤ T.size := by
                have := hn.2
                rw [List.length_drop, len_toList] at this
                omega
              exfalso
              have := hn.1
              have := HkT.out
              omega
            | none =>
              rw [hq] at HW1
              unfold wordV at HW1
              by_cases hk0 : k = 0
              · exfalso
                have := HkT.out
                omega
              · have HSt : Hid (stR b T.data.toList = T.data.toList.take k ++ stR false (T.data.toList.drop k)) := by
                  unfold Hid
                  have hk0' := hk0
                  rw [HKe.out] at hq hk0' ⊢
                  exact stR_none HTne.out hq (by rw [if_neg hk0'])
                have HZ1 := Lib.hid (extract_size' T 0 k (by omega))
                have HX1 : Hid ((T.extract 0 k).data.toList = T.data.toList.take k) := by unfold Hid; rw [extract_toList]; simp
                have hz1 : (T.extract 0 k).size ≤ k := by rw [HZ1.out]; omega
                have hkb : ((k : Int) == 0) = false := beq_no (by omega)
                clear hq
                go_wp2_with fail
                with_reducible refine (HW1.out _).mono ?_
                rintro e w3 ⟨rfl, hb3⟩
                have HB3 := Lib.hid (HB.out.trans (hb3.mono HB.out.size))
                clear hb3
                go_wp2_with fail
                go_roundg (T.size - k)
                case measure => omega
                case rel =>
                  refine ⟨T.extract k T.size, O ++ T.extract 0 k, false, by rw [HKz.out]; exact Nat.le_refl _, by rw [HKz.out]; omega, rfl, rfl, rfl, ?_, HB3, ?_⟩
                  · rw [ByteArray.size_append, HKz.out, HZ1.out]
                    omega
                  · unfold Hid
                    rw [HE.out, HSt.out, cat_toList, HX1.out, HKl.out, List.append_assoc]
    · have HX : Hid (T.data.toList = []) := List.eq_nil_of_length_eq_zero (by rw [len_toList]; omega)
      have hse : (T.toList == []) = true := by rw [beq_iff_eq, toList_nil_iff]; omega
      have hse2 : T.toList.isEmpty = true := by rw [List.isEmpty_iff, toList_nil_iff]; omega
      have hse3 : (T.toList != []) = false := by simp [bne, hse]
      go_wp2_with fail
      go_ret
      refine ⟨⟨O, rfl, ?_⟩, HB.out⟩
      rw [HE.out, HX.out]
      unfold stR
      rw [decM_nil]
      cases b <;> simp
end Go.Proofs.YtolkjaebhhbilaaGreatDoor

/- Statement WordsDecodes: any text without its encoded words, and the encoded word that it begins with, are the document's. -/
namespace Go.Proofs.YtolkjaebhhbilaaGreatDoor
open Go Go.RowKit

set_option maxRecDepth 100000 in
set_option maxHeartbeats 4000000 in
theorem wordsDecodes_any (s : ByteArray) (w : World) (_hs : s.size ≤ 9223372036854775807) (hE : env w) :
    Calls Tryz.prog 3 #[.string s] w fun e w' => e = .returned (.bool true) ∧ Below w.heap.size w w' := by
  have HAw := Lib.hid (awake_any w hE)
  have HEn := Lib.hid hE
  clear hE
  by_cases h1 : 300 < s.size
  · have q2 : (300 : Int) < (s.size : Int) := by omega
    go_enter Tryz.func3, Tryz.ntmps3
    go_wp2_with fail
    with_reducible refine HAw.out.mono ?_
    rintro e w1 ⟨rfl, hb1⟩
    go_wp2_with fail
    go_ret
    exact ⟨rfl, hb1⟩
  have q2 : ¬ (300 : Int) < (s.size : Int) := by omega
  have HWo := Lib.hid (fun W (hb : Below w.heap.size w W) => Word_any s W (by omega) (HEn.out.below hb))
  have HWr := Lib.hid (fun W => refWord_any s W (by omega))
  have HDe := Lib.hid (fun W (hb : Below w.heap.size w W) => Decode_any s W (by omega) (HEn.out.below hb))
  have HDr := Lib.hid (fun W => refDecode9_any s W (by omega))
  obtain ⟨S, n, hS⟩ := wordV_two (ewL s.data.toList)
  rw [hS] at HWo HWr
  obtain ⟨D, hD⟩ : ∃ D : ByteArray, D = ⟨(decM none s.data.toList).toArray⟩ := ⟨_, rfl⟩
  have hDl : D.data.toList = decM none s.data.toList := by rw [hD]
  have HDl := Lib.hid hDl
  rw [← hD] at HDe
  have q3 : (S.toList == S.toList) = true := by simp
  have q4 : ((n : Int) == n) = true := by simp
  clear hS hD hDl
  go_enter Tryz.func3, Tryz.ntmps3
  go_wp2_with fail
  with_reducible refine HAw.out.mono ?_
  rintro e w1 ⟨rfl, hb1⟩
  have HB1 := Lib.hid hb1
  clear hb1
  go_wp2_with fail
  with_reducible refine (HWo.out _ HB1.out).mono ?_
  rintro e w2 ⟨rfl, hb2⟩
  have HB2 := Lib.hid (HB1.out.trans (hb2.mono HB1.out.size))
  clear hb2
  go_wp2_with fail
  with_reducible refine (HWr.out _).mono ?_
  rintro e w3 ⟨rfl, hb3⟩
  have HB3 := Lib.hid (HB2.out.trans (hb3.mono HB2.out.size))
  clear hb3
  go_wp2_with fail
  with_reducible refine (HDe.out _ HB3.out).mono ?_
  rintro e w4 ⟨rfl, hb4⟩
  have HB4 := Lib.hid (HB3.out.trans (hb4.mono HB3.out.size))
  clear hb4
  go_wp2_with fail
  with_reducible refine (HDr.out _).mono ?_
  rintro e w5 ⟨⟨T, rfl, hT⟩, hb5⟩
  have HB5 := Lib.hid (HB4.out.trans (hb5.mono HB4.out.size))
  have q5 : (D.toList == T.toList) = true := str_eq (by rw [HDl.out, hT])
  clear hb5 hT
  go_wp2_with fail
  go_ret
  exact ⟨rfl, HB5.out⟩
end Go.Proofs.YtolkjaebhhbilaaGreatDoor
