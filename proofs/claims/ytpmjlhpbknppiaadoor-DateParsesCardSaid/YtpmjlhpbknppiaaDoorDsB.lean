/- Contract of the document's parts of a text. -/
import Derived.Test.YtpmjlhpbknppiaaDoorDsA
namespace Go.Proofs.YtpmjlhpbknppiaaDoor
open Go Go.RowKit

theorem partsR_ne : ∀ (l now : List UInt8), ∀ t ∈ partsR now l, t ≠ []
  | [], now, t, ht => by
    rw [partsR] at ht
    split at ht
    · cases ht
    · next h => rw [List.mem_singleton] at ht; rw [ht]; exact h
  | c :: r, now, t, ht => by
    rw [partsR] at ht
    split at ht
    · split at ht
      · exact partsR_ne r [] t ht
      · next h =>
        rcases List.mem_cons.1 ht with rfl | ht
        · exact h
        · exact partsR_ne r [] t ht
    · exact partsR_ne r (now ++ [c]) t ht
theorem partsR_le : ∀ (l now : List UInt8), ∀ t ∈ partsR now l, t.length ≤ now.length + l.length
  | [], now, t, ht => by
    rw [partsR] at ht
    split at ht
    · cases ht
    · rw [List.mem_singleton] at ht; rw [ht]; simp
  | c :: r, now, t, ht => by
    rw [partsR] at ht
    simp only [List.length_cons]
    split at ht
    · split at ht
      · have := partsR_le r [] t ht; simp at this; omega
      · rcases List.mem_cons.1 ht with rfl | ht
        · omega
        · have := partsR_le r [] t ht; simp at this; omega
    · have := partsR_le r (now ++ [c]) t ht
      simp at this
      omega
theorem partsR_end (t : List UInt8) : partsR t [] = if t = [] then [] else [t] := rfl
theorem partsR_gap {c : UInt8} (h : blk c = true) (t r : List UInt8) : partsR t (c :: r) = (if t = [] then [] else [t]) ++ partsR [] r := by
  rw [partsR, if_pos h]
  by_cases ht : t = []
  · rw [if_pos ht, if_pos ht]; rfl
  · rw [if_neg ht, if_neg ht]; rfl
theorem partsR_on {c : UInt8} (h : blk c = false) (t r : List UInt8) : partsR t (c :: r) = partsR (t ++ [c]) r := by
  rw [partsR, h]
  rfl
theorem partsR_few : ∀ (l now : List UInt8), (partsR now l).length ≤ l.length + 1
  | [], now => by rw [partsR]; split <;> simp
  | c :: r, now => by
    rw [partsR]
    have h1 := partsR_few r []
    have h2 := partsR_few r (now ++ [c])
    split
    · split
      · simp; omega
      · simp; omega
    · simp; omega
theorem empty_str {t : ByteArray} : t.data.toList = [] ↔ t = ⟨#[]⟩ := by
  constructor
  · intro h
    apply bytes_eq
    rw [h]
  · rintro rfl
    rfl
theorem nilB (A : ByteArray) (h : A.data.toList = []) : A.toList.isEmpty = true ∧ (A.toList == []) = true ∧ (A.toList != []) = false := by
  have e : A.toList = [] := by rw [ByteArray.toList_eq, h]
  rw [e]
  exact ⟨rfl, rfl, rfl⟩
theorem consB (A : ByteArray) (h : A.data.toList ≠ []) : A.toList.isEmpty = false ∧ (A.toList == []) = false ∧ (A.toList != []) = true := by
  have e : A.toList ≠ [] := by rw [ByteArray.toList_eq]; exact h
  obtain ⟨c, r, hc⟩ := List.exists_cons_of_ne_nil e
  rw [hc]
  exact ⟨rfl, rfl, rfl⟩
set_option maxRecDepth 100000 in
set_option maxHeartbeats 4000000 in
theorem refParts_any (s : ByteArray) (hs : s.size ≤ 1000000000) (w : World) :
    Calls Tryd.prog 26 #[.string s] w fun e w' => ∃ v, e = .returned v ∧ w'.ownsRow w.heap.size 9 1 v (partsR [] s.data.toList).length ((partsR [] s.data.toList).map strV) ∧ Below w.heap.size w w' := by
  obtain ⟨i0, hi, hz0, hz1, hz2⟩ := info_parts Tryd.infoStr
  go_enter Tryd.func26, Tryd.ntmps26
  go_wp2
  go_loopg [3, 4, 5] (s.size + 1) (fun g o fv v wr => ∃ (k : Nat) (t : ByteArray) (ps : List (List UInt8)), k ≤ s.size + 1 ∧ g = s.size + 1 - k ∧ v = .int .i64 k ∧ fv = .string t ∧ t.size ≤ k ∧ ps.length ≤ k ∧ (s.size < k → t = ⟨#[]⟩) ∧ wr.ownsRow w.heap.size 9 1 o ps.length (ps.map strV) ∧ Hid (Below w.heap.size w wr) ∧ Hid (ps ++ partsR t.data.toList (s.data.toList.drop k) = partsR [] s.data.toList))
  case atStart => exact ⟨0, ⟨#[]⟩, [], by omega, by omega, rfl, rfl, Nat.zero_le _, by simp, fun h => by omega, World.ownsRow_nil _ _ _ _, Below.refl _ _, rfl⟩
  case round =>
    obtain ⟨k, t, ps, hk, rfl, rfl, rfl, ht, hps, hend, hown, HB, HS⟩ := hrel
    have HO := Lib.hid hown
    have HE := Lib.hid hend
    clear hown hend
    by_cases hle : k ≤ s.size
    · by_cases hlt : k < s.size
      · have e0 := Lib.hid (drop_cons s k hlt)
        have HX := Lib.hid (extract_size' s k (k + 1) (by omega))
        have hx : (s.extract k (k + 1)).size ≤ 1 := by rw [HX.out]; omega
        by_cases h32 : s[k].toNat = 32
        · have t32 : ((s[k].toNat : Int) != 32) = false := bne_no (by omega)
          have HK : Hid (blk s[k] = true) := by
            unfold blk Hid
            exact decide_eq_true (.inl (by omega))
          clear h32
          have HP : Hid ((ps ++ (if t.data.toList = [] then [] else [t.data.toList])) ++ partsR [] (s.data.toList.drop (k + 1)) = partsR [] s.data.toList) := by
            have := HS.out
            rw [e0.out, partsR_gap HK.out, ← List.append_assoc] at this
            exact this
          by_cases ht0 : t = ⟨#[]⟩
          · obtain ⟨te1, te2, te3⟩ := nilB t (empty_str.2 ht0)
            have HT := Lib.hid ht0
            clear ht0
            go_wp2
            go_roundg (s.size + 1 - (k + 1))
            case measure => omega
            case rel =>
              refine ⟨k + 1, t, ps, by omega, rfl, by go_num, rfl, by omega, by omega, fun _ => HT.out, HO.out, HB, ?_⟩
              have := HP.out
              rw [if_pos (empty_str.2 HT.out), List.append_nil] at this
              unfold Hid
              rw [empty_str.2 HT.out]
              exact this
          · obtain ⟨te1, te2, te3⟩ := consB t (fun h => ht0 (empty_str.1 h))
            have HT := Lib.hid ht0
            clear ht0
            go_wp2_with (at_builtin; refine wpList_append_own _ rfl _ _ 35 rfl w.heap.size 9 i0 (.string ⟨#[]⟩) 1 16 Tryd.underlying35 hi hz0 hz1 hz2 rfl (by decide) _ _ _ rfl (HO.out.alloc _) ⟨wr.heap.size, 0, none⟩ 1 1 [.string t] rfl rfl ?c1 ?c2 ?c3 ?c4 ?c5 ?_)
            case c1 => exact cell_one_new wr _ _
            case c2 => intro u hu; simp at hu; subst hu; rfl
            case c3 => unfold maxLen; omega
            case c4 => omega
            case c5 => simp; have := HB.out.size; omega
            intro v' w1 hown1 hgrow1 _
            have HO1 := Lib.hid hown1
            have HB1 : Hid (Below w.heap.size w w1) := (HB.out.alloc (by have := HB.out.size; omega) _).grown hgrow1 (by have := HB.out.size; simp; omega) (fun q hq => (HO.out.lt q hq).1)
            clear hown1 hgrow1
            go_wp2
            go_roundg (s.size + 1 - (k + 1))
            case measure => omega
            case rel =>
              refine ⟨k + 1, ⟨#[]⟩, ps ++ [t.data.toList], by omega, rfl, by go_num, rfl, Nat.zero_le _, by simp; omega, fun _ => rfl, ?_, HB1, ?_⟩
              · have := HO1.out
                rw [← strV_bytes] at this
                simpa using this
              · have := HP.out
                rw [if_neg (fun h => HT.out (empty_str.1 h))] at this
                exact this
        · have N32 := Lib.hid h32
          have t32 : ((s[k].toNat : Int) != 32) = true := bne_yes (by omega)
          clear h32
          by_cases h9 : s[k].toNat = 9
          · have t9 : ((s[k].toNat : Int) != 9) = false := bne_no (by omega)
            have HK : Hid (blk s[k] = true) := by
              unfold blk Hid
              exact decide_eq_true (.inr (by omega))
            clear h9
            have HP : Hid ((ps ++ (if t.data.toList = [] then [] else [t.data.toList])) ++ partsR [] (s.data.toList.drop (k + 1)) = partsR [] s.data.toList) := by
              have := HS.out
              rw [e0.out, partsR_gap HK.out, ← List.append_assoc] at this
              exact this
            by_cases ht0 : t = ⟨#[]⟩
            · obtain ⟨te1, te2, te3⟩ := nilB t (empty_str.2 ht0)
              have HT := Lib.hid ht0
              clear ht0
              go_wp2
              go_roundg (s.size + 1 - (k + 1))
              case measure => omega
              case rel =>
                refine ⟨k + 1, t, ps, by omega, rfl, by go_num, rfl, by omega, by omega, fun _ => HT.out, HO.out, HB, ?_⟩
                have := HP.out
                rw [if_pos (empty_str.2 HT.out), List.append_nil] at this
                unfold Hid
                rw [empty_str.2 HT.out]
                exact this
            · obtain ⟨te1, te2, te3⟩ := consB t (fun h => ht0 (empty_str.1 h))
              have HT := Lib.hid ht0
              clear ht0
              go_wp2_with (at_builtin; refine wpList_append_own _ rfl _ _ 35 rfl w.heap.size 9 i0 (.string ⟨#[]⟩) 1 16 Tryd.underlying35 hi hz0 hz1 hz2 rfl (by decide) _ _ _ rfl (HO.out.alloc _) ⟨wr.heap.size, 0, none⟩ 1 1 [.string t] rfl rfl ?c1 ?c2 ?c3 ?c4 ?c5 ?_)
              case c1 => exact cell_one_new wr _ _
              case c2 => intro u hu; simp at hu; subst hu; rfl
              case c3 => unfold maxLen; omega
              case c4 => omega
              case c5 => simp; have := HB.out.size; omega
              intro v' w1 hown1 hgrow1 _
              have HO1 := Lib.hid hown1
              have HB1 : Hid (Below w.heap.size w w1) := (HB.out.alloc (by have := HB.out.size; omega) _).grown hgrow1 (by have := HB.out.size; simp; omega) (fun q hq => (HO.out.lt q hq).1)
              clear hown1 hgrow1
              go_wp2
              go_roundg (s.size + 1 - (k + 1))
              case measure => omega
              case rel =>
                refine ⟨k + 1, ⟨#[]⟩, ps ++ [t.data.toList], by omega, rfl, by go_num, rfl, Nat.zero_le _, by simp; omega, fun _ => rfl, ?_, HB1, ?_⟩
                · have := HO1.out
                  rw [← strV_bytes] at this
                  simpa using this
                · have := HP.out
                  rw [if_neg (fun h => HT.out (empty_str.1 h))] at this
                  exact this
          · have t9 : ((s[k].toNat : Int) != 9) = true := bne_yes (by omega)
            have HK : Hid (blk s[k] = false) := by
              have a32 := N32.out
              unfold blk Hid
              exact decide_eq_false (by rintro (h | h) <;> omega)
            clear h9
            go_wp2
            go_roundg (s.size + 1 - (k + 1))
            case measure => omega
            case rel =>
              refine ⟨k + 1, t ++ s.extract k (k + 1), ps, by omega, rfl, by go_num, rfl, by rw [ByteArray.size_append]; omega, by omega, fun h => by omega, HO.out, HB, ?_⟩
              have := HS.out
              rw [e0.out, partsR_on HK.out, ← add_one_byte hlt rfl] at this
              exact this
      · have e0 := Lib.hid (show s.data.toList.drop k = [] from List.drop_eq_nil_of_le (by rw [len_toList]; omega))
        have e1 := Lib.hid (show s.data.toList.drop (k + 1) = [] from List.drop_eq_nil_of_le (by rw [len_toList]; omega))
        have HP : Hid ((ps ++ (if t.data.toList = [] then [] else [t.data.toList])) ++ partsR [] (s.data.toList.drop (k + 1)) = partsR [] s.data.toList) := by
          have := HS.out
          rw [e0.out, partsR_end] at this
          unfold Hid
          rw [e1.out, partsR_end, if_pos rfl, List.append_nil]
          exact this
        by_cases ht0 : t = ⟨#[]⟩
        · obtain ⟨te1, te2, te3⟩ := nilB t (empty_str.2 ht0)
          have HT := Lib.hid ht0
          clear ht0
          go_wp2
          go_roundg (s.size + 1 - (k + 1))
          case measure => omega
          case rel =>
            refine ⟨k + 1, t, ps, by omega, rfl, by go_num, rfl, by omega, by omega, fun _ => HT.out, HO.out, HB, ?_⟩
            have := HP.out
            rw [if_pos (empty_str.2 HT.out), List.append_nil] at this
            unfold Hid
            rw [empty_str.2 HT.out]
            exact this
        · obtain ⟨te1, te2, te3⟩ := consB t (fun h => ht0 (empty_str.1 h))
          have HT := Lib.hid ht0
          clear ht0
          go_wp2_with (at_builtin; refine wpList_append_own _ rfl _ _ 35 rfl w.heap.size 9 i0 (.string ⟨#[]⟩) 1 16 Tryd.underlying35 hi hz0 hz1 hz2 rfl (by decide) _ _ _ rfl (HO.out.alloc _) ⟨wr.heap.size, 0, none⟩ 1 1 [.string t] rfl rfl ?c1 ?c2 ?c3 ?c4 ?c5 ?_)
          case c1 => exact cell_one_new wr _ _
          case c2 => intro u hu; simp at hu; subst hu; rfl
          case c3 => unfold maxLen; omega
          case c4 => omega
          case c5 => simp; have := HB.out.size; omega
          intro v' w1 hown1 hgrow1 _
          have HO1 := Lib.hid hown1
          have HB1 : Hid (Below w.heap.size w w1) := (HB.out.alloc (by have := HB.out.size; omega) _).grown hgrow1 (by have := HB.out.size; simp; omega) (fun q hq => (HO.out.lt q hq).1)
          clear hown1 hgrow1
          go_wp2
          go_roundg (s.size + 1 - (k + 1))
          case measure => omega
          case rel =>
            refine ⟨k + 1, ⟨#[]⟩, ps ++ [t.data.toList], by omega, rfl, by go_num, rfl, Nat.zero_le _, by simp; omega, fun _ => rfl, ?_, HB1, ?_⟩
            · have := HO1.out
              rw [← strV_bytes] at this
              simpa using this
            · have := HP.out
              rw [if_neg (fun h => HT.out (empty_str.1 h))] at this
              exact this
    · go_wp2
      go_ret
      refine ⟨_, rfl, ?_, HB.out⟩
      have e1 := HS.out
      obtain rfl := HE.out (by omega)
      rw [List.drop_eq_nil_of_le (by rw [len_toList]; omega), partsR_end, if_pos rfl, List.append_nil] at e1
      rw [← e1]
      exact HO.out
end Go.Proofs.YtpmjlhpbknppiaaDoor
