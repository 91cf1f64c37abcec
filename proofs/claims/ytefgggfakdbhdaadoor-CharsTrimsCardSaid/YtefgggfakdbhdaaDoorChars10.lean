/- The law CharsTrims: contract. -/
import Derived.Test.YtefgggfakdbhdaaDoorChars8
namespace Go.Proofs.YtefgggfakdbhdaaDoor
open Go Go.RowKit

theorem trim_front (f l : List UInt8) (hf : f.all blk = true) : trimS (f ++ l) = trimS l := by
  obtain ⟨a, b, h1, h2, h3, h4, h5⟩ := trim_parts l
  conv => lhs; rw [h1]
  rw [← List.append_assoc, ← List.append_assoc]
  exact trim_of (f ++ a) (trimS l) b (by rw [List.all_append, hf, h2]; rfl) h3 h4 h5
theorem trim_behind (f l : List UInt8) (hf : f.all blk = true) : trimS (l ++ f) = trimS l := by
  obtain ⟨a, b, h1, h2, h3, h4, h5⟩ := trim_parts l
  conv => lhs; rw [h1]
  rw [List.append_assoc]
  exact trim_of a (trimS l) (b ++ f) h2 (by rw [List.all_append, hf, h3]; rfl) h4 h5
theorem trim_twice (l : List UInt8) : trimS (trimS l) = trimS l := by
  obtain ⟨a, b, _, _, _, h4, h5⟩ := trim_parts l
  have := trim_of [] (trimS l) [] rfl rfl h4 h5
  simpa using this
theorem trim_blank (l : List UInt8) (h : l.all blk = true) : trimS l = [] := by
  have := trim_of l [] [] h rfl (by simp) (by simp)
  simpa using this
theorem trim_le (l : List UInt8) : (trimS l).length ≤ l.length := by
  obtain ⟨a, b, h1, _⟩ := trim_parts l
  have := congrArg List.length h1
  simp at this
  omega

theorem blank_piece {q : Nat} (h : q ≤ 1) : ((⟨#[32, 9]⟩ : ByteArray).extract q (q + 1)).data.toList.all blk = true := by
  match q, h with
  | 0, _ => rfl
  | 1, _ => rfl
theorem blank_piece_size {q : Nat} (h : q ≤ 1) : ((⟨#[32, 9]⟩ : ByteArray).extract q (q + 1)).size = 1 := by
  match q, h with
  | 0, _ => rfl
  | 1, _ => rfl
set_option maxRecDepth 100000 in
theorem and_one_fin : ∀ x : Fin 256, bits BinOp.and IntKind.u8 (x.val : Int) 1 = ((x.val % 2 : Nat) : Int) := by decide
theorem and_one_u8 (b : UInt8) : bits BinOp.and IntKind.u8 (b.toNat : Int) 1 = ((b.toNat % 2 : Nat) : Int) := and_one_fin ⟨b.toNat, b.toNat_lt⟩

theorem trim_some (s : ByteArray) (w : World) (hl : s.size ≤ 9223372036854775807) :
    Calls Tryd.prog 24 #[.string s] w fun e w' => ∃ T : ByteArray, e = .returned (.string T) ∧ T.data.toList = trimS s.data.toList ∧ T.size ≤ s.size ∧ w = w' :=
  (trim_any s w hl).mono fun _ _ ⟨he, hw⟩ => ⟨_, he, by simp, by have := trim_le s.data.toList; rw [bytes_len, bytes_len s]; simpa using this, hw⟩
theorem first_not {T : ByteArray} {l : List UInt8} (h : T.data.toList = trimS l) (h0 : 0 < T.size) : ¬ ((T[0].toNat : Int) = 32 ∨ (T[0].toNat : Int) = 9) := by
  obtain ⟨_, _, _, _, _, h4, _⟩ := trim_parts l
  have := h4 T[0] (by rw [← h]; exact head_at T h0)
  simpa [blk] using this
theorem last_not {T : ByteArray} {l : List UInt8} (h : T.data.toList = trimS l) (h0 : 0 < T.size) : ¬ (((T[T.size - 1]'(by omega)).toNat : Int) = 32 ∨ ((T[T.size - 1]'(by omega)).toNat : Int) = 9) := by
  obtain ⟨_, _, _, _, _, _, h5⟩ := trim_parts l
  have := h5 (T[T.size - 1]'(by omega)) (by rw [← h, List.getLast?_eq_getElem?, ← bytes_len]; exact bytes_get T _ (by omega))
  simpa [blk] using this

theorem charsTrims_any (s : ByteArray) (v : Value) (l : List UInt8) (w : World) (hs : s.size ≤ 9223372036854775807) (hb : bytesArg w v l) (ht : tab w) :
    Calls Tryd.prog 8 #[.string s, v] w fun e w' => e = .returned (.bool true) ∧ Below w.heap.size w w' := by
  obtain ⟨ao, cap, rfl, hcap, hcm, hcells⟩ := hb
  have HT := Lib.hid ht; clear ht
  by_cases h1 : 200 < s.size
  · go_enter Tryd.func8, Tryd.ntmps8
    go_wp2_with fail
    refine (awake_any _ HT.out).mono ?_
    rintro e w1 ⟨rfl, hb1⟩
    have HB1 := Lib.hid hb1; clear hb1
    go_wp2
    go_ret
    exact ⟨rfl, HB1.out⟩
  · by_cases h2 : 20 < l.length
    · go_enter Tryd.func8, Tryd.ntmps8
      go_wp2_with fail
      refine (awake_any _ HT.out).mono ?_
      rintro e w1 ⟨rfl, hb1⟩
      have HB1 := Lib.hid hb1; clear hb1
      go_wp2
      go_ret
      exact ⟨rfl, HB1.out⟩
    · have HC := Lib.hid hcells; clear hcells
      have HM := Lib.hid (fun w => trim_some s w hs)
      go_enter Tryd.func8, Tryd.ntmps8
      go_wp2_with fail
      refine (awake_any _ HT.out).mono ?_
      rintro e w1 ⟨rfl, hb1⟩
      have HB1 := Lib.hid hb1; clear hb1
      go_wp2_with fail
      refine (HM.out _).mono ?_
      rintro e w2 ⟨T, rfl, hT, hT2, rfl⟩
      have HTT := Lib.hid hT; clear hT
      go_wp2_with fail
      go_loopg [7, 8] l.length (fun g f i wr => ∃ (k : Nat) (F : ByteArray), k ≤ l.length ∧ g = l.length - k ∧ i = .int .i64 k ∧ f = .string F ∧ F.size = k ∧ Hid (F.data.toList.all blk = true) ∧ Hid (Below w.heap.size w wr))
      case atStart => exact ⟨0, ⟨#[]⟩, by omega, rfl, rfl, rfl, rfl, rfl, HB1.out⟩
      case round =>
        clear HB1
        obtain ⟨k, F, hk, rfl, rfl, rfl, hF, HF, HB⟩ := hrel
        have hF2 : F.size ≤ 20 := by omega
        have HF2 := Lib.hid hF; clear hF
        by_cases hlt : k < l.length
        · rcases HC.out with h0 | ⟨b, off, rfl, hbl, hcell⟩
          · subst h0; simp at hlt
          · have hc : wr.cell? ⟨b, off + k, none⟩ = some (.int .u8 (l[k].toNat : Int)) := by
              rw [HB.out.cell (p := ⟨b, off + k, none⟩) hbl]
              exact hcell k hlt
            clear hcell
            obtain ⟨q, hq, hq1⟩ : ∃ q : Nat, bits BinOp.and IntKind.u8 (l[k].toNat : Int) 1 = (q : Int) ∧ q ≤ 1 := ⟨_, and_one_u8 _, by omega⟩
            have hx : ((⟨#[32, 9]⟩ : ByteArray).extract q (q + 1)).size ≤ 2 := by rw [extract_len]; omega
            go_wp2_with fail
            go_quiet (fail)
            go_wp2
            go_roundg (l.length - (k + 1))
            case measure => omega
            case rel =>
              refine ⟨k + 1, F ++ (⟨#[32, 9]⟩ : ByteArray).extract q (q + 1), by omega, rfl, by go_num, rfl, ?_, ?_, below_drewN HB.out _⟩
              · have := HF2.out
                rw [ByteArray.size_append, blank_piece_size hq1]; omega
              · show (F ++ (⟨#[32, 9]⟩ : ByteArray).extract q (q + 1)).data.toList.all blk = true
                rw [ByteArray.data_append, Array.toList_append, List.all_append, HF.out, blank_piece hq1]
                rfl
        · have hz : (F ++ s).size ≤ 9223372036854775807 := by rw [ByteArray.size_append]; omega
          have hz2 : (s ++ F).size ≤ 9223372036854775807 := by rw [ByteArray.size_append]; omega
          have E1 : Hid (trimS (F ++ s).data.toList = trimS s.data.toList) := by
            show trimS (F ++ s).data.toList = _
            rw [ByteArray.data_append, Array.toList_append]
            exact trim_front _ _ HF.out
          have E2 : Hid (trimS (s ++ F).data.toList = trimS s.data.toList) := by
            show trimS (s ++ F).data.toList = _
            rw [ByteArray.data_append, Array.toList_append]
            exact trim_behind _ _ HF.out
          have E3 : Hid (trimS T.data.toList = trimS s.data.toList) := by
            show trimS T.data.toList = _
            rw [HTT.out]
            exact trim_twice _
          have E4 : Hid (trimS F.data.toList = []) := trim_blank _ HF.out
          have HZ := Lib.hid (And.intro hz hz2)
          clear hz hz2
          by_cases h0 : 0 < T.size
          case' pos =>
            have N1 := Lib.hid (first_not HTT.out h0)
            have N2 := Lib.hid (last_not HTT.out h0)
            go_wp2_with fail
            refine (blank_no _ _ N1.out).mono ?_
            rintro e w3 ⟨rfl, rfl⟩
            go_wp2_with fail
            refine (blank_no _ _ N2.out).mono ?_
            rintro e w3 ⟨rfl, rfl⟩
            go_wp2_with fail
          case' neg => go_wp2_with fail
          all_goals
            refine (trim_any _ _ HZ.out.1).mono ?_
            rintro e w3 ⟨rfl, rfl⟩
            rw [E1.out, ← HTT.out]
            go_wp2_with fail
            refine (trim_any _ _ HZ.out.2).mono ?_
            rintro e w3 ⟨rfl, rfl⟩
            rw [E2.out, ← HTT.out]
            go_wp2_with fail
            refine (trim_any _ _ (by omega)).mono ?_
            rintro e w3 ⟨rfl, rfl⟩
            rw [E3.out, ← HTT.out]
            go_wp2_with fail
            refine (trim_any _ _ (by omega)).mono ?_
            rintro e w3 ⟨rfl, rfl⟩
            rw [E4.out]
            go_wp2
            go_ret
            exact ⟨rfl, HB.out⟩
end Go.Proofs.YtefgggfakdbhdaaDoor
