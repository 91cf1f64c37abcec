/- Contract of the document's answer for quoted-printable: Decode. -/
import Derived.Test.YtdofnejgfcnnoaaDoorQpH
import Derived.Test.YtdofnejgfcnnoaaDoorQpE
import Derived.Deep.DeepCutAuto
import Derived.Deep.CutBlock
namespace Go.Proofs.YtdofnejgfcnnoaaDoor
open Go Go.RowKit

theorem feedI_ne {l : List UInt8} {k : Nat} (h : k < feedI l) (h' : k < l.length) : l[k] ≠ 10 := by
  have := List.not_of_lt_findIdx (p := (· == (10 : UInt8))) (xs := l) (i := k) h
  intro e
  rw [e] at this
  simp at this
theorem feedI_eq {l : List UInt8} (h : feedI l < l.length) : l[feedI l] = 10 := by
  have := List.findIdx_getElem (p := (· == (10 : UInt8))) (xs := l) (w := h)
  exact beq_iff_eq.1 this
theorem get_str (s : ByteArray) (k : Nat) (h : k < s.size) (h' : k < s.data.toList.length) : s.data.toList[k]'h' = s[k] := by
  have := bytes_get s k h
  rw [List.getElem?_eq_getElem h'] at this
  exact Option.some.inj this
theorem last_str (s : ByteArray) (n : Nat) (hn : n < s.size) (h : s.size = n + 1) : s.data.toList = (s.extract 0 n).data.toList ++ [s[n]] := by
  rw [extract_toList, List.drop_zero, Nat.sub_zero, ← take_snoc s n (by omega), ← h, List.take_of_length_le (by simp)]
theorem str_nil (s : ByteArray) (h : s.size = 0) : s.data.toList = [] := List.eq_nil_of_length_eq_zero (by rw [← bytes_len]; exact h)
theorem str_some (s : ByteArray) (h : 0 < s.size) : s.toList.isEmpty = false := by
  rw [List.isEmpty_eq_false_iff]
  intro h'
  have := (toList_nil_iff s).1 h'
  omega
theorem neqB {a b : UInt8} (h : a ≠ b) : ((a.toNat : Int) != (b.toNat : Int)) = true := bne_yes fun e => h (toNat_eq (by omega))
/-- Where the line is cut. -/
theorem cut_line {P : ByteArray} (F : Nat) (hF : F = feedI P.data.toList) :
    (F = P.size ∧ Hid (P.data.toList = lineL P.data.toList ∧ endL P.data.toList = [] ∧ restL P.data.toList = [])) ∨
    (F < P.size ∧ F = 0 ∧ Hid (lineL P.data.toList = (P.extract 0 F).data.toList ∧ endL P.data.toList = [10] ∧ restL P.data.toList = (P.extract (F + 1) P.size).data.toList)) ∨
    (F < P.size ∧ ∃ q, F = q + 1 ∧ ∃ hq : q < P.size, P[q] ≠ 13 ∧ Hid (lineL P.data.toList = (P.extract 0 F).data.toList ∧ endL P.data.toList = [10] ∧ restL P.data.toList = (P.extract (F + 1) P.size).data.toList)) ∨
    (F < P.size ∧ ∃ q, F = q + 1 ∧ ∃ hq : q < P.size, P[q] = 13 ∧ Hid (lineL P.data.toList = (P.extract 0 q).data.toList ∧ endL P.data.toList = [13, 10] ∧ restL P.data.toList = (P.extract (F + 1) P.size).data.toList)) := by
  have hl := feedI_le P.data.toList
  rw [← hF, ← bytes_len] at hl
  by_cases hf : F < P.size
  · have hfl : feedI P.data.toList < P.data.toList.length := by rw [← hF, ← bytes_len]; exact hf
    have e1 := (lineL_at hfl).1
    have e2 := (endL_at hfl).1
    have e3 : restL P.data.toList = (P.extract (F + 1) P.size).data.toList := by
      rw [extract_toList, List.take_of_length_le (by simp)]
      unfold restL
      rw [hF]
    have hd : P.data.toList.drop F = 10 :: P.data.toList.drop (F + 1) := by
      rw [drop_cons P F hf]
      have := feedI_eq hfl
      rw [get_str P _ (by rw [← hF]; exact hf)] at this
      subst hF
      rw [this]
    have hfd : fromI P.data.toList = if 0 < F ∧ P.data.toList.getD (F - 1) 0 = 13 then F - 1 else F := by rw [hF]; rfl
    have hno : fromI P.data.toList = F → lineL P.data.toList = (P.extract 0 F).data.toList ∧ endL P.data.toList = [10] := by
      intro h
      constructor
      · rw [e1, h, extract_toList]; simp
      · rw [e2, h, hd, ← hF]; simp
    rcases Nat.eq_zero_or_pos F with h | h
    · refine .inr (.inl ⟨hf, h, ?_⟩)
      have := hno (by rw [hfd, if_neg (by omega)])
      exact ⟨this.1, this.2, e3⟩
    · obtain ⟨q, hq⟩ : ∃ q, F = q + 1 := ⟨F - 1, by omega⟩
      have hqs : q < P.size := by omega
      have hg : P.data.toList.getD (F - 1) 0 = P[q] := by
        rw [hq, Nat.add_sub_cancel, List.getD_eq_getElem?_getD, bytes_get P q hqs]
        rfl
      rw [hg] at hfd
      by_cases h13 : P[q] = 13
      · refine .inr (.inr (.inr ⟨hf, q, hq, hqs, h13, ?_⟩))
        rw [if_pos ⟨h, h13⟩] at hfd
        have hfq : fromI P.data.toList = q := by omega
        refine ⟨?_, ?_, e3⟩
        · rw [e1, hfq, extract_toList]; simp
        · rw [e2, hfq, ← hF, drop_cons P q hqs, ← hq, hd, h13, show F + 1 - q = 2 by omega]
          rfl
      · refine .inr (.inr (.inl ⟨hf, q, hq, hqs, h13, ?_⟩))
        have := hno (by rw [hfd, if_neg (fun h => h13 h.2)])
        exact ⟨this.1, this.2, e3⟩
  · left
    have hFs : F = P.size := by omega
    have hn : ¬ feedI P.data.toList < P.data.toList.length := by rw [← hF, ← bytes_len]; exact hf
    have h1 : feedI P.data.toList = P.data.toList.length := by rw [← hF, hFs, bytes_len]
    refine ⟨hFs, ?_⟩
    unfold Hid lineL endL restL
    rw [if_neg hn, if_neg hn, h1]
    simp
theorem txt_nil {t x : List UInt8} (h : trimB x = trimB t) (h0 : x = []) : txtL t = x ∧ softL t = false := by
  subst h0
  have e : trimB t = [] := by rw [← h]; rfl
  have hs : softL t = false := by unfold softL; rw [e]; rfl
  exact ⟨by unfold txtL; rw [hs, e]; rfl, hs⟩
theorem txt_soft {t x : List UInt8} (h : trimB (x ++ [61]) = trimB t) : txtL t = x ∧ softL t = true := by
  have e : trimB t = x ++ [61] := by
    rw [← h]
    apply trimB_keep
    intro y hy
    simp at hy
    subst hy
    rfl
  have hs : softL t = true := by unfold softL; rw [e]; simp
  exact ⟨by unfold txtL; rw [hs, e]; simp, hs⟩
theorem txt_hard {t x : List UInt8} {c : UInt8} (h : trimB (x ++ [c]) = trimB t) (hb : isBl c = false) (h61 : c ≠ 61) : txtL t = x ++ [c] ∧ softL t = false := by
  have e : trimB t = x ++ [c] := by
    rw [← h]
    apply trimB_keep
    intro y hy
    simp at hy
    subst hy
    exact hb
  have hs : softL t = false := by
    unfold softL
    rw [e]
    simpa using h61
  exact ⟨by unfold txtL; rw [hs, e]; rfl, hs⟩
theorem bl_cases (c : UInt8) :
    (((c.toNat : Int) == 32) = true ∧ Hid (isBl c = true)) ∨ (((c.toNat : Int) == 32) = false ∧ ((c.toNat : Int) == 9) = true ∧ Hid (isBl c = true)) ∨
    (((c.toNat : Int) == 32) = false ∧ ((c.toNat : Int) == 9) = false ∧ ((c.toNat : Int) == 61) = true ∧ Hid (c = 61)) ∨
    (((c.toNat : Int) == 32) = false ∧ ((c.toNat : Int) == 9) = false ∧ ((c.toNat : Int) == 61) = false ∧ Hid (isBl c = false ∧ c ≠ 61)) := by
  by_cases h1 : c = 32
  · subst h1; exact .inl ⟨rfl, rfl⟩
  by_cases h2 : c = 9
  · subst h2; exact .inr (.inl ⟨rfl, rfl, rfl⟩)
  by_cases h3 : c = 61
  · subst h3; exact .inr (.inr (.inl ⟨rfl, rfl, rfl, rfl⟩))
  refine .inr (.inr (.inr ⟨?_, ?_, ?_, ?_, h3⟩))
  · exact beq_no fun e => h1 (toNat_eq (by show c.toNat = 32; omega))
  · exact beq_no fun e => h2 (toNat_eq (by show c.toNat = 9; omega))
  · exact beq_no fun e => h3 (toNat_eq (by show c.toNat = 61; omega))
  · unfold isBl; rw [beq_eq_false_iff_ne.2 h1, beq_eq_false_iff_ne.2 h2]; rfl

set_option maxRecDepth 100000 in
set_option maxHeartbeats 8000000 in
theorem refDecode_any (s : ByteArray) (w : World) (hs : s.size ≤ 65536) :
    Calls Tryd.prog 9 #[.string s] w fun e w' => e = .returned (.tuple #[.string ⟨((decQ s.data.toList).getD []).toArray⟩, .bool (decQ s.data.toList).isSome]) ∧ Below w.heap.size w w' := by
  obtain ⟨S, hS⟩ : ∃ S, S = s.data.toList := ⟨_, rfl⟩
  have HS := Lib.hid hS
  rw [← hS]
  clear hS
  go_enter Tryd.func9, Tryd.ntmps9
  go_wp2
  go_loopg [0, 4] s.size (fun g v o wr => ∃ (P O : ByteArray), g = P.size ∧ v = .string P ∧ o = .string O ∧ P.size ≤ 65536 ∧ O.size + P.size ≤ 65536 ∧ Hid (LeftQ S P.data.toList O.data.toList) ∧ Hid (Below w.heap.size w wr))
  case atStart => exact ⟨s, ⟨#[]⟩, rfl, rfl, rfl, hs, by show 0 + s.size ≤ 65536; omega, by rw [HS.out]; exact LeftQ.refl _, Below.refl _ _⟩
  case round =>
    obtain ⟨P, O, rfl, rfl, rfl, hP, hO, HL, HB⟩ := hrel
    by_cases h0 : 0 < P.size
    · have he := str_some P h0
      have H0 : Hid (P.data.toList ≠ []) := ne_nil_of_pos (by rw [← bytes_len]; exact h0)
      have hF := feedI_le P.data.toList
      rw [← bytes_len] at hF
      have HN := Lib.hid (fun (k : Nat) (h : k < feedI P.data.toList) (h' : k < P.size) => (show P[k] ≠ 10 by have := feedI_ne h (by rw [← bytes_len]; exact h'); rw [get_str P k h'] at this; exact this))
      have HQ : Hid ((h : feedI P.data.toList < P.size) → P[feedI P.data.toList] = 10) := fun h => by
        have := feedI_eq (l := P.data.toList) (by rw [← bytes_len]; exact h)
        rw [get_str P _ h] at this
        exact this
      have HPL := Lib.hid (parts_len P.data.toList)
      have HRL := Lib.hid (restL_len _ H0.out)
      obtain ⟨F, hFF⟩ : ∃ F, F = feedI P.data.toList := ⟨_, rfl⟩
      have HC := Lib.hid (cut_line F hFF)
      rw [← hFF] at HN hF HQ
      clear hFF
      go_upto_block 2 with fail
      go_cut [5] (fun i wx => i = .int .i64 F ∧ wr = wx)
      case first =>
        go_wp2_with fail
        go_loop [5] (fun i => ∃ k : Nat, k ≤ F ∧ i = .int .i64 k) (fun i => F - (intOf i).toNat)
        case atStart => exact ⟨0, by omega, rfl⟩
        case round =>
          obtain ⟨k, hk, rfl⟩ := hrel
          by_cases hkF : k < F
          · have hkP : k < P.size := by omega
            have t10 : ((P[k].toNat : Int) != 10) = true := neqB (b := 10) (HN.out k hkF hkP)
            go_wp2
            go_round
            case rel => exact ⟨k + 1, by omega, by go_num⟩
            case measure => simp [intOf]; omega
          · obtain rfl : k = F := by omega
            clear hkF hk
            by_cases hf : k < P.size
            · have t10 : ((P[k].toNat : Int) != 10) = false := by rw [HQ.out hf]; rfl
              go_wp2
              go_meet
              exact ⟨rfl, rfl⟩
            · go_wp2
              go_meet
              exact ⟨rfl, rfl⟩
      case rest =>
        obtain ⟨rfl, rfl⟩ := hcut
        have h63 : P.size ≤ 65536 := hP
        go_upto_if 31 with fail
        go_cut [6, 7, 8] (fun t e r wx => ∃ T E R : ByteArray, t = .string T ∧ e = .string E ∧ r = .string R ∧ wr = wx ∧ Hid (T.data.toList = lineL P.data.toList) ∧ Hid (E.data.toList = endL P.data.toList) ∧ Hid (R.data.toList = restL P.data.toList))
        case first =>
          rcases HC.out with ⟨rfl, HX⟩ | ⟨hf, rfl, HX⟩ | ⟨hf, q, rfl, hq, h13, HX⟩ | ⟨hf, q, rfl, hq, h13, HX⟩
          · go_wp2_with fail
            go_meet
            refine ⟨_, _, _, rfl, rfl, rfl, rfl, ?_, ?_, ?_⟩
            · unfold Hid; rw [← HX.out.1]
            · unfold Hid; rw [HX.out.2.1]
            · unfold Hid; rw [HX.out.2.2]
          · go_wp2_with fail
            go_meet
            refine ⟨_, _, _, rfl, rfl, rfl, rfl, ?_, ?_, ?_⟩
            · unfold Hid; rw [HX.out.1]; try (rw [extract_toList]; simp)
            · unfold Hid; rw [HX.out.2.1]
            · unfold Hid; rw [HX.out.2.2]
          · have t13 : ((P[q].toNat : Int) == 13) = false := beqB_no (b := 13) h13
            go_wp2_with fail
            go_meet
            refine ⟨_, _, _, rfl, rfl, rfl, rfl, ?_, ?_, ?_⟩
            · unfold Hid; rw [HX.out.1]; try (rw [extract_toList]; simp)
            · unfold Hid; rw [HX.out.2.1]
            · unfold Hid; rw [HX.out.2.2]
          · have t13 : ((P[q].toNat : Int) == 13) = true := beqB (b := 13) h13
            go_wp2_with fail
            go_meet
            refine ⟨_, _, _, rfl, rfl, rfl, rfl, ?_, ?_, ?_⟩
            · unfold Hid; rw [HX.out.1]; try (rw [extract_toList]; simp)
            · unfold Hid; rw [HX.out.2.1]
            · unfold Hid; rw [HX.out.2.2]
        case rest =>
          obtain ⟨T, E, R, rfl, rfl, rfl, rfl, HT, HE, HR⟩ := hcut
          have hsz : T.size + E.size + R.size = P.size := by
            have := HPL.out
            rw [← HT.out, ← HE.out, ← HR.out, ← bytes_len, ← bytes_len, ← bytes_len, ← bytes_len] at this
            exact this
          have hrs : R.size < P.size := by
            have := HRL.out
            rw [← HR.out, ← bytes_len, ← bytes_len] at this
            exact this
          clear HC HN HQ HPL HRL hF he
          go_upto_block 4 with fail
          go_cut [6] (fun t wx => ∃ X : ByteArray, t = .string X ∧ wr = wx ∧ X.size ≤ T.size ∧ Hid (trimB X.data.toList = trimB T.data.toList) ∧ (X.size = 0 ∨ ∃ n, X.size = n + 1 ∧ ∃ hn : n < X.size, (((X[n].toNat : Int) == 61) = true ∧ Hid (X[n] = 61)) ∨ (((X[n].toNat : Int) == 61) = false ∧ Hid (isBl X[n] = false ∧ X[n] ≠ 61))))
          case first =>
            go_wp2_with fail
            go_loopg [6] T.size (fun g t wx => ∃ X : ByteArray, t = .string X ∧ wr = wx ∧ X.size = g ∧ X.size ≤ T.size ∧ Hid (trimB X.data.toList = trimB T.data.toList))
            case atStart => exact ⟨T, rfl, rfl, rfl, Nat.le_refl _, rfl⟩
            case round =>
              obtain ⟨X, rfl, rfl, rfl, hX, HX⟩ := hrel
              rcases Nat.eq_zero_or_pos X.size with hx0 | hx0
              · go_wp2
                go_meet
                exact ⟨X, rfl, rfl, hX, HX, .inl hx0⟩
              · obtain ⟨n, hn⟩ : ∃ n, X.size = n + 1 := ⟨X.size - 1, by omega⟩
                have hnX : n < X.size := by omega
                have HNN := Lib.hid hn
                have HLS := Lib.hid (last_str X n hnX hn)
                have hiz : (X.size : Int) - 1 = (n : Int) := by omega
                have HZ := Lib.hid (extract_size' X 0 n (by omega))
                clear hn
                rcases bl_cases X[n] with ⟨q1, HB1⟩ | ⟨q1, q2, HB1⟩ | ⟨q1, q2, q3, HB1⟩ | ⟨q1, q2, q3, HB1⟩
                iterate 2
                  · go_wp2
                    go_roundg (n)
                    case measure => have := HNN.out; omega
                    case rel =>
                      refine ⟨X.extract 0 n, rfl, rfl, by rw [HZ.out]; omega, by rw [HZ.out]; omega, ?_⟩
                      unfold Hid
                      rw [← HX.out, HLS.out, trimB_snoc HB1.out]
                · go_wp2
                  go_meet
                  exact ⟨X, rfl, rfl, hX, HX, .inr ⟨n, HNN.out, hnX, .inl ⟨q3, HB1⟩⟩⟩
                · go_wp2
                  go_meet
                  exact ⟨X, rfl, rfl, hX, HX, .inr ⟨n, HNN.out, hnX, .inr ⟨q3, HB1⟩⟩⟩
          case rest =>
            obtain ⟨X, rfl, rfl, hX, HX, hor⟩ := hcut
            rcases hor with hx0 | ⟨n, hn, hnX, ⟨q3, HQ⟩ | ⟨q3, HQ⟩⟩
            · have HXT := Lib.hid (txt_nil HX.out (str_nil X hx0))
              have HY : Hid (X.data.toList = txtL (lineL P.data.toList)) := by unfold Hid; rw [← HT.out, HXT.out.1]
              have HE2 : Hid (E.data.toList = tailL P.data.toList) := by unfold Hid tailL; rw [← HT.out, HXT.out.2, HE.out]; rfl
              have hY : X.size ≤ T.size := hX
              have hE2 : E.size ≤ E.size := Nat.le_refl _
              clear HX HXT
              have HF := Lib.hid (text_any X wr (by omega))
              rw [HY.out] at HF
              go_wp2_with fail
              with_reducible refine HF.out.mono ?_
              rintro e w1 ⟨rfl, hb1⟩
              have HB1 := Lib.hid (HB.out.trans (hb1.mono HB.out.size))
              clear hb1
              obtain ⟨oo, hoo⟩ : ∃ oo, textS (txtL (lineL P.data.toList)) = oo := ⟨_, rfl⟩
              rw [hoo]
              have HOO := Lib.hid hoo
              clear hoo
              cases oo with
              | none =>
                have HN : Hid (decQ S = none) := HL.out.stop H0.out HOO.out
                go_wp2_with fail
                go_ret2
                exact ⟨by rw [HN.out]; rfl, HB1.out⟩
              | some p =>
                have HLS := Lib.hid (HL.out.step H0.out HOO.out)
                have hp := textS_len _ _ _ (Nat.le_refl _) HOO.out
                rw [← HY.out, ← bytes_len] at hp
                have hG : (⟨p.toArray⟩ : ByteArray).size ≤ T.size := by
                  have : (⟨p.toArray⟩ : ByteArray).size = p.length := by rw [bytes_len]
                  omega
                go_wp2_with fail
                go_roundg (R.size)
                case measure => omega
                case rel =>
                  refine ⟨R, O ++ (⟨p.toArray⟩ ++ E), rfl, rfl, rfl, by omega, by simp only [ByteArray.size_append]; omega, ?_, HB1.out⟩
                  unfold Hid
                  have := HLS.out
                  rw [← HR.out, ← HE2.out] at this
                  have hg : (⟨p.toArray⟩ : ByteArray).data.toList = p := rfl
                  rw [cat_toList, cat_toList, hg, ← List.append_assoc]
                  exact this
            · have HXT : Hid (txtL T.data.toList = (X.extract 0 n).data.toList ∧ softL T.data.toList = true) := by
                have h := HX.out
                rw [last_str X n hnX hn, HQ.out] at h
                exact txt_soft h
              have hz := extract_size' X 0 n (by omega)
              have hiz : (X.size : Int) - 1 = (n : Int) := by omega
              have hx1 : 0 < X.size := by omega
              have HY : Hid ((X.extract 0 n).data.toList = txtL (lineL P.data.toList)) := by unfold Hid; rw [← HT.out, HXT.out.1]
              have HE2 : Hid ((⟨#[]⟩ : ByteArray).data.toList = tailL P.data.toList) := by unfold Hid tailL; rw [← HT.out, HXT.out.2]; rfl
              have hY : (X.extract 0 n).size ≤ T.size := by omega
              have hE2 : (⟨#[]⟩ : ByteArray).size ≤ E.size := Nat.zero_le _
              have HNN := Lib.hid (And.intro hn hz)
              clear HX HXT hn hz
              have HF := Lib.hid (text_any (X.extract 0 n) wr (by omega))
              rw [HY.out] at HF
              go_wp2_with fail
              with_reducible refine HF.out.mono ?_
              rintro e w1 ⟨rfl, hb1⟩
              have HB1 := Lib.hid (HB.out.trans (hb1.mono HB.out.size))
              clear hb1
              obtain ⟨oo, hoo⟩ : ∃ oo, textS (txtL (lineL P.data.toList)) = oo := ⟨_, rfl⟩
              rw [hoo]
              have HOO := Lib.hid hoo
              clear hoo
              cases oo with
              | none =>
                have HN : Hid (decQ S = none) := HL.out.stop H0.out HOO.out
                go_wp2_with fail
                go_ret2
                exact ⟨by rw [HN.out]; rfl, HB1.out⟩
              | some p =>
                have HLS := Lib.hid (HL.out.step H0.out HOO.out)
                have hp := textS_len _ _ _ (Nat.le_refl _) HOO.out
                rw [← HY.out, ← bytes_len] at hp
                have hG : (⟨p.toArray⟩ : ByteArray).size ≤ T.size := by
                  have : (⟨p.toArray⟩ : ByteArray).size = p.length := by rw [bytes_len]
                  omega
                go_wp2_with fail
                go_roundg (R.size)
                case measure => omega
                case rel =>
                  refine ⟨R, O ++ (⟨p.toArray⟩ ++ (⟨#[]⟩ : ByteArray)), rfl, rfl, rfl, by omega, by simp only [ByteArray.size_append]; omega, ?_, HB1.out⟩
                  unfold Hid
                  have := HLS.out
                  rw [← HR.out, ← HE2.out] at this
                  have hg : (⟨p.toArray⟩ : ByteArray).data.toList = p := rfl
                  rw [cat_toList, cat_toList, hg, ← List.append_assoc]
                  exact this
            · have HXT : Hid (txtL T.data.toList = X.data.toList ∧ softL T.data.toList = false) := by
                have h := HX.out
                rw [last_str X n hnX hn] at h
                have := txt_hard h HQ.out.1 HQ.out.2
                rw [← last_str X n hnX hn] at this
                exact this
              have hiz : (X.size : Int) - 1 = (n : Int) := by omega
              have hx1 : 0 < X.size := by omega
              have HY : Hid (X.data.toList = txtL (lineL P.data.toList)) := by unfold Hid; rw [← HT.out, HXT.out.1]
              have HE2 : Hid (E.data.toList = tailL P.data.toList) := by unfold Hid tailL; rw [← HT.out, HXT.out.2, HE.out]; rfl
              have hY : X.size ≤ T.size := hX
              have hE2 : E.size ≤ E.size := Nat.le_refl _
              have HNN := Lib.hid hn
              clear HX HXT hn
              have HF := Lib.hid (text_any X wr (by omega))
              rw [HY.out] at HF
              go_wp2_with fail
              with_reducible refine HF.out.mono ?_
              rintro e w1 ⟨rfl, hb1⟩
              have HB1 := Lib.hid (HB.out.trans (hb1.mono HB.out.size))
              clear hb1
              obtain ⟨oo, hoo⟩ : ∃ oo, textS (txtL (lineL P.data.toList)) = oo := ⟨_, rfl⟩
              rw [hoo]
              have HOO := Lib.hid hoo
              clear hoo
              cases oo with
              | none =>
                have HN : Hid (decQ S = none) := HL.out.stop H0.out HOO.out
                go_wp2_with fail
                go_ret2
                exact ⟨by rw [HN.out]; rfl, HB1.out⟩
              | some p =>
                have HLS := Lib.hid (HL.out.step H0.out HOO.out)
                have hp := textS_len _ _ _ (Nat.le_refl _) HOO.out
                rw [← HY.out, ← bytes_len] at hp
                have hG : (⟨p.toArray⟩ : ByteArray).size ≤ T.size := by
                  have : (⟨p.toArray⟩ : ByteArray).size = p.length := by rw [bytes_len]
                  omega
                go_wp2_with fail
                go_roundg (R.size)
                case measure => omega
                case rel =>
                  refine ⟨R, O ++ (⟨p.toArray⟩ ++ E), rfl, rfl, rfl, by omega, by simp only [ByteArray.size_append]; omega, ?_, HB1.out⟩
                  unfold Hid
                  have := HLS.out
                  rw [← HR.out, ← HE2.out] at this
                  have hg : (⟨p.toArray⟩ : ByteArray).data.toList = p := rfl
                  rw [cat_toList, cat_toList, hg, ← List.append_assoc]
                  exact this
    · have hz : P.size = 0 := by omega
      have hnil := str_nil P hz
      have he : P.toList.isEmpty = true := by rw [List.isEmpty_iff]; exact (toList_nil_iff P).2 hz
      have HX : Hid (decQ S = some O.data.toList) := by have := HL.out; rw [hnil] at this; exact this.done
      clear hnil hz h0
      go_wp2
      go_ret2
      exact ⟨by rw [HX.out]; rfl, HB.out⟩
end Go.Proofs.YtdofnejgfcnnoaaDoor
