/- Contracts of package params: opened. -/
import Derived.Test.YtcnihodikpcfkaaGreatDoorParL
import Derived.Test.YtcnihodikpcfkaaGreatDoorParI
import Derived.Test.YtcnihodikpcfkaaGreatDoorChars6
namespace Go.Proofs.YtcnihodikpcfkaaGreatDoor
open Go Go.RowKit

/-- What the variables hold. -/
def errAt (w : World) : Prop := ∃ te pe, w.cell? ⟨1, 0, none⟩ = some (.iface te pe)
def env (w : World) : Prop := tab w ∧ errAt w
theorem errAt.lt {w : World} (h : errAt w) : 1 < w.heap.size := by
  obtain ⟨te, pe, h⟩ := h
  exact World.block_lt_of_cell? _ _ h
theorem env.below {w w' : World} (h : env w) (hb : Below w.heap.size w w') : env w' := by
  refine ⟨h.1.below hb, ?_⟩
  have hl := h.2.lt
  obtain ⟨te, pe, h2⟩ := h.2
  exact ⟨te, pe, (hb.cell (p := ⟨1, 0, none⟩) hl).trans h2⟩

def pErr (e : Ending) : Prop := ∃ N, e = .returned (.tuple #[.int .u64 0, .iface 171 (.pointer (some ⟨N, 0, none⟩))])
set_option maxRecDepth 100000 in
theorem parseUint_any (s : ByteArray) (w : World) (hs : s.size = 2) (he : errAt w) :
    Calls Tryz.prog 85 #[.string s, .int .i64 16, .int .i64 8] w fun e w' => (match hexs 0 s.data.toList with | some n => e = .returned (.tuple #[.int .u64 (n : Int), .nilIface]) | none => pErr e) ∧ Below w.heap.size w w' := by
  have HP := Lib.hid (fun W => parse16_any s W hs)
  have hl := he.lt
  have HT := Lib.hid (fun fn ev W hv hev => Tryz.strconv_toError_syntax fn s 16 8 ev W (by omega) hv hev)
  have HE := Lib.hid he
  clear he hs
  cases hx : hexs 0 s.data.toList with
  | some n =>
    rw [hx] at HP
    unfold uintV at HP
    clear hx
    go_enter Tryz.func85, Tryz.ntmps85
    go_wp2_with fail
    with_reducible refine (HP.out _).mono ?_
    rintro e w1 ⟨rfl, hb1⟩
    go_wp2_with fail
    go_ret2
    exact ⟨rfl, hb1⟩
  | none =>
    rw [hx] at HP
    unfold uintV errS at HP
    clear hx
    go_enter Tryz.func85, Tryz.ntmps85
    go_wp2_with fail
    with_reducible refine (HP.out _).mono ?_
    rintro e w1 ⟨rfl, hb1⟩
    have HB1 := Lib.hid hb1
    obtain ⟨te, pe, hc⟩ := HE.out
    have HC := Lib.hid ((hb1.cell (p := ⟨1, 0, none⟩) hl).trans hc)
    clear hb1 hc
    go_wp2_with fail
    with_reducible refine (HT.out _ _ w1 HC.out (.inr ⟨te, pe, rfl⟩)).mono ?_
    rintro e w2 ⟨N, rfl, _, _, hb2⟩
    have HB2 := Lib.hid (HB1.out.trans (hb2.mono HB1.out.size))
    clear hb2
    go_wp2_with fail
    go_ret2
    exact ⟨⟨N, rfl⟩, HB2.out⟩

theorem codeL_short {l : List UInt8} (h : l.length < 3) : codeL l = none := by
  match l, h with
  | [], _ => rfl
  | [_], _ => rfl
  | [_, _], _ => rfl
theorem codeL_no {c : UInt8} {l : List UInt8} (h : c ≠ 37) : codeL (c :: l) = none := by
  match l with
  | [] => rfl
  | [_] => rfl
  | a :: b :: r => show (if c = 37 then _ else none) = none; rw [if_neg h]
theorem codeL_yes (a b : UInt8) (r : List UInt8) : codeL (37 :: a :: b :: r) = (hexs 0 [a, b]).map UInt8.ofNat := by
  show (if (37 : UInt8) = 37 then _ else none) = _
  rw [if_pos rfl]
  unfold hexs
  cases hexV a with
  | none => rfl
  | some x =>
    show _ = Option.map _ (hexs (16 * 0 + x) [b])
    unfold hexs
    cases hexV b with
    | none => rfl
    | some y =>
      show _ = Option.map _ (hexs (16 * (16 * 0 + x) + y) [])
      unfold hexs
      rw [Nat.mul_zero, Nat.zero_add]
      rfl
theorem hexs_lt (a b : UInt8) (n : Nat) (h : hexs 0 [a, b] = some n) : n < 256 := by
  unfold hexs at h
  cases ha : hexV a with
  | none => rw [ha] at h; cases h
  | some x =>
    rw [ha] at h
    have hx := hexV_lt ha
    simp only at h
    unfold hexs at h
    cases hb : hexV b with
    | none => rw [hb] at h; cases h
    | some y =>
      rw [hb] at h
      have hy := hexV_lt hb
      simp only at h
      unfold hexs at h
      cases h
      omega
def codeIs (o : Option UInt8) (x : Int) (b : Bool) : Prop := match o with
  | some c => x = (c.toNat : Int) ∧ b = true
  | none => b = false
set_option maxRecDepth 100000 in
set_option maxHeartbeats 1000000 in
theorem coded_any (s : ByteArray) (w : World) (hs : s.size ≤ 1000000000) (he : errAt w) :
    Calls Tryz.prog 67 #[.string s] w fun e w' => ∃ x b, e = .returned (.tuple #[.int .u8 x, .bool b]) ∧ codeIs (codeL s.data.toList) x b ∧ Below w.heap.size w w' := by
  by_cases h3 : s.size < 3
  · have h3i : (s.size : Int) < 3 := by omega
    have HN : Hid (codeL s.data.toList = none) := codeL_short (by rw [len_toList]; exact h3)
    go_enter Tryz.func67, Tryz.ntmps67
    go_wp2_with fail
    go_ret2
    exact ⟨0, false, rfl, by rw [HN.out]; rfl, Below.refl _ _⟩
  · have h3i : ¬ (s.size : Int) < 3 := by omega
    have h0 : 0 < s.size := by omega
    have HD := Lib.hid (drop_cons s 0 h0)
    by_cases h37 : s[0].toNat = 37
    · have b1 : (((s[0].toNat : Nat) : Int) != 37) = false := bne_no (by omega)
      have HC : Hid (s[0] = 37) := toNat_eq h37
      have h1 : 1 < s.size := by omega
      have h2 : 2 < s.size := by omega
      have HD1 := Lib.hid (drop_cons s 1 h1)
      have HD2 := Lib.hid (drop_cons s 2 h2)
      obtain ⟨t, ht⟩ : ∃ t, t = s.extract 1 3 := ⟨_, rfl⟩
      have ht2 : t.data.toList = [s[1], s[2]] := by
        rw [ht, extract_toList, HD1.out, HD2.out]
        rfl
      have hts : t.size = 2 := by
        have := congrArg List.length ht2
        rw [len_toList] at this
        exact this
      have HP := Lib.hid (fun W h => parseUint_any t W hts h)
      have HE : Hid (codeL s.data.toList = (hexs 0 t.data.toList).map UInt8.ofNat) := by
        unfold Hid
        have e : s.data.toList = (37 : UInt8) :: s[1] :: s[2] :: s.data.toList.drop 3 := by
          have := HD.out
          rw [List.drop_zero] at this
          rw [this, HD1.out, HD2.out, HC.out]
          rfl
        rw [ht2, ← codeL_yes s[1] s[2] (s.data.toList.drop 3), ← e]
      have HLt : Hid (∀ n, hexs 0 t.data.toList = some n → n < 256) := fun n h => hexs_lt s[1] s[2] n (by rw [← ht2]; exact h)
      have HEr := Lib.hid he
      have HT : Hid (s.extract 1 3 = t) := ht.symm
      clear h37 ht ht2 hts he
      cases hx : hexs 0 t.data.toList with
      | some n =>
        rw [hx] at HP HE
        have hn : n < 256 := HLt.out n hx
        have HX : Hid (((UInt8.ofNat n).toNat : Int) = (n : Int)) := by unfold Hid; have := byteN_toNat n hn; unfold byteN at this; rw [this]
        clear hx HLt
        go_enter Tryz.func67, Tryz.ntmps67
        go_wp2_with fail
        rw [HT.out]
        with_reducible refine (HP.out _ HEr.out).mono ?_
        rintro e w1 ⟨rfl, hb1⟩
        have HB1 := Lib.hid hb1
        clear hb1
        go_wp2_with fail
        refine wp_region_below (by kernel_rfl) (by kernel_rfl) ?_
        repeat (go_big_quiet_step (fail))
        refine wpQuiet_nil ?_
        rintro W2 ⟨⟨_, hb2⟩, rfl⟩
        go_wp2_with fail
        go_ret2
        exact ⟨(n : Int), true, rfl, by rw [HE.out]; exact ⟨HX.out.symm, rfl⟩, HB1.out.trans (hb2.mono HB1.out.size)⟩
      | none =>
        rw [hx] at HP HE
        clear hx HLt
        go_enter Tryz.func67, Tryz.ntmps67
        go_wp2_with fail
        rw [HT.out]
        with_reducible refine (HP.out _ HEr.out).mono ?_
        rintro e w1 ⟨⟨N, rfl⟩, hb1⟩
        have HB1 := Lib.hid hb1
        clear hb1
        go_wp2_with fail
        refine wp_region_below (by kernel_rfl) (by kernel_rfl) ?_
        repeat (go_big_quiet_step (fail))
        refine wpQuiet_nil ?_
        rintro W2 ⟨⟨_, hb2⟩, rfl⟩
        go_wp2_with fail
        go_ret2
        exact ⟨0, false, rfl, by rw [HE.out]; rfl, HB1.out.trans (hb2.mono HB1.out.size)⟩
    · have b1 : (((s[0].toNat : Nat) : Int) != 37) = true := bne_yes (by omega)
      have HN : Hid (codeL s.data.toList = none) := by
        unfold Hid
        have := HD.out
        rw [List.drop_zero] at this
        rw [this]
        exact codeL_no (fun e => h37 (by rw [e]; rfl))
      go_enter Tryz.func67, Tryz.ntmps67
      go_wp2_with fail
      go_ret2
      exact ⟨0, .inl ⟨rfl, by rw [HN.out]; rfl, Below.refl _ _⟩⟩

theorem openL_nil (n : Nat) : openL n [] = [] := by cases n <;> rfl
theorem openL_code {n : Nat} {c : UInt8} {l : List UInt8} {x : UInt8} (h : codeL (c :: l) = some x) : openL (n + 1) (c :: l) = x :: openL n (l.drop 2) := by
  show (match codeL (c :: l) with | some x => x :: openL n (l.drop 2) | none => c :: openL n l) = _
  rw [h]
theorem openL_byte {n : Nat} {c : UInt8} {l : List UInt8} (h : codeL (c :: l) = none) : openL (n + 1) (c :: l) = c :: openL n l := by
  show (match codeL (c :: l) with | some x => x :: openL n (l.drop 2) | none => c :: openL n l) = _
  rw [h]
theorem codeL_len {l : List UInt8} {x : UInt8} (h : codeL l = some x) : 3 ≤ l.length := by
  match l, h with
  | _ :: _ :: _ :: r, _ => simp

set_option maxRecDepth 100000 in
set_option maxHeartbeats 2000000 in
theorem opened_any (s : ByteArray) (w : World) (hl : s.size ≤ 1000000000) (he : errAt w) :
    Calls Tryz.prog 51 #[.string s] w fun e w' => e = .returned (.string ⟨(opn s.data.toList).toArray⟩) ∧ Below w.heap.size w w' := by
  have HWB := Lib.hid (fun bs (c : UInt8) W h hlen hB => Tryz.Builder_WriteByte_k w.heap.size w.heap.size bs (c.toNat : Int) W h hlen hB)
  have HSt := Lib.hid (fun l W h hB => Tryz.Builder_String_any_k w.heap.size w.heap.size l W h hB)
  have HCo := Lib.hid (fun t W ht h => coded_any t W ht h)
  have hlt1 := he.lt
  have HE := Lib.hid he
  have HEr : Hid (∀ W, Below w.heap.size w W → errAt W) := fun W hb => by
    obtain ⟨te, pe, h⟩ := HE.out
    exact ⟨te, pe, (hb.cell (p := ⟨1, 0, none⟩) hlt1).trans h⟩
  clear he hlt1
  go_enter Tryz.func51, Tryz.ntmps51
  go_wp2_with fail
  go_loopg [4] s.size (fun g v4 wr => ∃ (j f : Nat) (acc : List UInt8), g = s.size - j ∧ j ≤ s.size ∧ v4 = .int .i64 (j : Int) ∧ acc.length ≤ j ∧ s.size - j ≤ f ∧ Hid (Lib.IsBuilderF 98 5 w.heap.size w.heap.size (Lib.byteCells acc) wr) ∧ Hid (Below w.heap.size w wr) ∧
    Hid (opn s.data.toList = acc ++ openL f (s.data.toList.drop j)))
  case atStart => exact ⟨0, s.data.toList.length, [], by omega, by omega, rfl, by simp, by rw [len_toList]; omega, builder_new w, (Below.refl _ _).alloc (Nat.le_refl _) _, rfl⟩
  case round =>
    obtain ⟨j, f, acc, rfl, hj, rfl, hal, hf, HBu, HB, HS⟩ := hrel
    by_cases hlt : j < s.size
    · obtain ⟨f', rfl⟩ : ∃ f', f = f' + 1 := ⟨f - 1, by omega⟩
      have HD := Lib.hid (drop_cons s j hlt)
      rw [HD.out] at HS
      obtain ⟨t, ht⟩ : ∃ t, t = s.extract j s.size := ⟨_, rfl⟩
      have ht2 : t.data.toList = s[j] :: s.data.toList.drop (j + 1) := by
        rw [ht, extract_toList, ← HD.out]
        exact List.take_of_length_le (by simp)
      have hts : t.size ≤ 1000000000 := by
        have := congrArg List.length ht2
        rw [len_toList] at this
        simp at this
        omega
      have HT : Hid (s.extract j s.size = t) := ht.symm
      have HC := Lib.hid (HCo.out t wr hts (HEr.out wr HB.out))
      rw [ht2] at HC
      clear ht ht2 hts
      cases hx : codeL (s[j] :: s.data.toList.drop (j + 1)) with
      | some x =>
        rw [hx] at HC
        have h3 : j + 3 ≤ s.size := by
          have := codeL_len hx
          simp at this
          omega
        have HO : Hid (openL (f' + 1) (s[j] :: s.data.toList.drop (j + 1)) = x :: openL f' (s.data.toList.drop (j + 3))) := by
          unfold Hid
          rw [openL_code hx, List.drop_drop]
        clear hx
        go_wp2_with fail
        rw [HT.out]
        with_reducible refine HC.out.mono ?_
        rintro e w1 ⟨x', b, rfl, hci, hb1⟩
        obtain ⟨rfl, rfl⟩ := hci
        have HB1 := Lib.hid (HB.out.trans (hb1.mono HB.out.size))
        have HBu1 := Lib.hid (builder_below HBu.out hb1)
        have HW1 := Lib.hid (HWB.out (Lib.byteCells acc) x w1 HBu1.out (by rw [byteCells_len]; omega) HB1.out.size)
        clear hb1
        go_wp2_with fail
        with_reducible refine HW1.out.mono ?_
        rintro e w2 ⟨rfl, hbu2, hb2, _⟩
        have HB2 := Lib.hid (HB1.out.trans hb2)
        have HBu2 := Lib.hid (Or.inr hbu2 : Lib.IsBuilderF 98 5 w.heap.size w.heap.size _ w2)
        clear hb2 hbu2
        go_wp2_with fail
        go_roundg (s.size - (j + 3))
        case measure => omega
        case rel =>
          refine ⟨j + 3, f', acc ++ [x], rfl, by omega, by go_num, by simp; omega, by omega, ?_, HB2.out, ?_⟩
          · unfold Hid
            rw [byteCells_app, byteCells_one]
            exact HBu2.out
          · unfold Hid
            rw [HS.out, HO.out, List.append_assoc]
            rfl
      | none =>
        rw [hx] at HC
        have HO : Hid (openL (f' + 1) (s[j] :: s.data.toList.drop (j + 1)) = s[j] :: openL f' (s.data.toList.drop (j + 1))) := openL_byte hx
        clear hx
        go_wp2_with fail
        rw [HT.out]
        with_reducible refine HC.out.mono ?_
        rintro e w1 ⟨x', b, rfl, hci, hb1⟩
        obtain rfl : b = false := hci
        have HB1 := Lib.hid (HB.out.trans (hb1.mono HB.out.size))
        have HBu1 := Lib.hid (builder_below HBu.out hb1)
        have HW1 := Lib.hid (HWB.out (Lib.byteCells acc) s[j] w1 HBu1.out (by rw [byteCells_len]; omega) HB1.out.size)
        clear hb1
        go_wp2_with fail
        with_reducible refine HW1.out.mono ?_
        rintro e w2 ⟨rfl, hbu2, hb2, _⟩
        have HB2 := Lib.hid (HB1.out.trans hb2)
        have HBu2 := Lib.hid (Or.inr hbu2 : Lib.IsBuilderF 98 5 w.heap.size w.heap.size _ w2)
        clear hb2 hbu2
        go_wp2_with fail
        go_roundg (s.size - (j + 1))
        case measure => omega
        case rel =>
          refine ⟨j + 1, f', acc ++ [s[j]], rfl, by omega, by go_num, by simp; omega, by omega, ?_, HB2.out, ?_⟩
          · unfold Hid
            rw [byteCells_app, byteCells_one]
            exact HBu2.out
          · unfold Hid
            rw [HS.out, HO.out, List.append_assoc]
            rfl
    · have HEd : Hid (s.data.toList.drop j = []) := List.drop_eq_nil_of_le (by simp; omega)
      have HSt1 := Lib.hid (HSt.out acc wr HBu.out HB.out.size)
      go_wp2_with fail
      with_reducible refine HSt1.out.mono ?_
      rintro e w1 ⟨rfl, _, hb1, _⟩
      have HB1 := Lib.hid (HB.out.trans hb1)
      clear hb1
      go_wp2_with fail
      go_ret
      refine ⟨?_, HB1.out⟩
      rw [HS.out, HEd.out, openL_nil, List.append_nil]
      rfl
end Go.Proofs.YtcnihodikpcfkaaGreatDoor
