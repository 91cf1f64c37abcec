/- Contracts of the document's layer 7: a value that is opened. -/
import Derived.Test.YtcnihodikpcfkaaGreatDoorPbF
import Derived.Deep.AppendLies
import Derived.Deep.RegionLaw
import Derived.Deep.DeepCutAuto
import Derived.Deep.CutBlock
namespace Go.Proofs.YtcnihodikpcfkaaGreatDoor
open Go Go.RowKit

theorem digV_hex {c : UInt8} {n : Nat} (h : hexV c = some n) : digV c = n := by unfold digV; rw [h]; rfl
theorem digV_none {c : UInt8} (h : hexV c = none) : digV c = 16 := by unfold digV; rw [h]; rfl
theorem digV_lt {c : UInt8} : digV c < 16 ↔ (hexV c).isSome = true := by
  unfold digV
  cases h : hexV c with
  | none => simp
  | some n => simp; exact hexV_lt h
/-- What a sign and two digits tell. -/
theorem code_iff (c a b : UInt8) (r : List UInt8) : (codeL (c :: a :: b :: r)).isSome = decide (c = 37 ∧ digV a < 16 ∧ digV b < 16) := by
  by_cases h : c = 37
  · subst h
    rw [codeL_yes]
    unfold hexs
    cases ha : hexV a with
    | none => simp [digV_none ha]
    | some x =>
      show (Option.map _ (hexs (16 * 0 + x) [b])).isSome = _
      unfold hexs
      have := hexV_lt ha
      cases hb : hexV b with
      | none => simp [digV_none hb]
      | some y =>
        have := hexV_lt hb
        simp [digV_hex ha, digV_hex hb, hexs]
        omega
  · rw [codeL_no h]
    simp [h]
theorem code_val {a b : UInt8} {r : List UInt8} (ha : digV a < 16) (hb : digV b < 16) : codeL (37 :: a :: b :: r) = some (byteN (16 * digV a + digV b)) := by
  obtain ⟨x, hx⟩ := Option.isSome_iff_exists.1 (digV_lt.1 ha)
  obtain ⟨y, hy⟩ := Option.isSome_iff_exists.1 (digV_lt.1 hb)
  rw [codeL_yes, digV_hex hx, digV_hex hy]
  unfold hexs
  rw [hx]
  show Option.map _ (hexs (16 * 0 + x) [b]) = _
  unfold hexs
  rw [hy]
  show Option.map _ (hexs (16 * (16 * 0 + x) + y) []) = _
  unfold hexs
  rw [Nat.mul_zero, Nat.zero_add]
  rfl

set_option maxRecDepth 100000 in
set_option maxHeartbeats 4000000 in
theorem refOpen_any (s : ByteArray) (w : World) (hl : s.size ≤ 1000000000) :
    Calls Tryz.prog 40 #[.string s] w fun e w' => e = .returned (.string ⟨(opn s.data.toList).toArray⟩) ∧ Below w.heap.size w w' := by
  obtain ⟨i0, hi, hz0, hz1, hz2⟩ := info_parts Tryz.infoB
  have HDg := Lib.hid (fun c W => refDigit_any c W)
  go_enter Tryz.func40, Tryz.ntmps40
  go_wp2_with fail
  go_loopg [3, 4] s.size (fun g o v4 wr => ∃ (j f : Nat) (acc : List UInt8), g = s.size - j ∧ j ≤ s.size ∧ v4 = .int .i64 (j : Int) ∧ acc.length ≤ j ∧ s.size - j ≤ f ∧ wr.ownsRow w.heap.size 5 1 o acc.length (acc.map byteV) ∧ Hid (Below w.heap.size w wr) ∧
    Hid (opn s.data.toList = acc ++ openL f (s.data.toList.drop j)))
  case atStart => exact ⟨0, s.data.toList.length, [], by omega, by omega, rfl, by simp, by rw [len_toList]; omega, World.ownsRow_nil _ _ _ _, Below.refl _ _, rfl⟩
  case round =>
    obtain ⟨j, f, acc, rfl, hj, rfl, hal, hf, hown, HB, HS⟩ := hrel
    have HO := Lib.hid hown
    clear hown
    by_cases hlt : j < s.size
    · obtain ⟨f', rfl⟩ : ∃ f', f = f' + 1 := ⟨f - 1, by omega⟩
      have HD := Lib.hid (drop_cons s j hlt)
      rw [HD.out] at HS
      obtain ⟨c, hc⟩ : ∃ c, c = s[j] := ⟨_, rfl⟩
      rw [← hc] at HS HD
      have hct := c.toNat_lt
      by_cases h37 : c.toNat = 37
      · have b1 : ((c.toNat : Int) == 37) = true := beq_yes (by omega)
        have HC37 : Hid (c = 37) := toNat_eq h37
        by_cases h2 : j + 2 < s.size
        · have h1 : j + 1 < s.size := by omega
          have b2 : (j : Int) + 2 < (s.size : Int) := by omega
          have b2' : decide ((j : Int) + 2 < (s.size : Int)) = true := decide_eq_true b2
          have b3 : (j : Int) + 1 < (s.size : Int) := by omega
          have HD1 := Lib.hid (drop_cons s (j + 1) h1)
          have HD2 := Lib.hid (drop_cons s (j + 2) h2)
          obtain ⟨c1, hc1⟩ : ∃ c1, c1 = s[j + 1] := ⟨_, rfl⟩
          obtain ⟨c2, hc2⟩ : ∃ c2, c2 = s[j + 2] := ⟨_, rfl⟩
          rw [← hc1] at HD1
          rw [← hc2] at HD2
          have hx1 := hc1.symm
          have hx2 := hc2.symm
          have hx0 := hc.symm
          clear hc1 hc2 hc h37
          by_cases d1 : digV c1 < 16
          · have d1i : (digV c1 : Int) < 16 := by omega
            have d1b : decide ((digV c1 : Int) < 16) = true := decide_eq_true d1i
            by_cases d2 : digV c2 < 16
            · have d2i : (digV c2 : Int) < 16 := by omega
              have d2b : decide ((digV c2 : Int) < 16) = true := decide_eq_true d2i
              have HCY : Hid (openL (f' + 1) (c :: s.data.toList.drop (j + 1)) = byteN (16 * digV c1 + digV c2) :: openL f' (s.data.toList.drop (j + 3))) := by
                unfold Hid
                rw [HC37.out, HD1.out, HD2.out, openL_code (code_val d1 d2)]
                rfl
              have dn1 : digV c1 < 16 := d1
              obtain ⟨D1, hD1⟩ : ∃ D1, D1 = digV c1 := ⟨_, rfl⟩
              obtain ⟨D2, hD2⟩ : ∃ D2, D2 = digV c2 := ⟨_, rfl⟩
              have HDa : Hid (∀ W, Calls Tryz.prog 58 #[.int .u8 (c1.toNat : Int)] W fun e w' => e = .returned (.int .i64 (D1 : Int)) ∧ W = w') := fun W => by rw [hD1]; exact HDg.out c1 W
              have HDb : Hid (∀ W, Calls Tryz.prog 58 #[.int .u8 (c2.toNat : Int)] W fun e w' => e = .returned (.int .i64 (D2 : Int)) ∧ W = w') := fun W => by rw [hD2]; exact HDg.out c2 W
              rw [← hD1, ← hD2] at HCY
              rw [← hD1] at d1 d1i d1b
              rw [← hD2] at d2 d2i d2b
              have hz : (16 : Int) * (D1 : Int) + (D2 : Int) = ((16 * D1 + D2 : Nat) : Int) := by omega
              have hz256 : 16 * D1 + D2 < 256 := by omega
              obtain ⟨N, hN⟩ : ∃ N, N = 16 * D1 + D2 := ⟨_, rfl⟩
              rw [← hN] at hz hz256 HCY
              have HNb : Hid (byteV (byteN N) = .int .u8 (N : Int)) := by unfold Hid byteV; rw [byteN_toNat N hz256]
              have hw1 : IntKind.i64.wrap ((j : Int) + 1) = (j : Int) + 1 := IntWalk.i64_in _ (by omega)
              have hw2 : IntKind.i64.wrap ((j : Int) + 2) = (j : Int) + 2 := IntWalk.i64_in _ (by omega)
              have hw3 : IntKind.i64.wrap ((16 : Int) * (D1 : Int)) = (16 : Int) * (D1 : Int) := IntWalk.i64_in _ (by omega)
              have hw4 : IntKind.i64.wrap (N : Int) = (N : Int) := IntWalk.i64_in _ (by omega)
              have hw5 : IntKind.u8.wrap (N : Int) = (N : Int) := wraps_u8 _ (by omega) (by omega)
              have hp1 : (0 : Int) ≤ (j : Int) + 1 := by omega
              have ht1 : ((j : Int) + 1).toNat = j + 1 := by omega
              have ht2 : ((j : Int) + 2).toNat = j + 2 := by omega
              have hp2 : (0 : Int) ≤ (j : Int) + 2 := by omega
              clear hD1 hD2 hN dn1 HDg
              go_wp2_with fail
              with_reducible refine (HDa.out _).mono ?_
              rintro e w1 ⟨rfl, rfl⟩
              go_wp2_with fail
              with_reducible refine (HDb.out _).mono ?_
              rintro e w1 ⟨rfl, rfl⟩
              go_wp2_with fail
              go_region_law ((first | (refine step_append_lies _ (by exact rfl) _ _ 44 (by exact rfl) w.heap.size 5 i0 (.int .u8 0) 1 1 Tryz.underlying44 hi hz0 hz1 hz2 rfl (by decide) _ _ _ (by exact rfl) (ownsRow_below (HO.out.alloc _) (Below.refl _ _).drew) ⟨wr.heap.size, 0, none⟩ 1 1 [byteV (byteN N)] (by exact rfl) rfl (by rw [HNb.out]; exact cell_one_new wr _ _) (news_one [byteN N]) (by decide) (by unfold maxLen; omega) (by omega) ((HB.out.alloc HB.out.size _).drew).size _ rfl ?_; intro g2 cap2 w2 hown2 hgrow2 _ _) | (go_simp; go_at_call 58; with_reducible refine (HDa.out _).mono ?_; rintro e w1 ⟨rfl, rfl⟩) | (go_simp; go_at_call 58; with_reducible refine (HDb.out _).mono ?_; rintro e w1 ⟨rfl, rfl⟩)))
              all_goals
                have HO2 := Lib.hid hown2
                have HB2 : Hid (Below w.heap.size w w2) := ((HB.out.alloc HB.out.size _).drew).grown hgrow2 ((HB.out.alloc HB.out.size _).drew).size (fun q hq => (HO.out.lt q hq).1)
                clear hown2 hgrow2
                go_wp2
                go_roundg (s.size - (j + 3))
                case measure => omega
                case rel =>
                  refine ⟨j + 3, f', acc ++ [byteN N], rfl, by omega, by go_num, by simp; omega, by omega, own_cast HO2.out (by simp) (by simp), HB2.out, ?_⟩
                  unfold Hid
                  rw [HS.out, HCY.out, List.append_assoc]
                  rfl
            · have d2i : ¬ (digV c2 : Int) < 16 := by omega
              have d2b : decide ((digV c2 : Int) < 16) = false := decide_eq_false d2i
              have HCN : Hid (codeL (c :: s.data.toList.drop (j + 1)) = none) := by
                unfold Hid
                rw [HD1.out, HD2.out]
                exact Option.isNone_iff_eq_none.1 (by rw [← Option.not_isSome, code_iff]; simp [d2])
              go_wp2_with fail

              with_reducible refine (HDg.out _ _).mono ?_
              rintro e w1 ⟨rfl, rfl⟩
              go_wp2_with fail

              with_reducible refine (HDg.out _ _).mono ?_
              rintro e w1 ⟨rfl, rfl⟩

              have HOn : Hid (openL (f' + 1) (c :: s.data.toList.drop (j + 1)) = c :: openL f' (s.data.toList.drop (j + 1))) := openL_byte HCN.out
              go_wp2_with (at_builtin; refine wpList_append_own _ rfl _ _ 44 rfl w.heap.size 5 i0 (.int .u8 0) 1 1 Tryz.underlying44 hi hz0 hz1 hz2 rfl (by decide) _ _ _ rfl (HO.out.alloc _) ⟨wr.heap.size, 0, none⟩ 1 1 [byteV c] rfl rfl ?c1 ?c2 ?c3 ?c4 ?c5 ?_)
              case c1 => first | exact cell_one_new wr _ _ | exact fun j u hu => hu
              case c2 => first | exact news_one [c] | rfl
              case c3 => unfold maxLen; omega
              case c4 => omega
              case c5 => first | (simp; have := HB.out.size; omega) | (have := HB.out.size; omega)
              intro v2 w2 hown2 hgrow2 _
              have HO2 := Lib.hid hown2
              have HB2 : Hid (Below w.heap.size w w2) := (HB.out.alloc (by have := HB.out.size; omega) _).grown hgrow2 (by have := HB.out.size; simp; omega) (fun q hq => (HO.out.lt q hq).1)
              clear hown2 hgrow2
              go_wp2
              go_roundg (s.size - (j + 1))
              case measure => omega
              case rel =>
                refine ⟨j + 1, f', acc ++ [c], rfl, by omega, by go_num, by simp; omega, by omega, own_cast HO2.out (by simp) (by simp), HB2.out, ?_⟩
                unfold Hid
                rw [HS.out, HOn.out, List.append_assoc]
                rfl
          · have d1i : ¬ (digV c1 : Int) < 16 := by omega
            have d1b : decide ((digV c1 : Int) < 16) = false := decide_eq_false d1i
            have HCN : Hid (codeL (c :: s.data.toList.drop (j + 1)) = none) := by
              unfold Hid
              rw [HD1.out, HD2.out]
              exact Option.isNone_iff_eq_none.1 (by rw [← Option.not_isSome, code_iff]; simp [d1])
            go_wp2_with fail

            with_reducible refine (HDg.out _ _).mono ?_
            rintro e w1 ⟨rfl, rfl⟩

            have HOn : Hid (openL (f' + 1) (c :: s.data.toList.drop (j + 1)) = c :: openL f' (s.data.toList.drop (j + 1))) := openL_byte HCN.out
            go_wp2_with (at_builtin; refine wpList_append_own _ rfl _ _ 44 rfl w.heap.size 5 i0 (.int .u8 0) 1 1 Tryz.underlying44 hi hz0 hz1 hz2 rfl (by decide) _ _ _ rfl (HO.out.alloc _) ⟨wr.heap.size, 0, none⟩ 1 1 [byteV c] rfl rfl ?c1 ?c2 ?c3 ?c4 ?c5 ?_)
            case c1 => first | exact cell_one_new wr _ _ | exact fun j u hu => hu
            case c2 => first | exact news_one [c] | rfl
            case c3 => unfold maxLen; omega
            case c4 => omega
            case c5 => first | (simp; have := HB.out.size; omega) | (have := HB.out.size; omega)
            intro v2 w2 hown2 hgrow2 _
            have HO2 := Lib.hid hown2
            have HB2 : Hid (Below w.heap.size w w2) := (HB.out.alloc (by have := HB.out.size; omega) _).grown hgrow2 (by have := HB.out.size; simp; omega) (fun q hq => (HO.out.lt q hq).1)
            clear hown2 hgrow2
            go_wp2
            go_roundg (s.size - (j + 1))
            case measure => omega
            case rel =>
              refine ⟨j + 1, f', acc ++ [c], rfl, by omega, by go_num, by simp; omega, by omega, own_cast HO2.out (by simp) (by simp), HB2.out, ?_⟩
              unfold Hid
              rw [HS.out, HOn.out, List.append_assoc]
              rfl
        · have b2 : ¬ ((j : Int) + 2 < (s.size : Int)) := by omega
          have b2' : decide ((j : Int) + 2 < (s.size : Int)) = false := decide_eq_false b2
          have HCN : Hid (codeL (c :: s.data.toList.drop (j + 1)) = none) := codeL_short (by simp; omega)
          have hx0 := hc.symm
          clear hc h37
          have HOn : Hid (openL (f' + 1) (c :: s.data.toList.drop (j + 1)) = c :: openL f' (s.data.toList.drop (j + 1))) := openL_byte HCN.out
          go_wp2_with (at_builtin; refine wpList_append_own _ rfl _ _ 44 rfl w.heap.size 5 i0 (.int .u8 0) 1 1 Tryz.underlying44 hi hz0 hz1 hz2 rfl (by decide) _ _ _ rfl (HO.out.alloc _) ⟨wr.heap.size, 0, none⟩ 1 1 [byteV c] rfl rfl ?c1 ?c2 ?c3 ?c4 ?c5 ?_)
          case c1 => first | exact cell_one_new wr _ _ | exact fun j u hu => hu
          case c2 => first | exact news_one [c] | rfl
          case c3 => unfold maxLen; omega
          case c4 => omega
          case c5 => first | (simp; have := HB.out.size; omega) | (have := HB.out.size; omega)
          intro v2 w2 hown2 hgrow2 _
          have HO2 := Lib.hid hown2
          have HB2 : Hid (Below w.heap.size w w2) := (HB.out.alloc (by have := HB.out.size; omega) _).grown hgrow2 (by have := HB.out.size; simp; omega) (fun q hq => (HO.out.lt q hq).1)
          clear hown2 hgrow2
          go_wp2
          go_roundg (s.size - (j + 1))
          case measure => omega
          case rel =>
            refine ⟨j + 1, f', acc ++ [c], rfl, by omega, by go_num, by simp; omega, by omega, own_cast HO2.out (by simp) (by simp), HB2.out, ?_⟩
            unfold Hid
            rw [HS.out, HOn.out, List.append_assoc]
            rfl
      · have b1 : ((c.toNat : Int) == 37) = false := beq_no (by omega)
        have HCN : Hid (codeL (c :: s.data.toList.drop (j + 1)) = none) := codeL_no (fun e => h37 (by rw [e]; rfl))
        have hx0 := hc.symm
        clear hc h37
        have HOn : Hid (openL (f' + 1) (c :: s.data.toList.drop (j + 1)) = c :: openL f' (s.data.toList.drop (j + 1))) := openL_byte HCN.out
        go_wp2_with (at_builtin; refine wpList_append_own _ rfl _ _ 44 rfl w.heap.size 5 i0 (.int .u8 0) 1 1 Tryz.underlying44 hi hz0 hz1 hz2 rfl (by decide) _ _ _ rfl (HO.out.alloc _) ⟨wr.heap.size, 0, none⟩ 1 1 [byteV c] rfl rfl ?c1 ?c2 ?c3 ?c4 ?c5 ?_)
        case c1 => first | exact cell_one_new wr _ _ | exact fun j u hu => hu
        case c2 => first | exact news_one [c] | rfl
        case c3 => unfold maxLen; omega
        case c4 => omega
        case c5 => first | (simp; have := HB.out.size; omega) | (have := HB.out.size; omega)
        intro v2 w2 hown2 hgrow2 _
        have HO2 := Lib.hid hown2
        have HB2 : Hid (Below w.heap.size w w2) := (HB.out.alloc (by have := HB.out.size; omega) _).grown hgrow2 (by have := HB.out.size; simp; omega) (fun q hq => (HO.out.lt q hq).1)
        clear hown2 hgrow2
        go_wp2
        go_roundg (s.size - (j + 1))
        case measure => omega
        case rel =>
          refine ⟨j + 1, f', acc ++ [c], rfl, by omega, by go_num, by simp; omega, by omega, own_cast HO2.out (by simp) (by simp), HB2.out, ?_⟩
          unfold Hid
          rw [HS.out, HOn.out, List.append_assoc]
          rfl
    · have HEd : Hid (s.data.toList.drop j = []) := List.drop_eq_nil_of_le (by simp; omega)
      have hst := (run_string_of_owned (P := Tryz.prog) Tryz.underlying44 Tryz.underlying5 Tryz.underlying9 HO.out)
      go_wp2_with fail
      go_ret
      refine ⟨?_, HB.out⟩
      rw [HS.out, HEd.out, openL_nil, List.append_nil]
      rfl
end Go.Proofs.YtcnihodikpcfkaaGreatDoor
