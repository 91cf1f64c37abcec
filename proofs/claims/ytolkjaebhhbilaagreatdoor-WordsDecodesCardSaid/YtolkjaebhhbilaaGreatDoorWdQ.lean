/- Contracts of the document's layer 9: where a sign stands, a digit, a text's bytes by codes, a name up to its star. -/
import Derived.Test.YtolkjaebhhbilaaGreatDoorWdF
import Derived.Test.YtolkjaebhhbilaaGreatDoorB64N
import Derived.Deep.AppendLies
import Derived.Deep.RegionLaw
import Derived.Deep.DeepCutAuto
import Derived.Deep.CutBlock
import Derived.Test.YtolkjaebhhbilaaGreatDoorCsT
namespace Go.Proofs.YtolkjaebhhbilaaGreatDoor
open Go Go.RowKit

def hexLo (n : Nat) : UInt8 := ([48, 49, 50, 51, 52, 53, 54, 55, 56, 57, 97, 98, 99, 100, 101, 102] : List UInt8).getD n 0
def hexUp (n : Nat) : UInt8 := ([48, 49, 50, 51, 52, 53, 54, 55, 56, 57, 65, 66, 67, 68, 69, 70] : List UInt8).getD n 0
/-! ### A digit -/
def hitD (c : UInt8) (i : Nat) : Bool := (c == hexLo i) || (c == hexUp i)
def dgo (c : UInt8) : Nat → Nat → Option Nat
  | 0, _ => none
  | f + 1, j => if hitD c j then some j else dgo c f (j + 1)
theorem dgo_all : (List.range 256).all (fun n => decide (dgo (UInt8.ofNat n) 16 0 = hexV (UInt8.ofNat n))) = true := by kernel_rfl
theorem dgo_hex (c : UInt8) : dgo c 16 0 = hexV c := by
  have h := List.all_eq_true.1 dgo_all c.toNat (by rw [List.mem_range]; exact c.toNat_lt)
  have e : UInt8.ofNat c.toNat = c := UInt8.ofNat_toNat
  rw [e] at h
  exact of_decide_eq_true h
theorem lox_at (n : Nat) (h : n < 16) : (⟨#[48, 49, 50, 51, 52, 53, 54, 55, 56, 57, 97, 98, 99, 100, 101, 102]⟩ : ByteArray)[n]'h = hexLo n := by
  have := bytes_get ⟨#[48, 49, 50, 51, 52, 53, 54, 55, 56, 57, 97, 98, 99, 100, 101, 102]⟩ n h
  unfold hexLo
  rw [List.getD_eq_getElem?_getD]
  show _ = ((⟨#[48, 49, 50, 51, 52, 53, 54, 55, 56, 57, 97, 98, 99, 100, 101, 102]⟩ : ByteArray).data.toList[n]?).getD 0
  rw [this]
  rfl
theorem upx_at (n : Nat) (h : n < 16) : (⟨#[48, 49, 50, 51, 52, 53, 54, 55, 56, 57, 65, 66, 67, 68, 69, 70]⟩ : ByteArray)[n]'h = hexUp n := by
  have := bytes_get ⟨#[48, 49, 50, 51, 52, 53, 54, 55, 56, 57, 65, 66, 67, 68, 69, 70]⟩ n h
  unfold hexUp
  rw [List.getD_eq_getElem?_getD]
  show _ = ((⟨#[48, 49, 50, 51, 52, 53, 54, 55, 56, 57, 65, 66, 67, 68, 69, 70]⟩ : ByteArray).data.toList[n]?).getD 0
  rw [this]
  rfl
def digV (c : UInt8) : Nat := (hexV c).getD 16
theorem eq_yes {a b : UInt8} (h : a = b) : ((a.toNat : Int) == (b.toNat : Int)) = true := by rw [h]; simp
theorem eq_no {a b : UInt8} (h : ¬ a = b) : ((a.toNat : Int) == (b.toNat : Int)) = false := beq_no fun e => h (toNat_eq (by omega))
set_option maxHeartbeats 1000000 in
theorem refDigit_any (c : UInt8) (w : World) :
    Calls Tryz.prog 32 #[.int .u8 (c.toNat : Int)] w fun e w' => e = .returned (.int .i64 (digV c : Int)) ∧ w = w' := by
  go_enter Tryz.func32, Tryz.ntmps32
  go_wp2_with fail
  go_loopg [3] 16 (fun g v1 wr => ∃ j : Nat, g = 16 - j ∧ j ≤ 16 ∧ v1 = .int .i64 (j : Int) ∧ Hid (dgo c (16 - j) j = hexV c) ∧ w = wr)
  case atStart => exact ⟨0, rfl, by omega, rfl, dgo_hex c, rfl⟩
  case round =>
    obtain ⟨j, rfl, hj, rfl, HS, rfl⟩ := hrel
    by_cases hlt : j < 16
    · have d1 := lox_at j hlt
      have d2 := upx_at j hlt
      have HSt : Hid (dgo c (16 - j) j = if hitD c j then some j else dgo c (16 - (j + 1)) (j + 1)) := by
        unfold Hid
        rw [show 16 - j = (16 - (j + 1)) + 1 by omega]
        rfl
      obtain ⟨x, hx⟩ : ∃ x, x = hexLo j := ⟨_, rfl⟩
      obtain ⟨y, hy⟩ : ∃ y, y = hexUp j := ⟨_, rfl⟩
      rw [← hx] at d1
      rw [← hy] at d2
      have HX := Lib.hid hx
      have HY := Lib.hid hy
      clear hx hy
      have hlti : (j : Int) < 16 := by omega
      by_cases h1 : c = x
      · have b1 := eq_yes h1
        have HH : Hid (hitD c j = true) := by unfold Hid hitD; rw [← HX.out, h1]; simp
        clear h1
        go_wp2_with fail
        go_ret
        refine ⟨?_, rfl⟩
        unfold digV
        rw [← HS.out, HSt.out, HH.out]
        rfl
      · have b1 := eq_no h1
        by_cases h2 : c = y
        · have b2 := eq_yes h2
          have HH : Hid (hitD c j = true) := by unfold Hid hitD; rw [← HY.out, h2]; simp
          clear h1 h2
          go_wp2_with fail
          go_ret
          refine ⟨?_, rfl⟩
          unfold digV
          rw [← HS.out, HSt.out, HH.out]
          rfl
        · have b2 := eq_no h2
          have HH : Hid (hitD c j = false) := by unfold Hid hitD; rw [← HX.out, ← HY.out]; simp [h1, h2]
          clear h1 h2
          go_wp2_with fail
          go_roundg (16 - (j + 1))
          case measure => omega
          case rel =>
            refine ⟨j + 1, rfl, by omega, by go_num, ?_, rfl⟩
            unfold Hid
            rw [← HS.out, HSt.out, HH.out]
            rfl
    · obtain rfl : j = 16 := by omega
      have HE : Hid (hexV c = none) := HS.out.symm
      go_wp2_with fail
      go_ret
      exact ⟨by unfold digV; rw [HE.out]; rfl, rfl⟩


theorem digV_hex {c : UInt8} {n : Nat} (h : hexV c = some n) : digV c = n := by unfold digV; rw [h]; rfl
theorem digV_none {c : UInt8} (h : hexV c = none) : digV c = 16 := by unfold digV; rw [h]; rfl
theorem hexs_dig {a b : UInt8} (ha : digV a < 16) (hb : digV b < 16) : hexs 0 [a, b] = some (16 * digV a + digV b) := by
  rw [hexs_two]
  unfold digV at ha hb ⊢
  cases h : hexV a with
  | none => rw [h] at ha; simp at ha
  | some x =>
    cases h2 : hexV b with
    | none => rw [h2] at hb; simp at hb
    | some y => rfl
theorem hexs_nodig {a b : UInt8} (h : ¬ (digV a < 16 ∧ digV b < 16)) : hexs 0 [a, b] = none := by
  cases hx : hexs 0 [a, b] with
  | none => rfl
  | some n =>
    exfalso
    apply h
    rw [hexs_two] at hx
    cases ha : hexV a with
    | none => rw [ha] at hx; cases hx
    | some x =>
      cases hb : hexV b with
      | none => rw [ha, hb] at hx; cases hx
      | some y => exact ⟨by rw [digV_hex ha]; exact hexV_lt ha, by rw [digV_hex hb]; exact hexV_lt hb⟩
def decT (o : Option (List UInt8)) : Value := .tuple #[.string ⟨(o.getD []).toArray⟩, .bool o.isSome]

set_option maxRecDepth 100000 in
set_option maxHeartbeats 4000000 in
theorem refQuoted_any (s : ByteArray) (w : World) (hl : s.size ≤ 1000000) :
    Calls Tryz.prog 15 #[.string s] w fun e w' => e = .returned (decT (qL s.data.toList)) ∧ Below w.heap.size w w' := by
  obtain ⟨i0, hi, hz0, hz1, hz2⟩ := info_parts Tryz.infoB
  have HDg := Lib.hid (fun c W => refDigit_any c W)
  go_enter Tryz.func15, Tryz.ntmps15
  go_wp2_with fail
  go_loopg [4, 5, 6] s.size (fun g o v5 v6 wr => ∃ (j : Nat) (acc : List UInt8), g = s.size - j ∧ j ≤ s.size ∧ v5 = .int .i64 (j : Int) ∧ acc.length ≤ j ∧ wr.ownsRow w.heap.size 5 1 o acc.length (acc.map byteV) ∧ Hid (Below w.heap.size w wr) ∧
    Hid (qL s.data.toList = (qL (s.data.toList.drop j)).map (acc ++ ·)))
  case atStart => exact ⟨0, [], by omega, by omega, rfl, by simp, World.ownsRow_nil _ _ _ _, Below.refl _ _, by unfold Hid; simp⟩
  case round =>
    obtain ⟨j, acc, rfl, hj, rfl, hal, hown, HB, HS⟩ := hrel
    have HO := Lib.hid hown
    clear hown
    by_cases hlt : j < s.size
    · have HD := Lib.hid (drop_cons s j hlt)
      obtain ⟨c, hc⟩ : ∃ c, c = s[j] := ⟨_, rfl⟩
      rw [← hc] at HD
      have hct := c.toNat_lt
      by_cases h61 : c.toNat = 61
      · have b1 : ((c.toNat : Int) == 61) = true := beq_yes (by omega)
        have HC61 : Hid (c = 61) := toNat_eq h61
        by_cases h2 : j + 2 < s.size
        · have h1 : j + 1 < s.size := by omega
          have b2 : ¬ ((s.size : Int) ≤ (j : Int) + 2) := by omega
          have b2' : decide ((s.size : Int) ≤ (j : Int) + 2) = false := decide_eq_false b2
          have b2n : ¬ (s.size ≤ j + 2) := by omega
          have b3 : (j : Int) + 1 < (s.size : Int) := by omega
          have HD1 := Lib.hid (drop_cons s (j + 1) h1)
          have HD2 := Lib.hid (drop_cons s (j + 2) h2)
          obtain ⟨c1, hc1⟩ : ∃ c1, c1 = s[j + 1] := ⟨_, rfl⟩
          obtain ⟨c2, hc2⟩ : ∃ c2, c2 = s[j + 2] := ⟨_, rfl⟩
          rw [← hc1] at HD1
          rw [← hc2] at HD2
          have hx1 := hc1.symm
          have hx2 := hc2.symm
          have hx0 := hc.symm
          clear hc1 hc2 hc h61
          by_cases d1 : digV c1 < 16
          · have d1i : ¬ (15 : Int) < (digV c1 : Int) := by omega
            have d1b : decide ((15 : Int) < (digV c1 : Int)) = false := decide_eq_false d1i
            by_cases d2 : digV c2 < 16
            · have d2i : ¬ (15 : Int) < (digV c2 : Int) := by omega
              have d2b : decide ((15 : Int) < (digV c2 : Int)) = false := decide_eq_false d2i
              have HQ : Hid (qL (c :: s.data.toList.drop (j + 1)) = (qL (s.data.toList.drop (j + 3))).map (byteN (16 * digV c1 + digV c2) :: ·)) := by
                unfold Hid
                rw [HC61.out, HD1.out, HD2.out, qL_code _ (hexs_dig d1 d2)]
              have dn1 : digV c1 < 16 := d1
              obtain ⟨D1, hD1⟩ : ∃ D1, D1 = digV c1 := ⟨_, rfl⟩
              obtain ⟨D2, hD2⟩ : ∃ D2, D2 = digV c2 := ⟨_, rfl⟩
              have HDa : Hid (∀ W, Calls Tryz.prog 32 #[.int .u8 (c1.toNat : Int)] W fun e w' => e = .returned (.int .i64 (D1 : Int)) ∧ W = w') := fun W => by rw [hD1]; exact HDg.out c1 W
              have HDb : Hid (∀ W, Calls Tryz.prog 32 #[.int .u8 (c2.toNat : Int)] W fun e w' => e = .returned (.int .i64 (D2 : Int)) ∧ W = w') := fun W => by rw [hD2]; exact HDg.out c2 W
              rw [← hD1] at d1 d1i d1b
              rw [← hD2] at d2 d2i d2b
              have HNq : Hid (byteN (16 * D1 + D2) = byteN (16 * digV c1 + digV c2)) := by rw [hD1, hD2]; rfl
              have hz : (16 : Int) * (D1 : Int) + (D2 : Int) = ((16 * D1 + D2 : Nat) : Int) := by omega
              have hz256 : 16 * D1 + D2 < 256 := by omega
              obtain ⟨N, hN⟩ : ∃ N, N = 16 * D1 + D2 := ⟨_, rfl⟩
              rw [← hN] at hz hz256 HNq
              have HNb : Hid (byteV (byteN N) = .int .u8 (N : Int)) := by unfold Hid byteV; rw [byteN_toNat N hz256]
              have hw1 : IntKind.i64.wrap ((j : Int) + 1) = (j : Int) + 1 := IntWalk.i64_in _ (by omega)
              have hw2 : IntKind.i64.wrap ((j : Int) + 2) = (j : Int) + 2 := IntWalk.i64_in _ (by omega)
              have hw3 : IntKind.i64.wrap ((16 : Int) * (D1 : Int)) = (16 : Int) * (D1 : Int) := IntWalk.i64_in _ (by omega)
              have hw4 : IntKind.i64.wrap (N : Int) = (N : Int) := IntWalk.i64_in _ (by omega)
              have hw5 : IntKind.u8.wrap (N : Int) = (N : Int) := wraps_u8 _ (by omega) (by omega)
              have hp1 : (0 : Int) ≤ (j : Int) + 1 := by omega
              have ht1 : ((j : Int) + 1).toNat = j + 1 := by omega
              have ht2 : ((j : Int) + 2).toNat = j + 2 := by omega
              have hp2 : (0 : Int) ≤ (j : Int) + 2 := by omega
              clear hD1 hD2 hN dn1 HDg
              go_wp2_with fail
              with_reducible refine (HDa.out _).mono ?_
              rintro e w1 ⟨rfl, rfl⟩
              go_wp2_with fail
              with_reducible refine (HDb.out _).mono ?_
              rintro e w1 ⟨rfl, rfl⟩
              go_wp2_with fail
              go_region_law ((first | (refine step_append_lies _ (by exact rfl) _ _ 28 (by exact rfl) w.heap.size 5 i0 (.int .u8 0) 1 1 Tryz.underlying28 hi hz0 hz1 hz2 rfl (by decide) _ _ _ (by exact rfl) (ownsRow_below (HO.out.alloc _) (Below.refl _ _).drew) ⟨wr.heap.size, 0, none⟩ 1 1 [byteV (byteN N)] (by exact rfl) rfl (by rw [HNb.out]; exact cell_one_new wr _ _) (news_one [byteN N]) (by decide) (by unfold maxLen; omega) (by omega) ((HB.out.alloc HB.out.size _).drew).size _ rfl ?_; intro g2 cap2 w2 hown2 hgrow2 _ _) | (go_simp; go_at_call 32; with_reducible refine (HDa.out _).mono ?_; rintro e w1 ⟨rfl, rfl⟩) | (go_simp; go_at_call 32; with_reducible refine (HDb.out _).mono ?_; rintro e w1 ⟨rfl, rfl⟩)))
              all_goals
                have HO2 := Lib.hid hown2
                have HB2 : Hid (Below w.heap.size w w2) := ((HB.out.alloc HB.out.size _).drew).grown hgrow2 ((HB.out.alloc HB.out.size _).drew).size (fun q hq => (HO.out.lt q hq).1)
                clear hown2 hgrow2
                go_wp2
                go_roundg (s.size - (j + 3))
                case measure => omega
                case rel =>
                  refine ⟨j + 3, acc ++ [byteN N], rfl, by omega, by go_num, by simp; omega, own_cast HO2.out (by simp) (by simp), HB2.out, ?_⟩
                  unfold Hid
                  rw [HS.out, HD.out, HQ.out, ← HNq.out, map_app]
            · have d2i : (15 : Int) < (digV c2 : Int) := by omega
              have d2b : decide ((15 : Int) < (digV c2 : Int)) = true := decide_eq_true d2i
              have HNo : Hid (qL s.data.toList = none) := by
                unfold Hid
                rw [HS.out, HD.out, HC61.out, HD1.out, HD2.out, qL_no _ (hexs_nodig (fun h => d2 h.2))]
                rfl
              clear d2
              go_wp2_with fail
              with_reducible refine (HDg.out _ _).mono ?_
              rintro e w1 ⟨rfl, rfl⟩
              go_wp2_with fail
              with_reducible refine (HDg.out _ _).mono ?_
              rintro e w1 ⟨rfl, rfl⟩
              go_wp2_with fail
              go_ret2
              exact ⟨by rw [HNo.out]; rfl, HB.out⟩
          · have d1i : (15 : Int) < (digV c1 : Int) := by omega
            have d1b : decide ((15 : Int) < (digV c1 : Int)) = true := decide_eq_true d1i
            have HNo : Hid (qL s.data.toList = none) := by
              unfold Hid
              rw [HS.out, HD.out, HC61.out, HD1.out, HD2.out, qL_no _ (hexs_nodig (fun h => d1 h.1))]
              rfl
            clear d1
            go_wp2_with fail
            with_reducible refine (HDg.out _ _).mono ?_
            rintro e w1 ⟨rfl, rfl⟩
            go_wp2_with fail
            go_ret2
            exact ⟨by rw [HNo.out]; rfl, HB.out⟩
        · have b2 : (s.size : Int) ≤ (j : Int) + 2 := by omega
          have b2' : decide ((s.size : Int) ≤ (j : Int) + 2) = true := decide_eq_true b2
          have HNo : Hid (qL s.data.toList = none) := by
            unfold Hid
            rw [HS.out, HD.out, HC61.out, qL_short (by simp; omega)]
            rfl
          have hx0 := hc.symm
          clear hc h61
          go_wp2_with fail
          go_ret2
          exact ⟨by rw [HNo.out]; rfl, HB.out⟩
      · have b1 : ((c.toNat : Int) == 61) = false := beq_no (by omega)
        have hne : c ≠ 61 := fun e => h61 (by rw [e]; rfl)
        have hx0 := hc.symm
        clear hc h61
        by_cases h95 : c.toNat = 95
        · have b3 : ((c.toNat : Int) == 95) = true := beq_yes (by omega)
          have HQ : Hid (qL (c :: s.data.toList.drop (j + 1)) = (qL (s.data.toList.drop (j + 1))).map ((32 : UInt8) :: ·)) := by
            unfold Hid
            rw [qL_byte _ hne]
            have : unders c = 32 := by unfold unders; rw [if_pos (toNat_eq h95)]
            rw [this]
          clear hne h95
          go_wp2_with (at_builtin; refine wpList_append_own _ rfl _ _ 28 rfl w.heap.size 5 i0 (.int .u8 0) 1 1 Tryz.underlying28 hi hz0 hz1 hz2 rfl (by decide) _ _ _ rfl (HO.out.alloc _) ⟨wr.heap.size, 0, none⟩ 1 1 [byteV 32] rfl rfl ?c1 ?c2 ?c3 ?c4 ?c5 ?_)
          case c1 => exact (sliceAt_new wr _ _ #[.int .u8 ((32 : UInt8).toNat : Int)] [32] rfl).news
          case c2 => exact news_one [32]
          case c3 => unfold maxLen; omega
          case c4 => omega
          case c5 => first | (simp; have := HB.out.size; omega) | (have := HB.out.size; omega)
          intro v2 w2 hown2 hgrow2 _
          have HO2 := Lib.hid hown2
          have HB2 : Hid (Below w.heap.size w w2) := (HB.out.alloc (by have := HB.out.size; omega) _).grown hgrow2 (by have := HB.out.size; simp; omega) (fun q hq => (HO.out.lt q hq).1)
          clear hown2 hgrow2
          go_wp2
          go_roundg (s.size - (j + 1))
          case measure => omega
          case rel =>
            refine ⟨j + 1, acc ++ [32], rfl, by omega, by go_num, by simp; omega, own_cast HO2.out (by simp) (by simp), HB2.out, ?_⟩
            unfold Hid
            rw [HS.out, HD.out, HQ.out, map_app]
        · have b3 : ((c.toNat : Int) == 95) = false := beq_no (by omega)
          have HQ : Hid (qL (c :: s.data.toList.drop (j + 1)) = (qL (s.data.toList.drop (j + 1))).map (c :: ·)) := by
            unfold Hid
            rw [qL_byte _ hne]
            have : unders c = c := by unfold unders; rw [if_neg (fun e => h95 (by rw [e]; rfl))]
            rw [this]
          clear hne h95
          go_wp2_with (at_builtin; refine wpList_append_own _ rfl _ _ 28 rfl w.heap.size 5 i0 (.int .u8 0) 1 1 Tryz.underlying28 hi hz0 hz1 hz2 rfl (by decide) _ _ _ rfl (HO.out.alloc _) ⟨wr.heap.size, 0, none⟩ 1 1 [byteV c] rfl rfl ?c1 ?c2 ?c3 ?c4 ?c5 ?_)
          case c1 => exact (sliceAt_new wr _ _ #[.int .u8 ((c : UInt8).toNat : Int)] [c] rfl).news
          case c2 => exact news_one [c]
          case c3 => unfold maxLen; omega
          case c4 => omega
          case c5 => first | (simp; have := HB.out.size; omega) | (have := HB.out.size; omega)
          intro v2 w2 hown2 hgrow2 _
          have HO2 := Lib.hid hown2
          have HB2 : Hid (Below w.heap.size w w2) := (HB.out.alloc (by have := HB.out.size; omega) _).grown hgrow2 (by have := HB.out.size; simp; omega) (fun q hq => (HO.out.lt q hq).1)
          clear hown2 hgrow2
          go_wp2
          go_roundg (s.size - (j + 1))
          case measure => omega
          case rel =>
            refine ⟨j + 1, acc ++ [c], rfl, by omega, by go_num, by simp; omega, own_cast HO2.out (by simp) (by simp), HB2.out, ?_⟩
            unfold Hid
            rw [HS.out, HD.out, HQ.out, map_app]
    · have HEd : Hid (s.data.toList.drop j = []) := List.drop_eq_nil_of_le (by simp; omega)
      have hst := (run_string_of_owned (P := Tryz.prog) Tryz.underlying28 Tryz.underlying5 Tryz.underlying9 HO.out)
      go_wp2_with fail
      go_ret2
      refine ⟨?_, HB.out⟩
      rw [HS.out, HEd.out]
      unfold decT
      simp [qL]

/-! ### Where a sign stands -/
set_option maxHeartbeats 1000000 in
theorem refQuestion_any (s : ByteArray) (w : World) (hl : s.size ≤ 1000000) :
    Calls Tryz.prog 12 #[.string s] w fun e w' => e = .returned (.int .i64 (if idxB 63 s.data.toList < s.size then (idxB 63 s.data.toList : Int) else -1)) ∧ w = w' := by
  obtain ⟨i, hi⟩ : ∃ i, i = idxB 63 s.data.toList := ⟨_, rfl⟩
  have HI := Lib.hid hi
  rw [← hi]
  have hil : i ≤ s.size := by rw [hi, ← len_toList]; exact idxB_le _ _
  clear hi
  obtain ⟨R, hR⟩ : ∃ R : Int, R = if i < s.size then (i : Int) else -1 := ⟨_, rfl⟩
  have HR := Lib.hid hR
  rw [← hR]
  clear hR
  go_enter Tryz.func12, Tryz.ntmps12
  go_wp2_with fail
  go_loopg [3] s.size (fun g v3 wr => ∃ j : Nat, g = s.size - j ∧ j ≤ s.size ∧ v3 = .int .i64 (j : Int) ∧ Hid (j ≤ i) ∧ w = wr)
  case atStart => exact ⟨0, rfl, Nat.zero_le _, rfl, Nat.zero_le _, rfl⟩
  case round =>
    obtain ⟨j, rfl, hj, rfl, HJ, rfl⟩ := hrel
    by_cases hlt : j < s.size
    · have hct := s[j].toNat_lt
      have hjl : j < s.data.toList.length := by rw [len_toList]; exact hlt
      by_cases h63 : s[j].toNat = 63
      · have b1 : ((s[j].toNat : Int) == 63) = true := beq_yes (by omega)
        have HE : Hid (i = j) := by
          have h1 : j ≤ idxB 63 s.data.toList := by rw [← HI.out]; exact HJ.out
          unfold Hid
          rw [HI.out]
          refine idxB_is hjl (toNat_eq (by exact h63)) (fun k hk hkj => idxB_ahead (by omega) hk)
        clear h63
        go_wp2_with fail
        go_ret
        refine ⟨ret_int ?_, rfl⟩
        rw [HR.out, HE.out, if_pos hlt]
      · have b1 : ((s[j].toNat : Int) == 63) = false := beq_no (by omega)
        have HE : Hid (j + 1 ≤ i) := by
          have h1 := HJ.out
          have h2 : i ≠ j := by
            intro e
            apply h63
            have h3 : idxB 63 s.data.toList = j := by rw [← HI.out, e]
            have h4 : s.data.toList[idxB 63 s.data.toList]'(by rw [h3]; exact hjl) = 63 := idxB_at _
            have h5 : s.data.toList[j] = 63 := by rw [← h4]; congr 1; exact h3.symm
            have h6 : s[j] = 63 := h5
            rw [h6]
            rfl
          unfold Hid
          omega
        clear h63
        go_wp2_with fail
        go_roundg (s.size - (j + 1))
        case measure => omega
        case rel => exact ⟨j + 1, rfl, by omega, by go_num, HE, rfl⟩
    · have hij : ¬ i < s.size := by have := HJ.out; omega
      go_wp2_with fail
      go_ret
      exact ⟨ret_int (by rw [HR.out, if_neg hij]), rfl⟩
set_option maxHeartbeats 1000000 in
theorem refStar_any (s : ByteArray) (w : World) (hl : s.size ≤ 1000000) :
    Calls Tryz.prog 17 #[.string s] w fun e w' => (∃ T : ByteArray, e = .returned (.string T) ∧ T.data.toList = starL s.data.toList) ∧ w = w' := by
  obtain ⟨i, hi⟩ : ∃ i, i = idxB 42 s.data.toList := ⟨_, rfl⟩
  have HI := Lib.hid hi
  have hil : i ≤ s.size := by rw [hi, ← len_toList]; exact idxB_le _ _
  clear hi
  go_enter Tryz.func17, Tryz.ntmps17
  go_wp2_with fail
  go_loopg [3] s.size (fun g v3 wr => ∃ j : Nat, g = s.size - j ∧ j ≤ s.size ∧ v3 = .int .i64 (j : Int) ∧ Hid (j ≤ i) ∧ w = wr)
  case atStart => exact ⟨0, rfl, Nat.zero_le _, rfl, Nat.zero_le _, rfl⟩
  case round =>
    obtain ⟨j, rfl, hj, rfl, HJ, rfl⟩ := hrel
    by_cases hlt : j < s.size
    · have hct := s[j].toNat_lt
      have hjl : j < s.data.toList.length := by rw [len_toList]; exact hlt
      by_cases h63 : s[j].toNat = 42
      · have b1 : ((s[j].toNat : Int) == 42) = true := beq_yes (by omega)
        have HE : Hid (i = j) := by
          have h1 : j ≤ idxB 42 s.data.toList := by rw [← HI.out]; exact HJ.out
          unfold Hid
          rw [HI.out]
          refine idxB_is hjl (toNat_eq (by exact h63)) (fun k hk hkj => idxB_ahead (by omega) hk)
        clear h63
        go_wp2_with fail
        go_ret
        refine ⟨⟨_, rfl, ?_⟩, rfl⟩
        rw [extract_toList]
        unfold starL
        rw [← HI.out, HE.out]
        simp
      · have b1 : ((s[j].toNat : Int) == 42) = false := beq_no (by omega)
        have HE : Hid (j + 1 ≤ i) := by
          have h1 := HJ.out
          have h2 : i ≠ j := by
            intro e
            apply h63
            have h3 : idxB 42 s.data.toList = j := by rw [← HI.out, e]
            have h4 : s.data.toList[idxB 42 s.data.toList]'(by rw [h3]; exact hjl) = 42 := idxB_at _
            have h5 : s.data.toList[j] = 42 := by rw [← h4]; congr 1; exact h3.symm
            have h6 : s[j] = 42 := h5
            rw [h6]
            rfl
          unfold Hid
          omega
        clear h63
        go_wp2_with fail
        go_roundg (s.size - (j + 1))
        case measure => omega
        case rel => exact ⟨j + 1, rfl, by omega, by go_num, HE, rfl⟩
    · have HE : Hid (i = s.size) := by have := HJ.out; unfold Hid; omega
      go_wp2_with fail
      go_ret
      refine ⟨⟨s, rfl, ?_⟩, rfl⟩
      unfold starL
      rw [← HI.out, HE.out, ← len_toList, List.take_length]
end Go.Proofs.YtolkjaebhhbilaaGreatDoor

/- The document's Word. -/
namespace Go.Proofs.YtolkjaebhhbilaaGreatDoor
open Go Go.RowKit

/-! ### Plain -/
theorem cutQ_none {l : List UInt8} (h : ¬ idxB 63 l < l.length) : cutQ l = none := by unfold cutQ; rw [if_neg h]
theorem cutQ_some {l : List UInt8} (h : idxB 63 l < l.length) : cutQ l = some (l.take (idxB 63 l), l.drop (idxB 63 l + 1)) := by unfold cutQ; rw [if_pos h]
theorem cutQ_letter {l : List UInt8} (h : ∀ x t, l ≠ x :: 63 :: t) : ∀ p, cutQ l = some p → p.1.length ≠ 1 := by
  intro p hp hl
  obtain ⟨h1, h2, h3⟩ := cutQ_len (a := p.1) (r := p.2) hp
  match hpp : p.1, hl with
  | [x], _ => exact h x p.2 (by rw [h2, hpp]; rfl)
theorem ew_go {L l0 : List UInt8} (h : L = 61 :: 63 :: l0) : ewL L = (cutQ l0).bind (fun p => (cutQ p.2).bind (fun q => (cutQ q.2).bind (fun s => endW L.length p.1 q.1 s.1 s.2))) := by
  subst h
  rfl
theorem ew_a {L l0 : List UInt8} (h : L = 61 :: 63 :: l0) (hi : ¬ idxB 63 l0 < l0.length) : ewL L = none := by rw [ew_go h, cutQ_none hi]; rfl
theorem ew_d {L l0 : List UInt8} (h : L = 61 :: 63 :: l0) (hn : ∀ x t, l0.drop (idxB 63 l0 + 1) ≠ x :: 63 :: t) : ewL L = none := by
  rw [ew_go h]
  cases h1 : cutQ l0 with
  | none => rfl
  | some p =>
    have hi : idxB 63 l0 < l0.length := by
      rcases Nat.lt_or_ge (idxB 63 l0) l0.length with h2 | h2
      · exact h2
      · rw [cutQ_none (by omega)] at h1; cases h1
    rw [cutQ_some hi] at h1
    cases h1
    simp only [Option.bind_some]
    cases h2 : cutQ (l0.drop (idxB 63 l0 + 1)) with
    | none => rfl
    | some q =>
      have hq := cutQ_letter hn q h2
      simp only [Option.bind_some]
      cases cutQ q.2 with
      | none => rfl
      | some s => exact endW_letter hq
def tailW (n : Nat) (nm : List UInt8) (x : UInt8) (l2 : List UInt8) : Option (List UInt8 × Nat) := (cutQ l2).bind (fun s => endW n nm [x] s.1 s.2)
theorem textW_63 (nm tx : List UInt8) : textW nm 63 tx = none := by
  unfold textW readL
  rw [if_neg (by decide), if_neg (by decide)]
  rfl
theorem endW_63 (n : Nat) (nm tx l3 : List UInt8) : endW n nm [63] tx l3 = none := by
  unfold endW
  split
  · next heq1 heq2 =>
    cases heq2
    split
    · rfl
    · rw [textW_63]; rfl
  · rfl
theorem ew_e {L l0 l2 : List UInt8} {x : UInt8} (h : L = 61 :: 63 :: l0) (hi : idxB 63 l0 < l0.length) (hn : l0.drop (idxB 63 l0 + 1) = x :: 63 :: l2) : ewL L = tailW L.length (l0.take (idxB 63 l0)) x l2 := by
  rw [ew_go h, cutQ_some hi]
  simp only [Option.bind_some]
  rw [hn]
  unfold tailW
  by_cases hx : x = 63
  · subst hx
    have e1 : cutQ (63 :: 63 :: l2) = some ([], 63 :: l2) := cutQ_app (a := []) _ (by simp)
    rw [e1]
    simp only [Option.bind_some]
    have e2 : ∀ o : Option (List UInt8 × List UInt8), o.bind (fun s => endW L.length (l0.take (idxB 63 l0)) [] s.1 s.2) = none := by
      intro o
      cases o with
      | none => rfl
      | some s => exact endW_letter (by simp)
    have e3 : ∀ o : Option (List UInt8 × List UInt8), o.bind (fun s => endW L.length (l0.take (idxB 63 l0)) [63] s.1 s.2) = none := by
      intro o
      cases o with
      | none => rfl
      | some s => exact endW_63 _ _ _ _
    rw [e2, e3]
  · have e1 : cutQ (x :: 63 :: l2) = some ([x], l2) := cutQ_app (a := [x]) _ (by simpa using fun e => hx e.symm)
    rw [e1]
    rfl
theorem tailW_no {n : Nat} {nm l2 : List UInt8} {x : UInt8} (h : ¬ idxB 63 l2 < l2.length) : tailW n nm x l2 = none := by unfold tailW; rw [cutQ_none h]; rfl
theorem tailW_yes {n : Nat} {nm l2 : List UInt8} {x : UInt8} (h : idxB 63 l2 < l2.length) : tailW n nm x l2 = endW n nm [x] (l2.take (idxB 63 l2)) (l2.drop (idxB 63 l2 + 1)) := by unfold tailW; rw [cutQ_some h]; rfl
theorem readL_98 (x : UInt8) (t : List UInt8) (h : lowB x = 98) : readL x t = decS (bareS t) := by unfold readL; rw [if_pos h]
theorem readL_113 (x : UInt8) (t : List UInt8) (h : lowB x = 113) : readL x t = qL t := by unfold readL; rw [if_neg (by rw [h]; decide), if_pos h]
theorem readL_no (x : UInt8) (t : List UInt8) (h1 : lowB x ≠ 98) (h2 : lowB x ≠ 113) : readL x t = none := by unfold readL; rw [if_neg h1, if_neg h2]
theorem dropB (s : ByteArray) {k : Nat} (h : k < s.size) : s.data.toList.drop k = s[k] :: s.data.toList.drop (k + 1) := drop_cons s k h

/-! ### The walk -/
set_option maxRecDepth 100000 in
set_option maxHeartbeats 8000000 in
theorem refWord_any (s : ByteArray) (w : World) (hl : s.size ≤ 10000) :
    Calls Tryz.prog 6 #[.string s] w fun e w' => e = .returned (wordV (ewL s.data.toList)) ∧ Below w.heap.size w w' := by
  have HQu := Lib.hid (fun (T : ByteArray) (h : T.size ≤ 1000000) W => refQuestion_any T W h)
  have HLo := Lib.hid refLowerB_any
  have HDe := Lib.hid (fun (T : ByteArray) (h : T.size ≤ 65536) W => refDecode_any T W h)
  have HQd := Lib.hid (fun (T : ByteArray) (h : T.size ≤ 1000000) W => refQuoted_any T W h)
  have HSt := Lib.hid (fun (T : ByteArray) (h : T.size ≤ 1000000) W => refStar_any T W h)
  have HTx := Lib.hid (fun (A B : ByteArray) (h1 : A.size ≤ 1000000) (h2 : B.size ≤ 1000000) W => refText_any A B W h1 h2)
  obtain ⟨O, hO⟩ : ∃ O, O = ewL s.data.toList := ⟨_, rfl⟩
  have HO := Lib.hid hO
  rw [← hO]
  clear hO
  by_cases h2 : s.size < 2
  · have h2i : (s.size : Int) < 2 := by omega
    have HN : Hid (O = none) := by
      unfold Hid
      rw [HO.out]
      refine ewL_second ?_
      rw [List.getElem?_eq_none (by rw [len_toList]; omega)]
      simp
    go_enter Tryz.func6, Tryz.ntmps6
    go_wp2_with fail
    go_ret2
    exact ⟨by rw [HN.out]; rfl, Below.refl _ _⟩
  have h2i : ¬ (s.size : Int) < 2 := by omega
  have h2i' : (2 : Int) ≤ (s.size : Int) := by omega
  have hz0 : 0 < s.size := by omega
  have hz1 : 1 < s.size := by omega
  have hb0 : (s.extract 0 2).data.toList = [s[0], s[1]] := by
    have e := drop_cons s 0 hz0
    rw [List.drop_zero, drop_cons s 1 hz1] at e
    rw [extract_toList, List.drop_zero, e]
    rfl
  have hL2 : s.data.toList = s[0] :: s[1] :: s.data.toList.drop 2 := by
    have e := drop_cons s 0 hz0
    rw [List.drop_zero, drop_cons s 1 hz1] at e
    exact e
  by_cases hp : s[0] = 61 ∧ s[1] = 63
  rotate_left 1
  · have q1 : ((s.extract 0 2).toList == [61, 63]) = false := by
      rw [ByteArray.toList_eq, hb0, beq_eq_false_iff_ne]
      intro e
      injection e with e1 e2
      injection e2 with e2 _
      exact hp ⟨e1, e2⟩
    have q2 : ((s.extract 0 2).toList != [61, 63]) = true := by simp [bne, q1]
    have HN : Hid (O = none) := by
      unfold Hid
      rw [HO.out]
      refine ewL_no ?_
      rw [hL2]
      simp only [List.isPrefixOf, Bool.and_true]
      rw [Bool.eq_false_iff]
      intro e
      simp at e
      exact hp ⟨e.1.symm, e.2.symm⟩
    have HB := Lib.hid (Below.refl w.heap.size w)
    clear hb0 hL2 hp
    go_enter Tryz.func6, Tryz.ntmps6
    go_wp2_with fail
    go_ret2
    exact ⟨by rw [HN.out]; rfl, HB.out⟩
  have q1 : ((s.extract 0 2).toList == [61, 63]) = true := by
    rw [ByteArray.toList_eq, hb0, hp.1, hp.2]
    rfl
  have q2 : ((s.extract 0 2).toList != [61, 63]) = false := by simp [bne, q1]
  obtain ⟨l0, hl0⟩ : ∃ l0, l0 = s.data.toList.drop 2 := ⟨_, rfl⟩
  rw [← hl0, hp.1, hp.2] at hL2
  have HL := Lib.hid hL2
  have HSz := Lib.hid (extract_size' s 2 s.size (Nat.le_refl _))
  have hT1 : (s.extract 2 s.size).data.toList = l0 := by rw [extract_toList, hl0]; exact List.take_of_length_le (by simp)
  have hl0z : l0.length = s.size - 2 := by rw [hl0, List.length_drop, len_toList]
  have HQ1 := Lib.hid (HQu.out (s.extract 2 s.size) (by rw [HSz.out]; omega))
  rw [hT1, HSz.out, ← hl0z] at HQ1
  have HB := Lib.hid (Below.refl w.heap.size w)
  clear hb0 hL2 hp hT1
  by_cases ha : idxB 63 l0 < l0.length
  rotate_left 1
  · have HN : Hid (O = none) := by unfold Hid; rw [HO.out]; exact ew_a HL.out ha
    rw [if_neg ha] at HQ1
    clear ha hl0 hl0z
    go_enter Tryz.func6, Tryz.ntmps6
    go_wp2_with fail
    with_reducible refine (HQ1.out _).mono ?_
    rintro e w1 ⟨rfl, rfl⟩
    go_wp2_with fail
    go_ret2
    exact ⟨by rw [HN.out]; rfl, HB.out⟩
  rw [if_pos ha] at HQ1
  obtain ⟨i, hi⟩ : ∃ i, i = idxB 63 l0 := ⟨_, rfl⟩
  rw [← hi] at HQ1 ha
  have HI := Lib.hid hi
  have hi2 : i + 2 < s.size := by omega
  have hl1 : l0.drop (i + 1) = s.data.toList.drop (i + 3) := by rw [hl0, List.drop_drop]; congr 1; omega
  by_cases h5 : s.size < i + 5
  · have h5i : (s.size : Int) < (i : Int) + 5 := by omega
    have HN : Hid (O = none) := by
      unfold Hid
      rw [HO.out]
      refine ew_d HL.out fun x t e => ?_
      rw [← hi, hl1] at e
      have := congrArg List.length e
      rw [List.length_drop, len_toList] at this
      simp at this
      omega
    clear hi hl0 hl1 ha hl0z
    go_enter Tryz.func6, Tryz.ntmps6
    go_wp2_with fail
    with_reducible refine (HQ1.out _).mono ?_
    rintro e w1 ⟨rfl, rfl⟩
    go_wp2_with fail
    go_ret2
    exact ⟨by rw [HN.out]; rfl, HB.out⟩
  have h5i : ¬ (s.size : Int) < (i : Int) + 5 := by omega
  have h3s : i + 3 < s.size := by omega
  have h4s : i + 4 < s.size := by omega
  have h4i : (i : Int) + 4 < (s.size : Int) := by omega
  have h3i : (i : Int) + 3 < (s.size : Int) := by omega
  have hd3 := drop_cons s (i + 3) h3s
  have hd4 := drop_cons s (i + 4) h4s
  obtain ⟨x, hx⟩ : ∃ x, x = s[i + 3] := ⟨_, rfl⟩
  obtain ⟨y, hy⟩ : ∃ y, y = s[i + 4] := ⟨_, rfl⟩
  have x3 : s[i + 3] = x := hx.symm
  have x4 : s[i + 4] = y := hy.symm
  rw [x3] at hd3
  rw [x4] at hd4
  have hyt := y.toNat_lt
  have hxt := x.toNat_lt
  have hti3 : ((i : Int) + 3).toNat = i + 3 := by omega
  have hti4 : ((i : Int) + 4).toNat = i + 4 := by omega
  by_cases hy63 : y.toNat = 63
  rotate_left 1
  · have b1 : ((y.toNat : Int) == 63) = false := beq_no (by omega)
    have b2 : ((y.toNat : Int) != 63) = true := bne_yes (by omega)
    have HN : Hid (O = none) := by
      unfold Hid
      rw [HO.out]
      refine ew_d HL.out fun x' t e => ?_
      rw [← hi, hl1, hd3, hd4] at e
      injection e with _ e
      injection e with e _
      exact hy63 (by rw [e]; rfl)
    clear hi hl0 hl1 ha hl0z hd3 hd4 hx hy x3 hy63
    go_enter Tryz.func6, Tryz.ntmps6
    go_wp2_with fail
    with_reducible refine (HQ1.out _).mono ?_
    rintro e w1 ⟨rfl, rfl⟩
    go_wp2_with fail
    go_ret2
    exact ⟨by rw [HN.out]; rfl, HB.out⟩
  have b1 : ((y.toNat : Int) == 63) = true := beq_yes (by omega)
  have b2 : ((y.toNat : Int) != 63) = false := bne_no (by omega)
  obtain ⟨l2, hl2⟩ : ∃ l2, l2 = s.data.toList.drop (i + 5) := ⟨_, rfl⟩
  have HW : Hid (O = tailW s.size (l0.take i) x l2) := by
    have e1 : l0.drop (idxB 63 l0 + 1) = x :: 63 :: l2 := by
      rw [← hi, hl1, hd3, hd4, hl2, show y = 63 from toNat_eq hy63]
    unfold Hid
    rw [HO.out, ew_e HL.out (by rw [← hi]; exact ha) e1, ← hi, len_toList]
  have HSz2 := Lib.hid (extract_size' s (i + 5) s.size (Nat.le_refl _))
  obtain ⟨T2, hT2⟩ : ∃ T2, T2 = s.extract (i + 5) s.size := ⟨_, rfl⟩
  have hT2l : T2.data.toList = l2 := by rw [hT2, extract_toList, hl2]; exact List.take_of_length_le (by simp)
  have hT2z : T2.size = s.size - (i + 5) := by rw [hT2, HSz2.out]
  have hl2z : l2.length = T2.size := by rw [← hT2l, len_toList]
  have HT2 : Hid (s.extract (i + 5) s.size = T2) := hT2.symm
  have HQ2 := Lib.hid (HQu.out T2 (by omega))
  rw [hT2l] at HQ2
  have HLo1 := Lib.hid (fun W => HLo.out x W)
  have HT2l := Lib.hid hT2l
  have HNm : Hid ((s.extract 2 (2 + i)).data.toList = l0.take i) := by
    unfold Hid
    rw [extract_toList, hl0]
    congr 1
    omega
  have HNz := Lib.hid (extract_size' s 2 (2 + i) (by omega))
  clear hi hl1 hl0z hd3 hd4 hx hy hy63 hl0 hl2 hT2 hT2l ha
  go_enter Tryz.func6, Tryz.ntmps6
  go_wp2_with fail
  with_reducible refine (HQ1.out _).mono ?_
  rintro e w1 ⟨rfl, rfl⟩
  go_wp2_with fail
  with_reducible refine (HLo1.out _).mono ?_
  rintro e w1 ⟨rfl, rfl⟩
  go_wp2_with fail
  rw [HT2.out]
  with_reducible refine (HQ2.out _).mono ?_
  rintro e w1 ⟨rfl, rfl⟩
  by_cases hj : idxB 63 l2 < T2.size
  rotate_left 1
  · have HN : Hid (O = none) := by unfold Hid; rw [HW.out]; exact tailW_no (by rw [hl2z]; exact hj)
    have HBB := HB
    rw [if_neg hj]
    clear hj
    go_wp2_with fail
    go_ret2
    exact ⟨by rw [HN.out]; rfl, HBB.out⟩
  rw [if_pos hj]
  obtain ⟨j, hjj⟩ : ∃ j, j = idxB 63 l2 := ⟨_, rfl⟩
  rw [← hjj] at hj ⊢
  have HW2 : Hid (O = endW s.size (l0.take i) [x] (l2.take j) (l2.drop (j + 1))) := by
    unfold Hid
    rw [HW.out, tailW_yes (by rw [hl2z, ← hjj]; exact hj), ← hjj]
  clear hjj
  by_cases hj1 : j + 1 < T2.size
  rotate_left 1
  · have hj1i : (T2.size : Int) ≤ (j : Int) + 1 := by omega
    have HN : Hid (O = none) := by
      unfold Hid
      rw [HW2.out, List.drop_eq_nil_of_le (by omega)]
      exact endW_noclose rfl
    have HBB := HB
    clear hj1
    go_wp2_with fail
    go_ret2
    exact ⟨by rw [HN.out]; rfl, HBB.out⟩
  have hj1i : ¬ (T2.size : Int) ≤ (j : Int) + 1 := by omega
  have hj1j : (j : Int) + 1 < (T2.size : Int) := by omega
  have htij : ((j : Int) + 1).toNat = j + 1 := by omega
  have hd := drop_cons T2 (j + 1) hj1
  rw [HT2l.out] at hd
  obtain ⟨z, hz⟩ : ∃ z, z = T2[j + 1] := ⟨_, rfl⟩
  have xz : T2[j + 1] = z := hz.symm
  rw [xz] at hd
  have hzt := z.toNat_lt
  by_cases hz61 : z.toNat = 61
  rotate_left 1
  · have c1 : ((z.toNat : Int) == 61) = false := beq_no (by omega)
    have c2 : ((z.toNat : Int) != 61) = true := bne_yes (by omega)
    have HN : Hid (O = none) := by
      unfold Hid
      rw [HW2.out, hd]
      refine endW_noclose ?_
      simp only [List.isPrefixOf, Bool.and_true]
      rw [beq_eq_false_iff_ne]
      intro e
      exact hz61 (by rw [← e]; rfl)
    have HBB := HB
    clear hd hz hz61
    go_wp2_with fail
    go_ret2
    exact ⟨by rw [HN.out]; rfl, HBB.out⟩
  have c1 : ((z.toNat : Int) == 61) = true := beq_yes (by omega)
  have c2 : ((z.toNat : Int) != 61) = false := bne_no (by omega)
  have HW3 : Hid (O = endW s.size (l0.take i) [x] (l2.take j) (61 :: l2.drop (j + 2))) := by
    unfold Hid
    rw [HW2.out, hd, show z = 61 from toNat_eq hz61]
  clear hd hz hz61
  obtain ⟨T3, hT3⟩ : ∃ T3, T3 = T2.extract 0 j := ⟨_, rfl⟩
  have hT3l : T3.data.toList = l2.take j := by rw [hT3, extract_toList, HT2l.out]; simp
  have hT3z : T3.size = j := by rw [hT3, extract_size' T2 0 j (by omega)]; omega
  have HT3l := Lib.hid hT3l
  have HT3 : Hid (T2.extract 0 j = T3) := hT3.symm
  have hji : (j : Int) ≤ (T2.size : Int) := by omega
  clear hT3 hT3l
  go_upto_region 12 with fail
  rw [HT3.out]
  go_wp2_with fail
  go_loopg [8] T3.size (fun g v8 wr => ∃ k : Nat, g = T3.size - k ∧ k ≤ T3.size ∧ v8 = .int .i64 (k : Int) ∧ Hid ((l2.take j).any blk = ((l2.take j).drop k).any blk) ∧ w = wr)
  case atStart => exact ⟨0, rfl, Nat.zero_le _, rfl, by unfold Hid; rw [List.drop_zero], rfl⟩
  case round =>
    obtain ⟨k, rfl, hk, rfl, HK, rfl⟩ := hrel
    by_cases hlt : k < T3.size
    · have hdk := drop_cons T3 k hlt
      rw [HT3l.out] at hdk
      obtain ⟨u, hu⟩ : ∃ u, u = T3[k] := ⟨_, rfl⟩
      have xu : T3[k] = u := hu.symm
      rw [xu] at hdk
      have hut := u.toNat_lt
      have HD := Lib.hid hdk
      clear hdk hu
      by_cases u1 : u.toNat = 32
      · have d1 : ((u.toNat : Int) == 32) = true := beq_yes (by omega)
        have HN : Hid (O = none) := by
          unfold Hid
          rw [HW3.out]
          refine endW_blank ?_
          rw [HK.out, HD.out, List.any_cons, show u = 32 from toNat_eq u1]
          rfl
        have HBB := HB
        clear u1
        go_wp2_with fail
        go_ret2
        exact ⟨by rw [HN.out]; rfl, HBB.out⟩
      · have d1 : ((u.toNat : Int) == 32) = false := beq_no (by omega)
        by_cases u2 : u.toNat = 9
        · have d2 : ((u.toNat : Int) == 9) = true := beq_yes (by omega)
          have HN : Hid (O = none) := by
            unfold Hid
            rw [HW3.out]
            refine endW_blank ?_
            rw [HK.out, HD.out, List.any_cons, show u = 9 from toNat_eq u2]
            rfl
          have HBB := HB
          clear u1 u2
          go_wp2_with fail
          go_ret2
          exact ⟨by rw [HN.out]; rfl, HBB.out⟩
        · have d2 : ((u.toNat : Int) == 9) = false := beq_no (by omega)
          have HK2 : Hid ((l2.take j).any blk = ((l2.take j).drop (k + 1)).any blk) := by
            unfold Hid
            rw [HK.out, HD.out, List.any_cons, blk_false (by omega)]
            rfl
          clear u1 u2
          go_wp2_with fail
          go_roundg (T3.size - (k + 1))
          case measure => omega
          case rel => exact ⟨k + 1, rfl, by omega, by go_num, HK2, rfl⟩
    · have hnb : (l2.take j).any blk = false := by
        rw [HK.out, List.drop_eq_nil_of_le (by rw [← HT3l.out, len_toList]; omega)]
        rfl
      have HY : Hid (O = (textW (l0.take i) x (l2.take j)).map (fun t => (t, s.size - (l2.drop (j + 2)).length))) := by
        unfold Hid
        rw [HW3.out, endW_yes hnb]
      obtain ⟨X, hX⟩ : ∃ X, X = lowB x := ⟨_, rfl⟩
      have HX := Lib.hid hX
      rw [← hX]
      have hXt := X.toNat_lt
      clear hnb hX
      by_cases x98 : X.toNat = 98
      · have e1 : ((X.toNat : Int) == 98) = true := beq_yes (by omega)
        have e2 : ((X.toNat : Int) == 113) = false := beq_no (by omega)
        have HX98 : Hid (lowB x = 98) := by unfold Hid; rw [← HX.out]; exact toNat_eq x98
        clear x98
        cases hO1 : decS (bareS (l2.take j)) with
        | none =>
          have HN : Hid (O = none) := by
            unfold Hid
            rw [HY.out]
            unfold textW
            rw [readL_98 x _ HX98.out, hO1]
            rfl
          have HC1 := Lib.hid (fun W => HDe.out T3 (by omega) W)
          rw [HT3l.out, hO1] at HC1
          clear hO1
          go_wp2_with fail
          with_reducible refine (HC1.out _).mono ?_
          rintro e w4 ⟨rfl, hb4⟩
          have HBB := Lib.hid (HB.out.trans (hb4.mono HB.out.size))
          clear hb4
          simp only [Option.getD_none, Option.isSome_none]
          go_wp2_with fail
          go_ret2
          exact ⟨by rw [HN.out]; rfl, HBB.out⟩
        | some bb =>
          have HRd : Hid (readL x (l2.take j) = some bb) := by unfold Hid; rw [readL_98 x _ HX98.out, hO1]
          have HC1 := Lib.hid (fun W => HDe.out T3 (by omega) W)
          rw [HT3l.out, hO1] at HC1
          clear hO1
          go_wp2_with fail
          with_reducible refine (HC1.out _).mono ?_
          rintro e w4 ⟨rfl, hb4⟩
          have HBB := Lib.hid (HB.out.trans (hb4.mono HB.out.size))
          clear hb4
          simp only [Option.getD_some, Option.isSome_some]
          have HT4c := Lib.hid (fun W => HSt.out (s.extract 2 (2 + i)) (by rw [HNz.out]; omega) W)
          rw [HNm.out] at HT4c
          have HRd1 : Hid (textW (l0.take i) x (l2.take j) = textK (kindL (starL (l0.take i))) bb) := by
            unfold Hid textW
            rw [HRd.out, Option.bind_some]
          have hbbl : bb.length ≤ 10000 := by
            have := readL_len HRd.out
            rw [List.length_take] at this
            omega
          go_wp2_with fail
          with_reducible refine (HT4c.out _).mono ?_
          rintro e w5 ⟨⟨T4, rfl, hT4⟩, rfl⟩
          have hT4z : T4.size ≤ 10000 := by
            rw [bytes_len, hT4]
            unfold starL
            rw [List.length_take, List.length_take]
            omega
          have HTx1 := Lib.hid (fun W => HTx.out T4 ⟨bb.toArray⟩ (by omega) (by show bb.length ≤ _; omega) W)
          rw [hT4] at HTx1
          have HTx2 : Hid (∀ W, Calls Tryz.prog 16 #[.string T4, .string ⟨bb.toArray⟩] W fun e w' => e = .returned (errV (textW (l0.take i) x (l2.take j))) ∧ Below W.heap.size W w') := fun W => by rw [HRd1.out]; exact HTx1.out W
          clear hT4 HTx1
          cases hO : textW (l0.take i) x (l2.take j) with
          | none =>
            rw [hO] at HTx2
            have HN : Hid (O = none) := by unfold Hid; rw [HY.out, hO]; rfl
            unfold errV at HTx2
            clear hO
            go_wp2_with fail
            with_reducible refine (HTx2.out _).mono ?_
            rintro e w6 ⟨rfl, hb6⟩
            have HBB := Lib.hid (HBB.out.trans (hb6.mono HBB.out.size))
            clear hb6
            go_wp2_with fail
            go_ret2
            exact ⟨by rw [HN.out]; rfl, HBB.out⟩
          | some t =>
            rw [hO] at HTx2
            have HN : Hid (O = some (t, s.size - (l2.drop (j + 2)).length)) := by unfold Hid; rw [HY.out, hO]; rfl
            unfold errV at HTx2
            clear hO
            go_wp2_with fail
            with_reducible refine (HTx2.out _).mono ?_
            rintro e w6 ⟨rfl, hb6⟩
            have HBB := Lib.hid (HBB.out.trans (hb6.mono HBB.out.size))
            clear hb6
            go_wp2_with fail
            go_ret2
            refine ⟨?_, HBB.out⟩
            rw [HN.out]
            show _ = Ending.returned (.tuple #[.string ⟨t.toArray⟩, .int .i64 ((s.size - (l2.drop (j + 2)).length : Nat) : Int)])
            refine congrArg (fun z => Ending.returned (.tuple #[.string ⟨t.toArray⟩, .int .i64 z])) ?_
            rw [List.length_drop, hl2z]
            omega
      · have e1 : ((X.toNat : Int) == 98) = false := beq_no (by omega)
        by_cases x113 : X.toNat = 113
        · have e2 : ((X.toNat : Int) == 113) = true := beq_yes (by omega)
          have HX113 : Hid (lowB x = 113) := by unfold Hid; rw [← HX.out]; exact toNat_eq x113
          clear x98 x113
          cases hO1 : qL (l2.take j) with
          | none =>
            have HN : Hid (O = none) := by
              unfold Hid
              rw [HY.out]
              unfold textW
              rw [readL_113 x _ HX113.out, hO1]
              rfl
            have HC1 := Lib.hid (fun W => HQd.out T3 (by omega) W)
            rw [HT3l.out, hO1] at HC1
            clear hO1
            go_wp2_with fail
            with_reducible refine (HC1.out _).mono ?_
            rintro e w4 ⟨rfl, hb4⟩
            have HBB := Lib.hid (HB.out.trans (hb4.mono HB.out.size))
            clear hb4
            simp only [Option.getD_none, Option.isSome_none, decT]
            go_wp2_with fail
            go_ret2
            exact ⟨by rw [HN.out]; rfl, HBB.out⟩
          | some bb =>
            have HRd : Hid (readL x (l2.take j) = some bb) := by unfold Hid; rw [readL_113 x _ HX113.out, hO1]
            have HC1 := Lib.hid (fun W => HQd.out T3 (by omega) W)
            rw [HT3l.out, hO1] at HC1
            clear hO1
            go_wp2_with fail
            with_reducible refine (HC1.out _).mono ?_
            rintro e w4 ⟨rfl, hb4⟩
            have HBB := Lib.hid (HB.out.trans (hb4.mono HB.out.size))
            clear hb4
            simp only [Option.getD_some, Option.isSome_some, decT]
            have HT4c := Lib.hid (fun W => HSt.out (s.extract 2 (2 + i)) (by rw [HNz.out]; omega) W)
            rw [HNm.out] at HT4c
            have HRd1 : Hid (textW (l0.take i) x (l2.take j) = textK (kindL (starL (l0.take i))) bb) := by
              unfold Hid textW
              rw [HRd.out, Option.bind_some]
            have hbbl : bb.length ≤ 10000 := by
              have := readL_len HRd.out
              rw [List.length_take] at this
              omega
            go_wp2_with fail
            with_reducible refine (HT4c.out _).mono ?_
            rintro e w5 ⟨⟨T4, rfl, hT4⟩, rfl⟩
            have hT4z : T4.size ≤ 10000 := by
              rw [bytes_len, hT4]
              unfold starL
              rw [List.length_take, List.length_take]
              omega
            have HTx1 := Lib.hid (fun W => HTx.out T4 ⟨bb.toArray⟩ (by omega) (by show bb.length ≤ _; omega) W)
            rw [hT4] at HTx1
            have HTx2 : Hid (∀ W, Calls Tryz.prog 16 #[.string T4, .string ⟨bb.toArray⟩] W fun e w' => e = .returned (errV (textW (l0.take i) x (l2.take j))) ∧ Below W.heap.size W w') := fun W => by rw [HRd1.out]; exact HTx1.out W
            clear hT4 HTx1
            cases hO : textW (l0.take i) x (l2.take j) with
            | none =>
              rw [hO] at HTx2
              have HN : Hid (O = none) := by unfold Hid; rw [HY.out, hO]; rfl
              unfold errV at HTx2
              clear hO
              go_wp2_with fail
              with_reducible refine (HTx2.out _).mono ?_
              rintro e w6 ⟨rfl, hb6⟩
              have HBB := Lib.hid (HBB.out.trans (hb6.mono HBB.out.size))
              clear hb6
              go_wp2_with fail
              go_ret2
              exact ⟨by rw [HN.out]; rfl, HBB.out⟩
            | some t =>
              rw [hO] at HTx2
              have HN : Hid (O = some (t, s.size - (l2.drop (j + 2)).length)) := by unfold Hid; rw [HY.out, hO]; rfl
              unfold errV at HTx2
              clear hO
              go_wp2_with fail
              with_reducible refine (HTx2.out _).mono ?_
              rintro e w6 ⟨rfl, hb6⟩
              have HBB := Lib.hid (HBB.out.trans (hb6.mono HBB.out.size))
              clear hb6
              go_wp2_with fail
              go_ret2
              refine ⟨?_, HBB.out⟩
              rw [HN.out]
              show _ = Ending.returned (.tuple #[.string ⟨t.toArray⟩, .int .i64 ((s.size - (l2.drop (j + 2)).length : Nat) : Int)])
              refine congrArg (fun z => Ending.returned (.tuple #[.string ⟨t.toArray⟩, .int .i64 z])) ?_
              rw [List.length_drop, hl2z]
              omega
        · have e2 : ((X.toNat : Int) == 113) = false := beq_no (by omega)
          have HN : Hid (O = none) := by
            unfold Hid
            rw [HY.out]
            unfold textW
            rw [readL_no x _ (fun e => x98 (by rw [HX.out, e]; rfl)) (fun e => x113 (by rw [HX.out, e]; rfl))]
            rfl
          have HBB := HB
          clear x98 x113
          go_wp2_with fail
          go_ret2
          exact ⟨by rw [HN.out]; rfl, HBB.out⟩
end Go.Proofs.YtolkjaebhhbilaaGreatDoor
