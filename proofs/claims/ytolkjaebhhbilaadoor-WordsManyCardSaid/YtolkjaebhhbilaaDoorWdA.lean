/- strconv.ParseUint at 16 and 8, of two bytes; byteOf. -/
import Derived.Test.YtolkjaebhhbilaaDoorWdM
import Derived.Test.YtolkjaebhhbilaaDoorWdK
import Derived.Test.YtolkjaebhhbilaaDoorShelf4
import Derived.Lib.IfaceEq
import Derived.BigQuiet
import Derived.Outline
namespace Go.Proofs.YtolkjaebhhbilaaDoor
open Go Go.RowKit

def lowN (n : Nat) : Nat := n ||| 32
set_option maxRecDepth 100000 in
theorem low_facts : ∀ n, n < 256 → lowN n < 256 ∧ (48 ≤ n ∧ n ≤ 57 ∨ (97 ≤ lowN n ∧ lowN n ≤ 122 ∧ ((97 ≤ n ∧ n ≤ 122 ∧ lowN n = n) ∨ (65 ≤ n ∧ n ≤ 90 ∧ lowN n = n + 32))) ∨ (¬ (97 ≤ lowN n ∧ lowN n ≤ 122) ∧ ¬ (97 ≤ n ∧ n ≤ 122) ∧ ¬ (65 ≤ n ∧ n ≤ 90))) := by decide
theorem or_u8 (x y : Nat) (hx : x < 256) (hy : y < 256) : bits .or .u8 (x : Int) (y : Int) = ((x ||| y : Nat) : Int) := by
  have h := Nat.or_lt_two_pow (n := 8) hx hy
  show IntKind.u8.wrap ((BitVec.ofInt 8 (x : Int) ||| BitVec.ofInt 8 (y : Int)).toNat : Int) = _
  rw [BitVec.toNat_or, BitVec.ofInt_natCast, BitVec.ofInt_natCast, BitVec.toNat_ofNat, BitVec.toNat_ofNat, Nat.mod_eq_of_lt hx, Nat.mod_eq_of_lt hy]
  show ((x ||| y : Nat) : Int) % 256 = _
  omega
theorem or32 (n : Nat) (h : n < 256) : bits .or .u8 (n : Int) 32 = ((lowN n : Nat) : Int) := or_u8 n 32 h (by decide)
def errS : Value := .iface 95 (.int .i64 2)
def uintV (o : Option Nat) : Value := match o with
  | some n => .tuple #[.int .u64 (n : Int), .nilIface]
  | none => .tuple #[.int .u64 0, errS]
theorem lower_u8 (n : Nat) (w : World) (h : n < 256) :
    Calls Tryd.prog 62 #[.int .u8 (n : Int)] w fun e w' => e = .returned (.int .u8 ((lowN n : Nat) : Int)) ∧ w = w' := by
  have ho := or32 n h
  go_enter Tryd.func62, Tryd.ntmps62
  go_wp2_with fail
  go_ret
  exact ⟨rfl, rfl⟩
theorem hex_dig {c : UInt8} (h : 48 ≤ c.toNat ∧ c.toNat ≤ 57) : hexV c = some (c.toNat - 48) := by unfold hexV; rw [if_pos h]
theorem hex_let {c : UInt8} (h0 : ¬ (48 ≤ c.toNat ∧ c.toNat ≤ 57)) (h : 97 ≤ lowN c.toNat ∧ lowN c.toNat ≤ 102) : hexV c = some (lowN c.toNat - 97 + 10) := by
  have := (low_facts c.toNat c.toNat_lt).2
  unfold hexV
  rw [if_neg h0]
  by_cases h1 : 97 ≤ c.toNat ∧ c.toNat ≤ 102
  · rw [if_pos h1]
    congr 1
    omega
  · rw [if_neg h1, if_pos (by omega)]
    congr 1
    omega
theorem hex_no {c : UInt8} (h0 : ¬ (48 ≤ c.toNat ∧ c.toNat ≤ 57)) (h : ¬ (97 ≤ lowN c.toNat ∧ lowN c.toNat ≤ 102)) : hexV c = none := by
  have := (low_facts c.toNat c.toNat_lt).2
  unfold hexV
  rw [if_neg h0, if_neg (by omega), if_neg (by omega)]

set_option maxRecDepth 100000 in
set_option maxHeartbeats 4000000 in
theorem parse16_any (s : ByteArray) (w : World) (hs : s.size = 2) :
    Calls Tryd.prog 53 #[.string s, .int .i64 16, .int .i64 8] w fun e w' => e = .returned (uintV (hexs 0 s.data.toList)) ∧ Below w.heap.size w w' := by
  have HLo := Lib.hid lower_u8
  have hse : (s.toList == []) = false := by
    rw [beq_eq_false_iff_ne]
    intro e
    rw [toList_nil_iff] at e
    omega
  have hse2 : s.toList.isEmpty = false := by
    cases h : s.toList with
    | nil => rw [toList_nil_iff] at h; omega
    | cons a b => rfl
  have HSz := Lib.hid hs
  go_enter Tryd.func53, Tryd.ntmps53
  go_wp2_with (refine wpList_conv_bytes rfl (.tmp 98) 9 26 5 rfl _ rfl Tryd.underlying9 Tryd.underlying26 Tryd.underlying5 ?_; intro W1 p1 hrow1 hb1 hp1)
  have HB1 := Lib.hid hb1
  have HRow := Lib.hid hrow1
  clear hb1 hrow1 hp1 hse hs
  obtain ⟨CU, hCU⟩ : ∃ C : Int, C = 1152921504606846976 := ⟨_, rfl⟩
  rw [← hCU]
  have HCU : Hid (1000 ≤ CU) := by rw [hCU]; unfold Hid; decide
  clear hCU
  go_loopg [12, 13, 101] 2 (fun g v12 v13 v101 wr => ∃ k n : Nat, k ≤ 2 ∧ g = 2 - k ∧ v12 = .bool false ∧ v101 = .int .i64 (k : Int) ∧ v13 = .int .u64 (n : Int) ∧ n < 16 ^ k ∧ Hid (hexs 0 s.data.toList = hexs n (s.data.toList.drop k)) ∧ Hid (Below w.heap.size w wr ∧ rowAt wr w.heap.size 5 (s.data.toList.map byteV)))
  case atStart => exact ⟨0, 0, by omega, rfl, rfl, rfl, rfl, by decide, rfl, HB1.out, HRow.out⟩
  case round =>
    obtain ⟨k, n, hk, rfl, rfl, rfl, rfl, hn, HS, HBR⟩ := hrel
    have HB : Hid (Below w.heap.size w wr) := HBR.out.1
    have hn2 : n ≤ 255 := by
      rcases (show k = 0 ∨ k = 1 ∨ k = 2 by omega) with rfl | rfl | rfl <;> omega
    by_cases hlt : k < 2
    · have hn1 : n < 16 := by
        rcases (show k = 0 ∨ k = 1 by omega) with rfl | rfl <;> omega
      have hks : k < s.size := by have := HSz.out; omega
      have hkl : k < (s.data.toList.map byteV).length := by simpa using hks
      have hki : (k : Int) < (s.size : Int) := by omega
      have x0 := HBR.out.2.cell k hkl
      obtain ⟨c, hc⟩ : ∃ c, c = s[k] := ⟨_, rfl⟩
      have HD := Lib.hid (drop_cons s k hks)
      rw [← hc] at HD
      have x1 : wr.cell? ⟨w.heap.size, k, none⟩ = some (.int .u8 (c.toNat : Int)) := by
        rw [x0, hc]
        simp [byteV]
        rfl
      clear x0 hc hkl
      have hcl := c.toNat_lt
      have HLo1 := Lib.hid (fun W => HLo.out c.toNat W hcl)
      have hlow := (low_facts c.toNat hcl).1
      have hlow2 := (low_facts c.toNat hcl).2
      obtain ⟨lo, hlo⟩ : ∃ lo, lo = lowN c.toNat := ⟨_, rfl⟩
      have HLo := Lib.hid hlo
      rw [← hlo] at HLo1 hlow hlow2
      have HP : Hid (16 ^ (k + 1) = 16 * 16 ^ k) := by unfold Hid; omega
      have hbd : ∀ d, d < 16 → 16 * n + d < 16 ^ (k + 1) := fun d hd => by
        rw [HP.out]
        omega
      have b95 : ((((c.toNat : Nat) : Int) == 95) = true) ∨ ((((c.toNat : Nat) : Int) == 95) = false) := by
        rcases Bool.eq_false_or_eq_true (((c.toNat : Nat) : Int) == 95) with h | h
        · exact .inl h
        · exact .inr h
      have Hbd := Lib.hid hbd
      have hbig : ¬ CU ≤ (n : Int) := by have := HCU.out; omega
      clear hbd hn
      by_cases hdig : 48 ≤ c.toNat ∧ c.toNat ≤ 57
      · have Hx : Hid (hexV c = some (c.toNat - 48)) := hex_dig hdig
        have b1 : (((c.toNat : Nat) : Int) == 95) = false := beq_no (by omega)
        have h48 : (48 : Int) ≤ ((c.toNat : Nat) : Int) := by omega
        have h57 : ((c.toNat : Nat) : Int) ≤ 57 := by omega
        clear hlow2 b95 hlo
        go_wp2_with (first | (go_at_call 62; refine (HLo1.out _).mono ?_; rintro e w' ⟨rfl, rfl⟩))
        go_roundg (2 - (k + 1))
        case measure => omega
        case rel =>
          refine ⟨k + 1, 16 * n + (c.toNat - 48), by omega, rfl, rfl, by go_num, by go_num, Hbd.out _ (by omega), ?_, HBR⟩
          unfold Hid
          rw [HS.out, HD.out]
          show (match hexV c with | some d => hexs (16 * n + d) _ | none => none) = _
          rw [Hx.out]
      · have HNd := Lib.hid hdig
        by_cases hlet : 97 ≤ lo ∧ lo ≤ 122
        · have b1 : (((c.toNat : Nat) : Int) == 95) = false := beq_no (by omega)
          have h48 : (48 : Int) ≤ ((c.toNat : Nat) : Int) := by omega
          have h57 : ¬ ((c.toNat : Nat) : Int) ≤ 57 := by omega
          by_cases h102 : lo ≤ 102
          · have Hx : Hid (hexV c = some (lo - 97 + 10)) := by unfold Hid; rw [hlo]; exact hex_let HNd.out (by rw [← hlo]; omega)
            clear hlow2 b95 hlo
            go_wp2_with (first | (go_at_call 62; refine (HLo1.out _).mono ?_; rintro e w' ⟨rfl, rfl⟩))
            go_roundg (2 - (k + 1))
            case measure => omega
            case rel =>
              refine ⟨k + 1, 16 * n + (lo - 97 + 10), by omega, rfl, rfl, by go_num, by go_num, Hbd.out _ (by omega), ?_, HBR⟩
              unfold Hid
              rw [HS.out, HD.out]
              show (match hexV c with | some d => hexs (16 * n + d) _ | none => none) = _
              rw [Hx.out]
          · have Hx : Hid (hexV c = none) := hex_no HNd.out (by rw [← hlo]; omega)
            clear hlow2 b95 hlo
            go_wp2_with (first | (go_at_call 62; refine (HLo1.out _).mono ?_; rintro e w' ⟨rfl, rfl⟩))
            go_ret2
            refine ⟨?_, HB.out⟩
            rw [HS.out, HD.out]
            show _ = Ending.returned (uintV (match hexV c with | some d => hexs (16 * n + d) _ | none => none))
            rw [Hx.out]
            rfl
        · have Hx : Hid (hexV c = none) := hex_no HNd.out (by rw [← hlo]; omega)
          have hlx : lo < 97 ∨ 122 < lo := by omega
          clear hlow2 hlo hlet
          by_cases h48' : 48 ≤ c.toNat
          · have h48 : (48 : Int) ≤ ((c.toNat : Nat) : Int) := by omega
            have h57 : ¬ ((c.toNat : Nat) : Int) ≤ 57 := by omega
            rcases b95 with b1 | b1
            all_goals rcases hlx with hlx | hlx
            all_goals
              go_wp2_with (first | (go_at_call 62; refine (HLo1.out _).mono ?_; rintro e w' ⟨rfl, rfl⟩))
              go_ret2
              refine ⟨?_, HB.out⟩
              rw [HS.out, HD.out]
              show _ = Ending.returned (uintV (match hexV c with | some d => hexs (16 * n + d) _ | none => none))
              rw [Hx.out]
              rfl
          · have b1 : (((c.toNat : Nat) : Int) == 95) = false := beq_no (by omega)
            rcases hlx with hlx | hlx
            all_goals
              go_wp2_with (first | (go_at_call 62; refine (HLo1.out _).mono ?_; rintro e w' ⟨rfl, rfl⟩))
              go_ret2
              refine ⟨?_, HB.out⟩
              rw [HS.out, HD.out]
              show _ = Ending.returned (uintV (match hexV c with | some d => hexs (16 * n + d) _ | none => none))
              rw [Hx.out]
              rfl
    · obtain rfl : k = 2 := by omega
      have HE : Hid (s.data.toList.drop 2 = []) := List.drop_eq_nil_of_le (by have := HSz.out; simp; omega)
      have hns : ¬ ((2 : Int) < (s.size : Int)) := by have := HSz.out; omega
      have hk2 : ((2 : Nat) : Int) = 2 := rfl
      go_wp2_with fail
      go_ret2
      refine ⟨?_, HB.out⟩
      rw [HS.out, HE.out]
      rfl
/-- What the variables hold. -/
def errAt (w : World) : Prop := ∃ te pe, w.cell? ⟨2, 0, none⟩ = some (.iface te pe)
theorem errAt.lt {w : World} (h : errAt w) : 2 < w.heap.size := by
  obtain ⟨te, pe, h⟩ := h
  exact World.block_lt_of_cell? _ _ h
def pErr (e : Ending) : Prop := ∃ N, e = .returned (.tuple #[.int .u64 0, .iface 96 (.pointer (some ⟨N, 0, none⟩))])
set_option maxRecDepth 100000 in
theorem parseUint_any (s : ByteArray) (w : World) (hs : s.size = 2) (he : errAt w) :
    Calls Tryd.prog 45 #[.string s, .int .i64 16, .int .i64 8] w fun e w' => (match hexs 0 s.data.toList with | some n => e = .returned (.tuple #[.int .u64 (n : Int), .nilIface]) | none => pErr e) ∧ Below w.heap.size w w' := by
  have HP := Lib.hid (fun W => parse16_any s W hs)
  have hl := he.lt
  have HT := Lib.hid (fun fn ev W hv hev => Tryd.strconv_toError_syntax fn s 16 8 ev W (by omega) hv hev)
  have HE := Lib.hid he
  clear he hs
  cases hx : hexs 0 s.data.toList with
  | some n =>
    rw [hx] at HP
    unfold uintV at HP
    clear hx
    go_enter Tryd.func45, Tryd.ntmps45
    go_wp2_with fail
    with_reducible refine (HP.out _).mono ?_
    rintro e w1 ⟨rfl, hb1⟩
    go_wp2_with fail
    go_ret2
    exact ⟨rfl, hb1⟩
  | none =>
    rw [hx] at HP
    unfold uintV errS at HP
    clear hx
    go_enter Tryd.func45, Tryd.ntmps45
    go_wp2_with fail
    with_reducible refine (HP.out _).mono ?_
    rintro e w1 ⟨rfl, hb1⟩
    have HB1 := Lib.hid hb1
    obtain ⟨te, pe, hc⟩ := HE.out
    have HC := Lib.hid ((hb1.cell (p := ⟨2, 0, none⟩) hl).trans hc)
    clear hb1 hc
    go_wp2_with fail
    with_reducible refine (HT.out _ _ w1 HC.out (.inr ⟨te, pe, rfl⟩)).mono ?_
    rintro e w2 ⟨N, rfl, _, _, hb2⟩
    have HB2 := Lib.hid (HB1.out.trans (hb2.mono HB1.out.size))
    clear hb2
    go_wp2_with fail
    go_ret2
    exact ⟨⟨N, rfl⟩, HB2.out⟩


theorem errAt.below {w w' : World} (h : errAt w) (hb : Below w.heap.size w w') : errAt w' := by
  have hl := h.lt
  obtain ⟨te, pe, h2⟩ := h
  exact ⟨te, pe, (hb.cell (p := ⟨2, 0, none⟩) hl).trans h2⟩
/-- The byte that the first two digits tell. -/
def codeV : Option Nat → Ending → Prop
  | some n, e => e = .returned (.tuple #[.int .u8 (n : Int), .bool true])
  | none, e => ∃ x, e = .returned (.tuple #[x, .bool false])
def codeQ (l : List UInt8) : Option Nat := match l with
  | a :: b :: _ => hexs 0 [a, b]
  | _ => none
set_option maxRecDepth 100000 in
set_option maxHeartbeats 1000000 in
theorem byteOf_any (ao : Option Addr) (n cap : Nat) (l : List UInt8) (w : World) (hn : l.length = n) (hs : sliceAt w ao l) (hc : n ≤ cap) (hm : cap ≤ maxLen) (he : errAt w) :
    Calls Tryd.prog 37 #[.slice ao n cap] w fun e w' => codeV (codeQ l) e ∧ Below w.heap.size w w' := by
  subst hn
  unfold maxLen at hm
  by_cases h2 : l.length < 2
  · have h2i : (l.length : Int) < 2 := by omega
    have HN : Hid (codeQ l = none) := by
      match l, h2 with
      | [], _ => rfl
      | [_], _ => rfl
    clear hs
    go_enter Tryd.func37, Tryd.ntmps37
    go_wp2_with fail
    go_ret2
    exact ⟨by rw [HN.out]; exact ⟨_, rfl⟩, Below.refl _ _⟩
  · have h2i : ¬ (l.length : Int) < 2 := by omega
    obtain ⟨a, b, r, rfl⟩ : ∃ a b r, l = a :: b :: r := by
      match l, h2 with
      | [], h => simp at h
      | [_], h => simp at h
      | a :: b :: r, _ => exact ⟨a, b, r, rfl⟩
    obtain ⟨n, hn⟩ : ∃ n, n = (a :: b :: r).length := ⟨_, rfl⟩
    have ht : sliceAt w ao [a, b] := hs.take 2
    have hconv : (convert 26 9 (.slice ao 2 cap)).run Tryd.prog w = .ok (.string ⟨#[a, b]⟩) w := bytesArg_string (ht.arg (by simp at h2 ⊢; omega) (by unfold maxLen; omega))
    have HP := Lib.hid (parseUint_any ⟨#[a, b]⟩ w rfl he)
    have HQ : Hid (codeQ (a :: b :: r) = hexs 0 [a, b]) := rfl
    have HLt := Lib.hid (hexs_lt a b)
    obtain ⟨B, hB⟩ : ∃ B, B = (⟨#[a, b]⟩ : ByteArray) := ⟨_, rfl⟩
    have HD : Hid (B.data.toList = [a, b]) := by rw [hB]; rfl
    rw [← hB] at hconv HP
    have h2c : 2 ≤ cap := by simp at hc; omega
    rw [← hn] at h2i h2 hc ⊢
    clear hB hn ht hs he
    cases hx : hexs 0 [a, b] with
    | some k =>
      have hk : k < 256 := HLt.out k hx
      unfold Hid at HP
      rw [HD.out, hx] at HP
      have HX := Lib.hid hx
      replace HP := Lib.hid HP
      clear hx
      go_enter Tryd.func37, Tryd.ntmps37
      go_wp2_with fail
      with_reducible refine HP.out.mono ?_
      rintro e w1 ⟨rfl, hb1⟩
      have HB1 := Lib.hid hb1
      clear hb1 hconv
      go_wp2_with fail
      refine wp_region_below (by kernel_rfl) (by kernel_rfl) ?_
      repeat (go_big_quiet_step (fail))
      refine wpQuiet_nil ?_
      rintro W2 ⟨⟨_, hb2⟩, rfl⟩
      go_wp2_with fail
      go_ret2
      exact ⟨by rw [HQ.out, HX.out]; rfl, HB1.out.trans (hb2.mono HB1.out.size)⟩
    | none =>
      unfold Hid at HP
      rw [HD.out, hx] at HP
      have HX := Lib.hid hx
      replace HP := Lib.hid HP
      clear hx
      go_enter Tryd.func37, Tryd.ntmps37
      go_wp2_with fail
      with_reducible refine HP.out.mono ?_
      rintro e w1 ⟨⟨N, rfl⟩, hb1⟩
      have HB1 := Lib.hid hb1
      clear hb1 hconv
      go_wp2_with fail
      refine wp_region_below (by kernel_rfl) (by kernel_rfl) ?_
      repeat (go_big_quiet_step (fail))
      refine wpQuiet_nil ?_
      rintro W2 ⟨⟨_, hb2⟩, rfl⟩
      go_wp2_with fail
      go_ret2
      exact ⟨by rw [HQ.out, HX.out]; exact ⟨_, rfl⟩, HB1.out.trans (hb2.mono HB1.out.size)⟩
end Go.Proofs.YtolkjaebhhbilaaDoor
