/- strconv.ParseUint at 16 and 8, of two bytes. -/
import Derived.Test.YtkmgflnmffdhjaaGreatDoorGbAdM
import Derived.Test.YtkmgflnmffdhjaaGreatDoorGbParC
import Derived.Test.YtkmgflnmffdhjaaGreatDoorShelf4
import Derived.Lib.IfaceEq
import Derived.Lib.BufferOwn
namespace Go.Proofs.YtkmgflnmffdhjaaGreatDoor
open Go Go.RowKit

def hexs : Nat → List UInt8 → Option Nat
  | n, [] => some n
  | n, c :: l => match hexV c with
    | some d => hexs (16 * n + d) l
    | none => none
theorem hexV_lt {c : UInt8} {d : Nat} (h : hexV c = some d) : d < 16 := by
  unfold hexV at h
  split at h
  · cases h; omega
  · split at h
    · cases h; omega
    · split at h
      · cases h; omega
      · cases h
def lowN (n : Nat) : Nat := n ||| 32
set_option maxRecDepth 100000 in
theorem low_facts : ∀ n, n < 256 → lowN n < 256 ∧ (48 ≤ n ∧ n ≤ 57 ∨ (97 ≤ lowN n ∧ lowN n ≤ 122 ∧ ((97 ≤ n ∧ n ≤ 122 ∧ lowN n = n) ∨ (65 ≤ n ∧ n ≤ 90 ∧ lowN n = n + 32))) ∨ (¬ (97 ≤ lowN n ∧ lowN n ≤ 122) ∧ ¬ (97 ≤ n ∧ n ≤ 122) ∧ ¬ (65 ≤ n ∧ n ≤ 90))) := by decide
theorem or_u8 (x y : Nat) (hx : x < 256) (hy : y < 256) : bits .or .u8 (x : Int) (y : Int) = ((x ||| y : Nat) : Int) := by
  have h := Nat.or_lt_two_pow (n := 8) hx hy
  show IntKind.u8.wrap ((BitVec.ofInt 8 (x : Int) ||| BitVec.ofInt 8 (y : Int)).toNat : Int) = _
  rw [BitVec.toNat_or, BitVec.ofInt_natCast, BitVec.ofInt_natCast, BitVec.toNat_ofNat, BitVec.toNat_ofNat, Nat.mod_eq_of_lt hx, Nat.mod_eq_of_lt hy]
  show ((x ||| y : Nat) : Int) % 256 = _
  omega
theorem or32 (n : Nat) (h : n < 256) : bits .or .u8 (n : Int) 32 = ((lowN n : Nat) : Int) := or_u8 n 32 h (by decide)
def errS : Value := .iface 283 (.int .i64 2)
def uintV (o : Option Nat) : Value := match o with
  | some n => .tuple #[.int .u64 (n : Int), .nilIface]
  | none => .tuple #[.int .u64 0, errS]
theorem lower_u8 (n : Nat) (w : World) (h : n < 256) :
    Calls Tryz.prog 205 #[.int .u8 (n : Int)] w fun e w' => e = .returned (.int .u8 ((lowN n : Nat) : Int)) ∧ w = w' := by
  have ho := or32 n h
  go_enter Tryz.func205, Tryz.ntmps205
  go_wp2_with fail
  go_ret
  exact ⟨rfl, rfl⟩
theorem hex_dig {c : UInt8} (h : 48 ≤ c.toNat ∧ c.toNat ≤ 57) : hexV c = some (c.toNat - 48) := by unfold hexV; rw [if_pos h]
theorem hex_let {c : UInt8} (h0 : ¬ (48 ≤ c.toNat ∧ c.toNat ≤ 57)) (h : 97 ≤ lowN c.toNat ∧ lowN c.toNat ≤ 102) : hexV c = some (lowN c.toNat - 97 + 10) := by
  have := (low_facts c.toNat c.toNat_lt).2
  unfold hexV
  rw [if_neg h0]
  by_cases h1 : 97 ≤ c.toNat ∧ c.toNat ≤ 102
  · rw [if_pos h1]
    congr 1
    omega
  · rw [if_neg h1, if_pos (by omega)]
    congr 1
    omega
theorem hex_no {c : UInt8} (h0 : ¬ (48 ≤ c.toNat ∧ c.toNat ≤ 57)) (h : ¬ (97 ≤ lowN c.toNat ∧ lowN c.toNat ≤ 102)) : hexV c = none := by
  have := (low_facts c.toNat c.toNat_lt).2
  unfold hexV
  rw [if_neg h0, if_neg (by omega), if_neg (by omega)]

set_option maxRecDepth 100000 in
set_option maxHeartbeats 4000000 in
theorem parse16_any (s : ByteArray) (w : World) (hs : s.size = 2) :
    Calls Tryz.prog 179 #[.string s, .int .i64 16, .int .i64 8] w fun e w' => e = .returned (uintV (hexs 0 s.data.toList)) ∧ Below w.heap.size w w' := by
  have HLo := Lib.hid lower_u8
  have hse : (s.toList == []) = false := by
    rw [beq_eq_false_iff_ne]
    intro e
    rw [toList_nil_iff] at e
    omega
  have hse2 : s.toList.isEmpty = false := by
    cases h : s.toList with
    | nil => rw [toList_nil_iff] at h; omega
    | cons a b => rfl
  have HSz := Lib.hid hs
  go_enter Tryz.func179, Tryz.ntmps179
  go_wp2_with (refine wpList_conv_bytes rfl (.tmp 98) 9 22 5 rfl _ rfl Tryz.underlying9 Tryz.underlying22 Tryz.underlying5 ?_; intro W1 p1 hrow1 hb1 hp1)
  have HB1 := Lib.hid hb1
  have HRow := Lib.hid hrow1
  clear hb1 hrow1 hp1 hse hs
  obtain ⟨CU, hCU⟩ : ∃ C : Int, C = 1152921504606846976 := ⟨_, rfl⟩
  rw [← hCU]
  have HCU : Hid (1000 ≤ CU) := by rw [hCU]; unfold Hid; decide
  clear hCU
  go_loopg [12, 13, 101] 2 (fun g v12 v13 v101 wr => ∃ k n : Nat, k ≤ 2 ∧ g = 2 - k ∧ v12 = .bool false ∧ v101 = .int .i64 (k : Int) ∧ v13 = .int .u64 (n : Int) ∧ n < 16 ^ k ∧ Hid (hexs 0 s.data.toList = hexs n (s.data.toList.drop k)) ∧ Hid (Below w.heap.size w wr ∧ rowAt wr w.heap.size 5 (s.data.toList.map byteV)))
  case atStart => exact ⟨0, 0, by omega, rfl, rfl, rfl, rfl, by decide, rfl, HB1.out, HRow.out⟩
  case round =>
    obtain ⟨k, n, hk, rfl, rfl, rfl, rfl, hn, HS, HBR⟩ := hrel
    have HB : Hid (Below w.heap.size w wr) := HBR.out.1
    have hn2 : n ≤ 255 := by
      rcases (show k = 0 ∨ k = 1 ∨ k = 2 by omega) with rfl | rfl | rfl <;> omega
    by_cases hlt : k < 2
    · have hn1 : n < 16 := by
        rcases (show k = 0 ∨ k = 1 by omega) with rfl | rfl <;> omega
      have hks : k < s.size := by have := HSz.out; omega
      have hkl : k < (s.data.toList.map byteV).length := by simpa using hks
      have hki : (k : Int) < (s.size : Int) := by omega
      have x0 := HBR.out.2.cell k hkl
      obtain ⟨c, hc⟩ : ∃ c, c = s[k] := ⟨_, rfl⟩
      have HD := Lib.hid (drop_cons s k hks)
      rw [← hc] at HD
      have x1 : wr.cell? ⟨w.heap.size, k, none⟩ = some (.int .u8 (c.toNat : Int)) := by
        rw [x0, hc]
        simp [byteV]
        rfl
      clear x0 hc hkl
      have hcl := c.toNat_lt
      have HLo1 := Lib.hid (fun W => HLo.out c.toNat W hcl)
      have hlow := (low_facts c.toNat hcl).1
      have hlow2 := (low_facts c.toNat hcl).2
      obtain ⟨lo, hlo⟩ : ∃ lo, lo = lowN c.toNat := ⟨_, rfl⟩
      have HLo := Lib.hid hlo
      rw [← hlo] at HLo1 hlow hlow2
      have HP : Hid (16 ^ (k + 1) = 16 * 16 ^ k) := by unfold Hid; omega
      have hbd : ∀ d, d < 16 → 16 * n + d < 16 ^ (k + 1) := fun d hd => by
        rw [HP.out]
        omega
      have b95 : ((((c.toNat : Nat) : Int) == 95) = true) ∨ ((((c.toNat : Nat) : Int) == 95) = false) := by
        rcases Bool.eq_false_or_eq_true (((c.toNat : Nat) : Int) == 95) with h | h
        · exact .inl h
        · exact .inr h
      have Hbd := Lib.hid hbd
      have hbig : ¬ CU ≤ (n : Int) := by have := HCU.out; omega
      clear hbd hn
      by_cases hdig : 48 ≤ c.toNat ∧ c.toNat ≤ 57
      · have Hx : Hid (hexV c = some (c.toNat - 48)) := hex_dig hdig
        have b1 : (((c.toNat : Nat) : Int) == 95) = false := beq_no (by omega)
        have h48 : (48 : Int) ≤ ((c.toNat : Nat) : Int) := by omega
        have h57 : ((c.toNat : Nat) : Int) ≤ 57 := by omega
        clear hlow2 b95 hlo
        go_wp2_with (first | (go_at_call 205; refine (HLo1.out _).mono ?_; rintro e w' ⟨rfl, rfl⟩))
        go_roundg (2 - (k + 1))
        case measure => omega
        case rel =>
          refine ⟨k + 1, 16 * n + (c.toNat - 48), by omega, rfl, rfl, by go_num, by go_num, Hbd.out _ (by omega), ?_, HBR⟩
          unfold Hid
          rw [HS.out, HD.out]
          show (match hexV c with | some d => hexs (16 * n + d) _ | none => none) = _
          rw [Hx.out]
      · have HNd := Lib.hid hdig
        by_cases hlet : 97 ≤ lo ∧ lo ≤ 122
        · have b1 : (((c.toNat : Nat) : Int) == 95) = false := beq_no (by omega)
          have h48 : (48 : Int) ≤ ((c.toNat : Nat) : Int) := by omega
          have h57 : ¬ ((c.toNat : Nat) : Int) ≤ 57 := by omega
          by_cases h102 : lo ≤ 102
          · have Hx : Hid (hexV c = some (lo - 97 + 10)) := by unfold Hid; rw [hlo]; exact hex_let HNd.out (by rw [← hlo]; omega)
            clear hlow2 b95 hlo
            go_wp2_with (first | (go_at_call 205; refine (HLo1.out _).mono ?_; rintro e w' ⟨rfl, rfl⟩))
            go_roundg (2 - (k + 1))
            case measure => omega
            case rel =>
              refine ⟨k + 1, 16 * n + (lo - 97 + 10), by omega, rfl, rfl, by go_num, by go_num, Hbd.out _ (by omega), ?_, HBR⟩
              unfold Hid
              rw [HS.out, HD.out]
              show (match hexV c with | some d => hexs (16 * n + d) _ | none => none) = _
              rw [Hx.out]
          · have Hx : Hid (hexV c = none) := hex_no HNd.out (by rw [← hlo]; omega)
            clear hlow2 b95 hlo
            go_wp2_with (first | (go_at_call 205; refine (HLo1.out _).mono ?_; rintro e w' ⟨rfl, rfl⟩))
            go_ret2
            refine ⟨?_, HB.out⟩
            rw [HS.out, HD.out]
            show _ = Ending.returned (uintV (match hexV c with | some d => hexs (16 * n + d) _ | none => none))
            rw [Hx.out]
            rfl
        · have Hx : Hid (hexV c = none) := hex_no HNd.out (by rw [← hlo]; omega)
          have hlx : lo < 97 ∨ 122 < lo := by omega
          clear hlow2 hlo hlet
          by_cases h48' : 48 ≤ c.toNat
          · have h48 : (48 : Int) ≤ ((c.toNat : Nat) : Int) := by omega
            have h57 : ¬ ((c.toNat : Nat) : Int) ≤ 57 := by omega
            rcases b95 with b1 | b1
            all_goals rcases hlx with hlx | hlx
            all_goals
              go_wp2_with (first | (go_at_call 205; refine (HLo1.out _).mono ?_; rintro e w' ⟨rfl, rfl⟩))
              go_ret2
              refine ⟨?_, HB.out⟩
              rw [HS.out, HD.out]
              show _ = Ending.returned (uintV (match hexV c with | some d => hexs (16 * n + d) _ | none => none))
              rw [Hx.out]
              rfl
          · have b1 : (((c.toNat : Nat) : Int) == 95) = false := beq_no (by omega)
            rcases hlx with hlx | hlx
            all_goals
              go_wp2_with (first | (go_at_call 205; refine (HLo1.out _).mono ?_; rintro e w' ⟨rfl, rfl⟩))
              go_ret2
              refine ⟨?_, HB.out⟩
              rw [HS.out, HD.out]
              show _ = Ending.returned (uintV (match hexV c with | some d => hexs (16 * n + d) _ | none => none))
              rw [Hx.out]
              rfl
    · obtain rfl : k = 2 := by omega
      have HE : Hid (s.data.toList.drop 2 = []) := List.drop_eq_nil_of_le (by have := HSz.out; simp; omega)
      have hns : ¬ ((2 : Int) < (s.size : Int)) := by have := HSz.out; omega
      have hk2 : ((2 : Nat) : Int) = 2 := rfl
      go_wp2_with fail
      go_ret2
      refine ⟨?_, HB.out⟩
      rw [HS.out, HE.out]
      rfl
end Go.Proofs.YtkmgflnmffdhjaaGreatDoor

/- Contracts of package params: the reader's parts. -/
namespace Go.Proofs.YtkmgflnmffdhjaaGreatDoor
open Go Go.RowKit

/-- A reader of a text, at a place in it. -/
structure Rd (W : World) (B : Nat) (s : ByteArray) (k : Nat) : Prop where
  c0 : W.cell? ⟨B, 0, none⟩ = some (.string s)
  c1 : W.cell? ⟨B, 1, none⟩ = some (.int .i64 (k : Int))
  f1 : W.frozen? ⟨B, 1, none⟩ = false
theorem Rd.lt {W : World} {B : Nat} {s : ByteArray} {k : Nat} (h : Rd W B s k) : B < W.heap.size := World.block_lt_of_cell? _ _ h.c0
theorem Rd.block {W W' : World} {B : Nat} {s : ByteArray} {k : Nat} (h : Rd W B s k) (hb : W'.heap[B]? = W.heap[B]?) : Rd W' B s k :=
  ⟨(World.cell?_of_block (a := ⟨B, 0, none⟩) hb).trans h.c0, (World.cell?_of_block (a := ⟨B, 1, none⟩) hb).trans h.c1, (World.frozen?_of_block (a := ⟨B, 1, none⟩) hb).trans h.f1⟩
theorem Rd.below {W W' : World} {B : Nat} {s : ByteArray} {k : Nat} (h : Rd W B s k) (hb : Below W.heap.size W W') : Rd W' B s k := h.block (hb.block B h.lt)
theorem Rd.set {W : World} {B : Nat} {s : ByteArray} {k : Nat} (h : Rd W B s k) (j : Nat) : Rd (W.setCell ⟨B, 1, none⟩ (.int .i64 (j : Int))) B s j :=
  ⟨(World.cell?_setCell_other _ ⟨B, 1, none⟩ ⟨B, 0, none⟩ _ (by simp)).trans h.c0, World.cell?_setCell_same _ _ _ h.c1, (World.frozen?_setCell _ _ _ _).trans h.f1⟩
/-- All that lay lies as it lay, but for one block. -/
def Gr (B : Nat) (W W' : World) : Prop := W.grownBy W' (some B)
theorem Gr.refl (B : Nat) (W : World) : Gr B W W := ⟨rfl, rfl, rfl, Nat.le_refl _, fun _ _ _ => rfl⟩
theorem Gr.trans {B : Nat} {a b c : World} (h : Gr B a b) (k : Gr B b c) : Gr B a c := World.grownBy.trans h k
theorem Gr.below {B : Nat} {a b c : World} (h : Gr B a b) (k : Below b.heap.size b c) : Gr B a c := h.trans ⟨k.os, k.tape, k.output, k.size, fun i hi _ => k.block i hi⟩
theorem Gr.set {B : Nat} {a b : World} (h : Gr B a b) (j : Nat) (u : Value) : Gr B a (b.setCell ⟨B, j, none⟩ u) := h.trans (grownBy_setCell b ⟨B, j, none⟩ u)
theorem Gr.size {B : Nat} {a b : World} (h : Gr B a b) : a.heap.size ≤ b.heap.size := World.grownBy.size h

theorem sk_blank {c : UInt8} (l : List UInt8) (h : blk c = true) : sk (c :: l) = sk l := by
  show (if blk c = true then _ else _) = _
  rw [if_pos h]
  rfl
theorem sk_stay {c : UInt8} (l : List UInt8) (h : blk c = false) (h2 : c ≠ 40) : sk (c :: l) = c :: l := by
  show (if blk c = true then _ else if c = 40 then _ else _) = _
  rw [if_neg (by rw [h]; simp), if_neg h2]
theorem blank_byte (c : UInt8) (w : World) :
    Calls Tryz.prog 81 #[.int .u8 (c.toNat : Int)] w fun e w' => e = .returned (.bool (blk c)) ∧ w = w' :=
  blank_any _ w

set_option maxRecDepth 100000 in
set_option maxHeartbeats 2000000 in
theorem skip_any (B : Nat) (s : ByteArray) (k : Nat) (w : World) (hr : Rd w B s k) (hl : s.size ≤ 1000000000) (hk : k ≤ s.size) :
    Calls Tryz.prog 96 #[.pointer (some ⟨B, 0, none⟩)] w fun e w' => e = .returned (.tuple #[]) ∧ ∃ k', Rd w' B s k' ∧ k ≤ k' ∧ k' ≤ s.size ∧ s.data.toList.drop k' = sk (s.data.toList.drop k) ∧ Gr B w w' := by
  have HR := Lib.hid hr
  have HBl := Lib.hid blank_byte
  have HC := Lib.hid (fun j W h h40 => behindComment_any s j W hl h h40)
  clear hr
  go_enter Tryz.func96, Tryz.ntmps96
  go_wp2_with fail
  go_step3
  go_wp2_with fail
  go_step3
  go_wp2_with fail
  go_loopg [2] (s.size - k) (fun g _ wr => ∃ j : Nat, g = s.size - j ∧ k ≤ j ∧ j ≤ s.size ∧ Hid (Rd wr B s j) ∧ Hid (Gr B w wr) ∧ Hid (sk (s.data.toList.drop k) = sk (s.data.toList.drop j)))
  case atStart => exact ⟨k, by omega, by omega, by omega, HR.out, Gr.refl _ _, rfl⟩
  case round =>
    obtain ⟨j, rfl, hkj, hj, HRj, HG, HS⟩ := hrel
    have c0 := HRj.out.c0
    have c1 := HRj.out.c1
    have f1 := HRj.out.f1
    have C0 := BW.cell c0
    have C1 := BW.cell c1
    by_cases hlt : j < s.size
    · have hd : ((j : Int) < (s.size : Int)) := by omega
      have HD := Lib.hid (drop_cons s j hlt)
      rw [HD.out] at HS
      have HCj := Lib.hid (fun W => HC.out j W hlt)
      have HBj := Lib.hid (HBl.out s[j])
      go_wp2_with fail
      refine wp_region_below (by kernel_rfl) (by kernel_rfl) ?_
      repeat (go_big_quiet_step (fail))
      refine wpQuiet_nil ?_
      rintro W1 ⟨⟨_, hb1⟩, rfl⟩
      have HR1 := Lib.hid (HRj.out.below hb1)
      have HG1 := Lib.hid (HG.out.below hb1)
      replace C0 := BW.cell HR1.out.c0
      replace C1 := BW.cell HR1.out.c1
      clear hb1 HRj HG f1 c0 c1
      go_wp2_with fail
      refine wp_region_below (by kernel_rfl) (by kernel_rfl) ?_
      repeat (go_big_quiet_step (fail))
      refine wpQuiet_nil ?_
      rintro W2 ⟨⟨_, hb2⟩, rfl⟩
      have HR2 := Lib.hid (HR1.out.below hb2)
      have HG2 := Lib.hid (HG1.out.below hb2)
      have c0 := HR2.out.c0
      have c1 := HR2.out.c1
      have f1 := HR2.out.f1
      clear hb2 HR1 HG1 C0 C1
      rcases Bool.eq_false_or_eq_true (blk s[j]) with hb | hb
      · have HSk := Lib.hid (sk_blank (s.data.toList.drop (j + 1)) hb)
        have HB2 := Lib.hid (fun W => HBj.out W)
        rw [hb] at HB2
        go_wp2_with (go_at_call 81; refine (HB2.out _).mono ?_; rintro e w1 ⟨rfl, rfl⟩)
        go_roundg (s.size - (j + 1))
        case measure => omega
        case rel => exact ⟨j + 1, rfl, by omega, by omega, HR2.out.set (j + 1), HG2.out.set 1 _, by unfold Hid; rw [HS.out, HSk.out]⟩
      · have HB2 := Lib.hid (fun W => HBj.out W)
        rw [hb] at HB2
        by_cases h40 : s[j].toNat = 40
        · have b2 : (((s[j].toNat : Nat) : Int) == 40) = true := beq_yes (by omega)
          have HC40 := Lib.hid (fun W => HC.out j W hlt h40)
          clear h40 HCj
          go_wp2_with (go_at_call 81; refine (HB2.out _).mono ?_; rintro e w1 ⟨rfl, rfl⟩)
          go_region_with (go_at_call 128; refine (HC40.out _).mono ?_; rintro e w1 ⟨r, rfl, hr1, hr2, hr3, rfl⟩)
          all_goals
            go_wp2_with fail
            go_roundg (s.size - r)
            case measure => omega
            case rel => exact ⟨r, rfl, by omega, hr2, (HR2.out.set r).below (Below.refl _ _).drew, (HG2.out.set 1 _).below (Below.refl _ _).drew, by unfold Hid; rw [HS.out, ← HD.out, hr3]⟩
        · have b2 : (((s[j].toNat : Nat) : Int) == 40) = false := beq_no (by omega)
          have HSk := Lib.hid (sk_stay (s.data.toList.drop (j + 1)) hb (fun e => h40 (by rw [e]; rfl)))
          go_wp2_with (go_at_call 81; refine (HB2.out _).mono ?_; rintro e w1 ⟨rfl, rfl⟩)
          simp only [Exit.noGoto_normal]
          go_end0
          exact ⟨rfl, j, HR2.out, hkj, hj, by rw [HD.out, HS.out, HSk.out], HG2.out⟩
    · have HE : Hid (s.data.toList.drop j = []) := List.drop_eq_nil_of_le (by simp; omega)
      go_wp2_with fail
      refine wp_region_below (by kernel_rfl) (by kernel_rfl) ?_
      repeat (go_big_quiet_step (fail))
      refine wpQuiet_nil ?_
      rintro W1 ⟨⟨_, hb1⟩, rfl⟩
      have HR1 := Lib.hid (HRj.out.below hb1)
      have HG1 := Lib.hid (HG.out.below hb1)
      go_wp2_with fail
      simp only [Exit.noGoto_normal]
      go_end0
      exact ⟨rfl, j, HR1.out, hkj, hj, by rw [HS.out, HE.out]; rfl, HG1.out⟩
end Go.Proofs.YtkmgflnmffdhjaaGreatDoor

/- Contracts of package params: the reader's tokens. -/
namespace Go.Proofs.YtkmgflnmffdhjaaGreatDoor
open Go Go.RowKit

def seesB (c : UInt8) (l : List UInt8) : Bool := l.head? == some c
set_option maxRecDepth 100000 in
set_option maxHeartbeats 1000000 in
theorem sees_any (B : Nat) (s : ByteArray) (k : Nat) (c : UInt8) (w : World) (hr : Rd w B s k) :
    Calls Tryz.prog 99 #[.pointer (some ⟨B, 0, none⟩), .int .u8 (c.toNat : Int)] w fun e w' => e = .returned (.bool (seesB c (s.data.toList.drop k))) ∧ Below w.heap.size w w' := by
  have C0 := BW.cell hr.c0
  have C1 := BW.cell hr.c1
  have hlB := hr.lt
  by_cases hlt : k < s.size
  · have hd : ((k : Int) < (s.size : Int)) := by omega
    have HD := Lib.hid (drop_cons s k hlt)
    have HE : Hid (seesB c (s.data.toList.drop k) = (((s[k].toNat : Nat) : Int) == ((c.toNat : Nat) : Int))) := by
      unfold Hid seesB
      rw [HD.out]
      by_cases e : s[k] = c
      · rw [e]; simp
      · have : s[k].toNat ≠ c.toNat := fun h => e (toNat_eq h)
        rw [beq_no (by omega)]
        simpa using e
    go_enter Tryz.func99, Tryz.ntmps99
    go_wp2_with fail
    refine wp_region_below (by kernel_rfl) (by kernel_rfl) ?_
    repeat (go_big_quiet_step (fail))
    refine wpQuiet_nil ?_
    rintro W1 ⟨⟨_, hb1⟩, rfl⟩
    go_wp2_with fail
    go_ret
    exact ⟨ret_bool HE.out.symm, hb1⟩
  · have HE : Hid (s.data.toList.drop k = []) := List.drop_eq_nil_of_le (by simp; omega)
    go_enter Tryz.func99, Tryz.ntmps99
    go_wp2_with fail
    refine wp_region_below (by kernel_rfl) (by kernel_rfl) ?_
    repeat (go_big_quiet_step (fail))
    refine wpQuiet_nil ?_
    rintro W1 ⟨⟨_, hb1⟩, rfl⟩
    go_wp2_with fail
    go_ret
    exact ⟨by rw [HE.out]; rfl, hb1⟩

set_option maxRecDepth 100000 in
set_option maxHeartbeats 1000000 in
theorem takes_any (B : Nat) (s : ByteArray) (k : Nat) (c : UInt8) (w : World) (hr : Rd w B s k) (hl : s.size ≤ 1000000000) (hk : k ≤ s.size) :
    Calls Tryz.prog 65 #[.pointer (some ⟨B, 0, none⟩), .int .u8 (c.toNat : Int)] w fun e w' => e = .returned (.bool (takeL c (s.data.toList.drop k)).isSome) ∧
      ∃ k', Rd w' B s k' ∧ k' ≤ s.size ∧ (∀ r, takeL c (s.data.toList.drop k) = some r → s.data.toList.drop k' = r) ∧ Gr B w w' := by
  have HS := Lib.hid (skip_any B s k w hr hl hk)
  have HSe := Lib.hid (fun j W h => sees_any B s j c W h)
  clear hr
  go_enter Tryz.func65, Tryz.ntmps65
  go_wp2_with fail
  with_reducible refine HS.out.mono ?_
  rintro e w1 ⟨rfl, j, hR1, hj1, hj2, hD, hG1⟩
  have HR1 := Lib.hid hR1
  have HG1 := Lib.hid hG1
  have HSj := Lib.hid (HSe.out j w1 hR1)
  have HDj : Hid (sk (s.data.toList.drop k) = s.data.toList.drop j) := hD.symm
  clear hR1 hG1 hD HS HSe
  rcases Bool.eq_false_or_eq_true (seesB c (s.data.toList.drop j)) with hs | hs
  · rw [hs] at HSj
    have hlt : j < s.size := by
      rcases Nat.lt_or_ge j s.size with h | h
      · exact h
      · rw [List.drop_eq_nil_of_le (by simp; omega)] at hs
        cases hs
    have HT : Hid (takeL c (s.data.toList.drop k) = some (s.data.toList.drop (j + 1))) := by
      unfold Hid takeL
      rw [HDj.out, drop_cons s j hlt]
      rw [drop_cons s j hlt] at hs
      have e : s[j] = c := by simpa [seesB] using hs
      simp only
      rw [if_pos e]
    go_wp2_with fail
    with_reducible refine HSj.out.mono ?_
    rintro e w2 ⟨rfl, hb2⟩
    have HR2 := Lib.hid (HR1.out.below hb2)
    have HG2 := Lib.hid (HG1.out.below hb2)
    have c1 := HR2.out.c1
    have f1 := HR2.out.f1
    clear hb2 HR1 HG1
    go_wp2_with fail
    go_ret
    refine ⟨by rw [HT.out]; rfl, j + 1, HR2.out.set (j + 1), by omega, fun r h => ?_, HG2.out.set 1 _⟩
    rw [HT.out] at h
    exact Option.some.inj h
  · rw [hs] at HSj
    have HT : Hid (takeL c (s.data.toList.drop k) = none) := by
      unfold Hid takeL
      rw [HDj.out]
      unfold seesB at hs
      split
      · next x r e =>
        rw [e] at hs
        rw [if_neg (by simpa using hs)]
      · rfl
    go_wp2_with fail
    with_reducible refine HSj.out.mono ?_
    rintro e w2 ⟨rfl, hb2⟩
    go_wp2_with fail
    go_ret
    refine ⟨by rw [HT.out]; rfl, j, HR1.out.below hb2, hj2, fun r h => ?_, HG1.out.below hb2⟩
    rw [HT.out] at h
    cases h

theorem tokL_prefix (l : List UInt8) : l.take (tokL l).length = tokL l := by
  have h : tokL l ++ l.dropWhile tokB = l := List.takeWhile_append_dropWhile
  have h2 := List.take_left (l₁ := tokL l) (l₂ := l.dropWhile tokB)
  rw [h] at h2
  exact h2
theorem tokL_len (l : List UInt8) : (tokL l).length ≤ l.length := (List.takeWhile_sublist _).length_le
def tokV (l : List UInt8) : Value := .tuple #[.string ⟨l.toArray⟩, .bool (!l.isEmpty)]
set_option maxRecDepth 100000 in
set_option maxHeartbeats 1000000 in
theorem rdToken_any (B : Nat) (s : ByteArray) (k : Nat) (w : World) (hr : Rd w B s k) (hl : s.size ≤ 1000000000) (hk : k ≤ s.size) :
    Calls Tryz.prog 63 #[.pointer (some ⟨B, 0, none⟩)] w fun e w' => e = .returned (tokV (tokenL (s.data.toList.drop k)).1) ∧
      ∃ k', Rd w' B s k' ∧ k' ≤ s.size ∧ s.data.toList.drop k' = (tokenL (s.data.toList.drop k)).2 ∧ Gr B w w' := by
  have HS := Lib.hid (skip_any B s k w hr hl hk)
  have HTk := Lib.hid (fun j W h => behindToken_any s j W hl h)
  clear hr
  go_enter Tryz.func63, Tryz.ntmps63
  go_wp2_with fail
  with_reducible refine HS.out.mono ?_
  rintro e w1 ⟨rfl, j, hR1, hj1, hj2, hD, hG1⟩
  have HR1 := Lib.hid hR1
  have HG1 := Lib.hid hG1
  have HDj : Hid (sk (s.data.toList.drop k) = s.data.toList.drop j) := hD.symm
  obtain ⟨n, hn⟩ : ∃ n, n = j + (tokL (s.data.toList.drop j)).length := ⟨_, rfl⟩
  have HTj := Lib.hid (HTk.out j w1 hj2)
  rw [← hn] at HTj
  have HN : Hid (n = j + (tokL (s.data.toList.drop j)).length) := hn
  have hjn : j ≤ n := by omega
  have hns : n ≤ s.size := by
    have := tokL_len (s.data.toList.drop j)
    rw [List.length_drop, len_toList] at this
    omega
  have c0 := HR1.out.c0
  have c1 := HR1.out.c1
  clear hR1 hG1 hD HS HTk hn
  go_wp2_with fail
  with_reducible refine HTj.out.mono ?_
  rintro e w2 ⟨rfl, hb2⟩
  have HR2 := Lib.hid (HR1.out.below hb2)
  have HG2 := Lib.hid (HG1.out.below hb2)
  have f1 := HR2.out.f1
  replace c1 := HR2.out.c1
  clear hb2 HR1 HG1 c0
  have HR3 := Lib.hid (HR2.out.set n)
  have HG3 := Lib.hid (HG2.out.set 1 (.int .i64 (n : Int)))
  obtain ⟨W3, hW3⟩ : ∃ W3, W3 = w2.setCell ⟨B, 1, none⟩ (.int .i64 (n : Int)) := ⟨_, rfl⟩
  rw [← hW3] at HR3 HG3
  have HW3 : Hid (w2.setCell ⟨B, 1, none⟩ (.int .i64 (n : Int)) = W3) := hW3.symm
  clear hW3
  go_wp2_with fail
  rw [HW3.out]
  have C0 := BW.cell HR3.out.c0
  have C1 := BW.cell HR3.out.c1
  have hjn' : (j : Int) ≤ (n : Int) := by omega
  have hns' : (n : Int) ≤ (s.size : Int) := by omega
  refine wp_region_below (by kernel_rfl) (by kernel_rfl) ?_
  repeat (go_big_quiet_step (fail))
  refine wpQuiet_nil ?_
  rintro W4 ⟨⟨_, hb4⟩, rfl⟩
  go_wp2_with fail
  go_ret2
  have HR4 := HR3.out.below hb4
  have HG4 := HG3.out.below hb4
  have e1 : (tokenL (s.data.toList.drop k)).1 = tokL (s.data.toList.drop j) := by
    show tokL (sk _) = _
    rw [HDj.out]
  have e2 : (tokenL (s.data.toList.drop k)).2 = s.data.toList.drop n := by
    show (sk _).drop (tokL (sk _)).length = _
    rw [HDj.out, List.drop_drop, HN.out]
  refine ⟨?_, n, HR4, hns, e2.symm, HG4⟩
  rw [e1]
  have e3 : s.extract j n = ⟨(tokL (s.data.toList.drop j)).toArray⟩ := bytes_eq (by
    rw [extract_toList, show n - j = (tokL (s.data.toList.drop j)).length by have := HN.out; omega, tokL_prefix])
  have e4 : decide (j < n) = !(tokL (s.data.toList.drop j)).isEmpty := by
    have := HN.out
    cases hT : tokL (s.data.toList.drop j) with
    | nil => rw [hT] at this; simp at this; simp [this]
    | cons x r => rw [hT] at this; simp at this; simp; omega
  show Ending.returned (.tuple #[.string (s.extract j n), .bool (decide (j < n))]) = _
  rw [e3, e4]
  rfl

set_option maxRecDepth 100000 in
theorem rdName_any (B : Nat) (s : ByteArray) (k : Nat) (w : World) (hr : Rd w B s k) (hl : s.size ≤ 1000000000) (hk : k ≤ s.size) :
    Calls Tryz.prog 33 #[.pointer (some ⟨B, 0, none⟩)] w fun e w' => e = .returned (tokV (foldS (tokenL (s.data.toList.drop k)).1)) ∧
      ∃ k', Rd w' B s k' ∧ k' ≤ s.size ∧ s.data.toList.drop k' = (tokenL (s.data.toList.drop k)).2 ∧ Gr B w w' := by
  have HS := Lib.hid (rdToken_any B s k w hr hl hk)
  obtain ⟨T, hT⟩ : ∃ T, T = (tokenL (s.data.toList.drop k)).1 := ⟨_, rfl⟩
  have hTl : (⟨T.toArray⟩ : ByteArray).size ≤ 9223372036854775807 := by
    show T.length ≤ _
    have h1 := tokL_len (sk (s.data.toList.drop k))
    have h2 := skL_le (s.data.toList.drop k) false 0
    have h3 : T.length = (tokL (sk (s.data.toList.drop k))).length := by rw [hT]; rfl
    unfold sk at h1 h3
    rw [List.length_drop, len_toList] at h2
    omega
  have HF := Lib.hid (fun W => fold_any ⟨T.toArray⟩ W hTl)
  rw [← hT] at HS ⊢
  have HE : Hid (T.isEmpty = (foldS T).isEmpty) := by unfold Hid foldS; cases T <;> rfl
  clear hr hT
  go_enter Tryz.func33, Tryz.ntmps33
  go_wp2_with fail
  with_reducible refine HS.out.mono ?_
  rintro e w1 ⟨rfl, j, hR1, hj, hD, hG⟩
  have HR1 := Lib.hid hR1
  have HG1 := Lib.hid hG
  have HD1 := Lib.hid hD
  clear hR1 hG hD
  unfold tokV
  go_wp2_with (go_at_call 64; refine (HF.out _).mono ?_; rintro e w2 ⟨rfl, hb2⟩)
  go_ret2
  have e5 : Ending.returned (tokV (foldS T)) = .returned (.tuple #[.string ⟨(foldS T).toArray⟩, .bool (!T.isEmpty)]) := by
    unfold tokV
    rw [HE.out]
  exact ⟨Eq.trans rfl e5.symm, j, HR1.out.below hb2, hj, HD1.out, HG1.out.below hb2⟩
end Go.Proofs.YtkmgflnmffdhjaaGreatDoor
