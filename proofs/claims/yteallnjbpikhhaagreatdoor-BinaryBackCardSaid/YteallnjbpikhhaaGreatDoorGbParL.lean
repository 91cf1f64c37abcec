/- sync.Once's slow road at this program: the parts, each a contract of its own. -/
import Derived.Test.YteallnjbpikhhaaGreatDoorKit
import Derived.Test.YteallnjbpikhhaaGreatDoorProg
import Derived.Tactics
import Derived.Tactics2
import Derived.Defers
import Derived.Laws.Pointers
import Derived.Laws.LoneSync
import Derived.RegionTactic
import Derived.RegionCalls
import Derived.ChangeAlike
import Derived.WalkKit
import Derived.WalkSpells
import Derived.BigQuiet
import Derived.Deep.QuietTactic
import Derived.Deep.LoopGhost
import Derived.Lib.Hide
import Derived.Laws.Tables
import Derived.Laws.MakeOwn
import Derived.Maps.AppendAt
import Derived.Laws.Cover3
import Derived.Laws.CopyOwn
import Derived.Laws.Rows
import Derived.Test.YteallnjbpikhhaaGreatDoorKit2
import Derived.Test.YteallnjbpikhhaaGreatDoorGbParM
import Derived.Test.YteallnjbpikhhaaGreatDoorShelf4
import Derived.Lib.IfaceEq
namespace Go.Proofs.YteallnjbpikhhaaGreatDoor
open Go Go.RowKit

end Go.Proofs.YteallnjbpikhhaaGreatDoor

/- sync.Once's Do, once: whatever it does. -/
namespace Go.Proofs.YteallnjbpikhhaaGreatDoor
open Go Go.RowKit

end Go.Proofs.YteallnjbpikhhaaGreatDoor

/- strings.Replacer at two bytes: build. -/
namespace Go.Proofs.YteallnjbpikhhaaGreatDoor
open Go Go.RowKit

def nilsl : Value := .slice none 0 0
def bsCells (v : Value) : Array Value := (List.replicate 256 nilsl).toArray.push v
theorem Tryz.infoStrg : (Tryz.prog.info? 9).map (fun i => (i.zero, i.size, i.bytes)) = some (some (.string ⟨#[]⟩), 1, 16) := by kernel_rfl
theorem strs_two (W : World) : (Instr.makeSlice 24 (.int .i64 0) (.int .i64 2)).run Tryz.prog W = .ok (.slice (some ⟨W.heap.size, 0, none⟩) 0 2) (W.alloc (.cells #[.string ⟨#[]⟩, .string ⟨#[]⟩] 9)) := by
  obtain ⟨i, hi, hz⟩ := Option.map_eq_some_iff.1 Tryz.infoStrg
  simp only [Prod.mk.injEq] at hz
  have hr := run_make (P := Tryz.prog) W 24 9 i _ Tryz.underlying24 hi hz.1 .i64 .i64 0 2 (by decide) (by decide) (by rw [hz.2.2]; decide) (by decide)
  rw [hz.2.1] at hr
  exact hr.trans (by kernel_rfl)
theorem bs_at (v : Value) (k : Nat) (h : k < 257) : (bsCells v)[k]? = some (if k = 256 then v else nilsl) := by
  unfold bsCells
  rw [Array.getElem?_push]
  simp only [List.size_toArray, List.length_replicate]
  by_cases hk : k = 256
  · simp [hk]
  · simp only [hk, if_false]
    rw [List.getElem?_toArray, List.getElem?_replicate, if_pos (by omega)]
theorem wpList_store_row' {P : Program} {ops : Array Oper} {rest : List Oper} {o : Oper} {a : Act} {w : World} {Q : Exit → Act → World → Prop} (hgd : o.guard = none) (ty : TypeId) (x y : Operand) (ho : o.op = .store ty x y)
    (g : Nat) (cells : Array Value) (hx : a.eval x = .pointer (some ⟨g, 0, none⟩)) (hy : a.eval y = .agg cells)
    (t : TypeId) (old : Array Value) (hg : w.heap[g]? = some (.cells old t (0, 0))) (hi : (P.info? ty).map (·.size) = some cells.size)
    (hold : old.size = cells.size) (h1 : cells.all (·.oneCell') = true)
    (h : ∀ W', Hid (W' = w.setRow g cells) → wpList P ops Q rest (a.put o.dst undef) W') : wpList P ops Q (o :: rest) a w :=
  wpList_store_row hgd ty x y ho g cells hx hy t old hg hi hold h1 (h _ rfl)

theorem wpList_conv_bytes {P : Program} {ops : Array Oper} {rest : List Oper} {o : Oper} {a : Act} {w : World} {Q : Exit → Act → World → Prop} (hgd : o.guard = none) (x : Operand) (src dst e : TypeId) (ho : o.op = .convert src dst x)
    (s : ByteArray) (hx : a.eval x = .string s) (hs : P.underlying src = some .string) (hd : P.underlying dst = some (.slice e)) (he : P.underlying e = some (.int .u8))
    (h : ∀ W1 cap, rowAt W1 w.heap.size e (s.data.toList.map byteV) → Below w.heap.size w W1 → s.size ≤ cap → wpList P ops Q rest (a.put o.dst (.slice (some ⟨w.heap.size, 0, none⟩) s.size cap)) W1) : wpList P ops Q (o :: rest) a w := by
  obtain ⟨W1, cap, hrun, hrow, hb, hc⟩ := conv_bytes (P := P) w src dst e s hs hd he
  refine wpList_plain hgd fun K hK' => ?_
  unfold Oper.wp
  simp [execOp, ho, hx, hrun, Result.andThen]
  exact hK' _ _ (h W1 cap hrow hb hc)
theorem conv_one0 (w : World) (c : UInt8) (x : Int) (hx : x = (c.toNat : Int)) : (convert 22 9 (.slice (some ⟨w.heap.size, 0, none⟩) 1 1)).run Tryz.prog (w.alloc (.cells #[.int .u8 x] 5)) = .ok (.string ⟨#[c]⟩) (w.alloc (.cells #[.int .u8 x] 5)) := by
  subst hx
  exact run_string_of_row Tryz.underlying22 Tryz.underlying5 Tryz.underlying9 (l := [c]) ⟨#[.int .u8 (c.toNat : Int)], 0, 0, heap_alloc_new w _, fun j _ h => by omega, rfl⟩ rfl
theorem nil_eql (W : World) : (binOp .eql 22 (.slice none 0 0) (.slice none 0 0)).run Tryz.prog W = .ok (.bool true) W := by
  have h := run_equal_slice_nil (P := Tryz.prog) W 22 5 none 0 0 Tryz.underlying22
  simp [binOp, h]
/-- A block's first n cells. -/
structure Tab (W : World) (M n : Nat) (F : Nat → Value) : Prop where
  c : ∀ k, k < n → W.cell? ⟨M, k, none⟩ = some (F k)
  z : ∀ k, k < n → W.frozen? ⟨M, k, none⟩ = false
def updF (F : Nat → Value) (k : Nat) (v : Value) : Nat → Value := fun j => if j = k then v else F j
theorem Tab.set {W : World} {M n : Nat} {F : Nat → Value} (h : Tab W M n F) {k : Nat} (hk : k < n) (v : Value) : Tab (W.setCell ⟨M, k, none⟩ v) M n (updF F k v) := by
  refine ⟨fun j hj => ?_, fun j hj => ?_⟩
  · unfold updF
    by_cases e : j = k
    · subst e
      rw [if_pos rfl]
      exact World.cell?_setCell_same W _ _ (h.c j hj)
    · rw [if_neg e]
      exact (World.cell?_setCell_other _ ⟨M, k, none⟩ ⟨M, j, none⟩ _ (by simp)).trans (h.c j hj)
  · rw [World.frozen?_setCell]
    exact h.z j hj
theorem Tab.lt {W : World} {M n : Nat} {F : Nat → Value} (h : Tab W M n F) (hn : 0 < n) : M < W.heap.size := World.block_lt_of_cell? _ _ (h.c 0 hn)
theorem Tab.block {W W' : World} {M n : Nat} {F : Nat → Value} (h : Tab W M n F) (hb : W'.heap[M]? = W.heap[M]?) : Tab W' M n F :=
  ⟨fun k hk => (World.cell?_of_block (a := ⟨M, k, none⟩) hb).trans (h.c k hk), fun k hk => (World.frozen?_of_block (a := ⟨M, k, none⟩) hb).trans (h.z k hk)⟩
theorem Tab.below {W W' : World} {M n : Nat} {F : Nat → Value} (h : Tab W M n F) (hn : 0 < n) (hb : Below W.heap.size W W') : Tab W' M n F := h.block (hb.block M (h.lt hn))
theorem Tab.grown {W W' : World} {M n : Nat} {F : Nat → Value} {row : Option Nat} (h : Tab W M n F) (hn : 0 < n) (hg : W.grownBy W' row) (hr : some M ≠ row) : Tab W' M n F := h.block (hg.block M (h.lt hn) hr)
theorem Tab.of_row {W : World} {M n : Nat} {F : Nat → Value} {cs : Array Value} {t : TypeId} (h : W.heap[M]? = some (.cells cs t (0, 0))) (hc : ∀ k, k < n → cs[k]? = some (F k)) : Tab W M n F :=
  ⟨fun k hk => by simp [World.cell?, h, hc k hk], fun k hk => by simp [World.frozen?, h]⟩

theorem grownBy_setCell (w : World) (p : Addr) (u : Value) : w.grownBy (w.setCell p u) (some p.block) :=
  ⟨rfl, rfl, rfl, by simp, fun k _ hk => Below.heap_setCell w p u k (fun e => hk (by rw [e]))⟩
/-- The tables of a replacer of quotes and strokes. -/
def Esc (lo : Nat) (W : World) (M : Nat) : Prop := ∃ F a34 c34 a92 c92 t ct, (lo ≤ a34 ∧ lo ≤ a92 ∧ lo ≤ t ∧ lo ≤ M) ∧ Tab W M 257 F ∧ F 34 = .slice (some ⟨a34, 0, none⟩) 2 c34 ∧ F 92 = .slice (some ⟨a92, 0, none⟩) 2 c92 ∧ (∀ k, k < 256 → k ≠ 34 → k ≠ 92 → F k = .slice none 0 0) ∧
  F 256 = .slice (some ⟨t, 0, none⟩) 2 ct ∧ rowAt W a34 5 ([92, 34].map byteV) ∧ rowAt W a92 5 ([92, 92].map byteV) ∧ rowAt W t 9 [.string ⟨#[92]⟩, .string ⟨#[34]⟩] ∧ 2 ≤ c34 ∧ 2 ≤ c92 ∧ 2 ≤ ct

end Go.Proofs.YteallnjbpikhhaaGreatDoor

/- strconv.ParseUint at 16 and 8, of two bytes. -/
namespace Go.Proofs.YteallnjbpikhhaaGreatDoor
open Go Go.RowKit

def hexs : Nat → List UInt8 → Option Nat
  | n, [] => some n
  | n, c :: l => match hexV c with
    | some d => hexs (16 * n + d) l
    | none => none
theorem hexV_lt {c : UInt8} {d : Nat} (h : hexV c = some d) : d < 16 := by
  unfold hexV at h
  split at h
  · cases h; omega
  · split at h
    · cases h; omega
    · split at h
      · cases h; omega
      · cases h
def lowN (n : Nat) : Nat := n ||| 32
set_option maxRecDepth 100000 in
theorem low_facts : ∀ n, n < 256 → lowN n < 256 ∧ (48 ≤ n ∧ n ≤ 57 ∨ (97 ≤ lowN n ∧ lowN n ≤ 122 ∧ ((97 ≤ n ∧ n ≤ 122 ∧ lowN n = n) ∨ (65 ≤ n ∧ n ≤ 90 ∧ lowN n = n + 32))) ∨ (¬ (97 ≤ lowN n ∧ lowN n ≤ 122) ∧ ¬ (97 ≤ n ∧ n ≤ 122) ∧ ¬ (65 ≤ n ∧ n ≤ 90))) := by decide
theorem or_u8 (x y : Nat) (hx : x < 256) (hy : y < 256) : bits .or .u8 (x : Int) (y : Int) = ((x ||| y : Nat) : Int) := by
  have h := Nat.or_lt_two_pow (n := 8) hx hy
  show IntKind.u8.wrap ((BitVec.ofInt 8 (x : Int) ||| BitVec.ofInt 8 (y : Int)).toNat : Int) = _
  rw [BitVec.toNat_or, BitVec.ofInt_natCast, BitVec.ofInt_natCast, BitVec.toNat_ofNat, BitVec.toNat_ofNat, Nat.mod_eq_of_lt hx, Nat.mod_eq_of_lt hy]
  show ((x ||| y : Nat) : Int) % 256 = _
  omega
theorem or32 (n : Nat) (h : n < 256) : bits .or .u8 (n : Int) 32 = ((lowN n : Nat) : Int) := or_u8 n 32 h (by decide)
def errS : Value := .iface 219 (.int .i64 2)
def uintV (o : Option Nat) : Value := match o with
  | some n => .tuple #[.int .u64 (n : Int), .nilIface]
  | none => .tuple #[.int .u64 0, errS]
theorem lower_u8 (n : Nat) (w : World) (h : n < 256) :
    Calls Tryz.prog 168 #[.int .u8 (n : Int)] w fun e w' => e = .returned (.int .u8 ((lowN n : Nat) : Int)) ∧ w = w' := by
  have ho := or32 n h
  go_enter Tryz.func168, Tryz.ntmps168
  go_wp2_with fail
  go_ret
  exact ⟨rfl, rfl⟩
theorem hex_dig {c : UInt8} (h : 48 ≤ c.toNat ∧ c.toNat ≤ 57) : hexV c = some (c.toNat - 48) := by unfold hexV; rw [if_pos h]
theorem hex_let {c : UInt8} (h0 : ¬ (48 ≤ c.toNat ∧ c.toNat ≤ 57)) (h : 97 ≤ lowN c.toNat ∧ lowN c.toNat ≤ 102) : hexV c = some (lowN c.toNat - 97 + 10) := by
  have := (low_facts c.toNat c.toNat_lt).2
  unfold hexV
  rw [if_neg h0]
  by_cases h1 : 97 ≤ c.toNat ∧ c.toNat ≤ 102
  · rw [if_pos h1]
    congr 1
    omega
  · rw [if_neg h1, if_pos (by omega)]
    congr 1
    omega
theorem hex_no {c : UInt8} (h0 : ¬ (48 ≤ c.toNat ∧ c.toNat ≤ 57)) (h : ¬ (97 ≤ lowN c.toNat ∧ lowN c.toNat ≤ 102)) : hexV c = none := by
  have := (low_facts c.toNat c.toNat_lt).2
  unfold hexV
  rw [if_neg h0, if_neg (by omega), if_neg (by omega)]

set_option maxRecDepth 100000 in
set_option maxHeartbeats 4000000 in
theorem parse16_any (s : ByteArray) (w : World) (hs : s.size = 2) :
    Calls Tryz.prog 161 #[.string s, .int .i64 16, .int .i64 8] w fun e w' => e = .returned (uintV (hexs 0 s.data.toList)) ∧ Below w.heap.size w w' := by
  have HLo := Lib.hid lower_u8
  have hse : (s.toList == []) = false := by
    rw [beq_eq_false_iff_ne]
    intro e
    rw [toList_nil_iff] at e
    omega
  have hse2 : s.toList.isEmpty = false := by
    cases h : s.toList with
    | nil => rw [toList_nil_iff] at h; omega
    | cons a b => rfl
  have HSz := Lib.hid hs
  go_enter Tryz.func161, Tryz.ntmps161
  go_wp2_with (refine wpList_conv_bytes rfl (.tmp 98) 9 22 5 rfl _ rfl Tryz.underlying9 Tryz.underlying22 Tryz.underlying5 ?_; intro W1 p1 hrow1 hb1 hp1)
  have HB1 := Lib.hid hb1
  have HRow := Lib.hid hrow1
  clear hb1 hrow1 hp1 hse hs
  obtain ⟨CU, hCU⟩ : ∃ C : Int, C = 1152921504606846976 := ⟨_, rfl⟩
  rw [← hCU]
  have HCU : Hid (1000 ≤ CU) := by rw [hCU]; unfold Hid; decide
  clear hCU
  go_loopg [12, 13, 101] 2 (fun g v12 v13 v101 wr => ∃ k n : Nat, k ≤ 2 ∧ g = 2 - k ∧ v12 = .bool false ∧ v101 = .int .i64 (k : Int) ∧ v13 = .int .u64 (n : Int) ∧ n < 16 ^ k ∧ Hid (hexs 0 s.data.toList = hexs n (s.data.toList.drop k)) ∧ Hid (Below w.heap.size w wr ∧ rowAt wr w.heap.size 5 (s.data.toList.map byteV)))
  case atStart => exact ⟨0, 0, by omega, rfl, rfl, rfl, rfl, by decide, rfl, HB1.out, HRow.out⟩
  case round =>
    obtain ⟨k, n, hk, rfl, rfl, rfl, rfl, hn, HS, HBR⟩ := hrel
    have HB : Hid (Below w.heap.size w wr) := HBR.out.1
    have hn2 : n ≤ 255 := by
      rcases (show k = 0 ∨ k = 1 ∨ k = 2 by omega) with rfl | rfl | rfl <;> omega
    by_cases hlt : k < 2
    · have hn1 : n < 16 := by
        rcases (show k = 0 ∨ k = 1 by omega) with rfl | rfl <;> omega
      have hks : k < s.size := by have := HSz.out; omega
      have hkl : k < (s.data.toList.map byteV).length := by simpa using hks
      have hki : (k : Int) < (s.size : Int) := by omega
      have x0 := HBR.out.2.cell k hkl
      obtain ⟨c, hc⟩ : ∃ c, c = s[k] := ⟨_, rfl⟩
      have HD := Lib.hid (drop_cons s k hks)
      rw [← hc] at HD
      have x1 : wr.cell? ⟨w.heap.size, k, none⟩ = some (.int .u8 (c.toNat : Int)) := by
        rw [x0, hc]
        simp [byteV]
        rfl
      clear x0 hc hkl
      have hcl := c.toNat_lt
      have HLo1 := Lib.hid (fun W => HLo.out c.toNat W hcl)
      have hlow := (low_facts c.toNat hcl).1
      have hlow2 := (low_facts c.toNat hcl).2
      obtain ⟨lo, hlo⟩ : ∃ lo, lo = lowN c.toNat := ⟨_, rfl⟩
      have HLo := Lib.hid hlo
      rw [← hlo] at HLo1 hlow hlow2
      have HP : Hid (16 ^ (k + 1) = 16 * 16 ^ k) := by unfold Hid; omega
      have hbd : ∀ d, d < 16 → 16 * n + d < 16 ^ (k + 1) := fun d hd => by
        rw [HP.out]
        omega
      have b95 : ((((c.toNat : Nat) : Int) == 95) = true) ∨ ((((c.toNat : Nat) : Int) == 95) = false) := by
        rcases Bool.eq_false_or_eq_true (((c.toNat : Nat) : Int) == 95) with h | h
        · exact .inl h
        · exact .inr h
      have Hbd := Lib.hid hbd
      have hbig : ¬ CU ≤ (n : Int) := by have := HCU.out; omega
      clear hbd hn
      by_cases hdig : 48 ≤ c.toNat ∧ c.toNat ≤ 57
      · have Hx : Hid (hexV c = some (c.toNat - 48)) := hex_dig hdig
        have b1 : (((c.toNat : Nat) : Int) == 95) = false := beq_no (by omega)
        have h48 : (48 : Int) ≤ ((c.toNat : Nat) : Int) := by omega
        have h57 : ((c.toNat : Nat) : Int) ≤ 57 := by omega
        clear hlow2 b95 hlo
        go_wp2_with (first | (go_at_call 168; refine (HLo1.out _).mono ?_; rintro e w' ⟨rfl, rfl⟩))
        go_roundg (2 - (k + 1))
        case measure => omega
        case rel =>
          refine ⟨k + 1, 16 * n + (c.toNat - 48), by omega, rfl, rfl, by go_num, by go_num, Hbd.out _ (by omega), ?_, HBR⟩
          unfold Hid
          rw [HS.out, HD.out]
          show (match hexV c with | some d => hexs (16 * n + d) _ | none => none) = _
          rw [Hx.out]
      · have HNd := Lib.hid hdig
        by_cases hlet : 97 ≤ lo ∧ lo ≤ 122
        · have b1 : (((c.toNat : Nat) : Int) == 95) = false := beq_no (by omega)
          have h48 : (48 : Int) ≤ ((c.toNat : Nat) : Int) := by omega
          have h57 : ¬ ((c.toNat : Nat) : Int) ≤ 57 := by omega
          by_cases h102 : lo ≤ 102
          · have Hx : Hid (hexV c = some (lo - 97 + 10)) := by unfold Hid; rw [hlo]; exact hex_let HNd.out (by rw [← hlo]; omega)
            clear hlow2 b95 hlo
            go_wp2_with (first | (go_at_call 168; refine (HLo1.out _).mono ?_; rintro e w' ⟨rfl, rfl⟩))
            go_roundg (2 - (k + 1))
            case measure => omega
            case rel =>
              refine ⟨k + 1, 16 * n + (lo - 97 + 10), by omega, rfl, rfl, by go_num, by go_num, Hbd.out _ (by omega), ?_, HBR⟩
              unfold Hid
              rw [HS.out, HD.out]
              show (match hexV c with | some d => hexs (16 * n + d) _ | none => none) = _
              rw [Hx.out]
          · have Hx : Hid (hexV c = none) := hex_no HNd.out (by rw [← hlo]; omega)
            clear hlow2 b95 hlo
            go_wp2_with (first | (go_at_call 168; refine (HLo1.out _).mono ?_; rintro e w' ⟨rfl, rfl⟩))
            go_ret2
            refine ⟨?_, HB.out⟩
            rw [HS.out, HD.out]
            show _ = Ending.returned (uintV (match hexV c with | some d => hexs (16 * n + d) _ | none => none))
            rw [Hx.out]
            rfl
        · have Hx : Hid (hexV c = none) := hex_no HNd.out (by rw [← hlo]; omega)
          have hlx : lo < 97 ∨ 122 < lo := by omega
          clear hlow2 hlo hlet
          by_cases h48' : 48 ≤ c.toNat
          · have h48 : (48 : Int) ≤ ((c.toNat : Nat) : Int) := by omega
            have h57 : ¬ ((c.toNat : Nat) : Int) ≤ 57 := by omega
            rcases b95 with b1 | b1
            all_goals rcases hlx with hlx | hlx
            all_goals
              go_wp2_with (first | (go_at_call 168; refine (HLo1.out _).mono ?_; rintro e w' ⟨rfl, rfl⟩))
              go_ret2
              refine ⟨?_, HB.out⟩
              rw [HS.out, HD.out]
              show _ = Ending.returned (uintV (match hexV c with | some d => hexs (16 * n + d) _ | none => none))
              rw [Hx.out]
              rfl
          · have b1 : (((c.toNat : Nat) : Int) == 95) = false := beq_no (by omega)
            rcases hlx with hlx | hlx
            all_goals
              go_wp2_with (first | (go_at_call 168; refine (HLo1.out _).mono ?_; rintro e w' ⟨rfl, rfl⟩))
              go_ret2
              refine ⟨?_, HB.out⟩
              rw [HS.out, HD.out]
              show _ = Ending.returned (uintV (match hexV c with | some d => hexs (16 * n + d) _ | none => none))
              rw [Hx.out]
              rfl
    · obtain rfl : k = 2 := by omega
      have HE : Hid (s.data.toList.drop 2 = []) := List.drop_eq_nil_of_le (by have := HSz.out; simp; omega)
      have hns : ¬ ((2 : Int) < (s.size : Int)) := by have := HSz.out; omega
      have hk2 : ((2 : Nat) : Int) = 2 := rfl
      go_wp2_with fail
      go_ret2
      refine ⟨?_, HB.out⟩
      rw [HS.out, HE.out]
      rfl
end Go.Proofs.YteallnjbpikhhaaGreatDoor
