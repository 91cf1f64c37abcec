/- Sums of bits in plain words: a bit more, bytes, tables, what bursts do. No program. -/
import Derived.Test.YtedminjnnhlknaaGreatDoorKit2
import Derived.Test.YtedminjnnhlknaaGreatDoorProg
import Derived.Test.YtedminjnnhlknaaGreatDoorRow
import Derived.LoopN
import Derived.Outline
import Derived.Laws.Tables
namespace Go.Proofs.YtedminjnnhlknaaGreatDoor
open Go Go.RowKit
def polyN : Nat := 3988292384
def allN : Nat := 4294967295
def stepF (y : Nat) : Nat := if y % 2 = 1 then (y / 2) ^^^ polyN else y / 2
def stepK : Nat → Nat → Nat
 | 0, y => y
 | n + 1, y => stepK n (stepF y)
theorem xor_cl (a b : Nat) : a ^^^ (a ^^^ b) = b := by rw [← Nat.xor_assoc, Nat.xor_self, Nat.zero_xor]
theorem xor_inj {a b c : Nat} (h : a ^^^ b = a ^^^ c) : b = c := by
 have := congrArg (a ^^^ ·) h
 simpa only [xor_cl] using this
theorem xor_zero_eq {a b : Nat} (h : a ^^^ b = 0) : a = b := by
 have : a ^^^ b = a ^^^ a := by rw [h, Nat.xor_self]
 exact (xor_inj this).symm
theorem xor_lt32 {a b : Nat} (ha : a < 4294967296) (hb : b < 4294967296) : a ^^^ b < 4294967296 := Nat.xor_lt_two_pow (n := 32) ha hb
theorem stepF_lt {y : Nat} (h : y < 4294967296) : stepF y < 4294967296 := by
 unfold stepF
 split
 ·exact xor_lt32 (by omega) (by decide)
 ·omega
theorem stepK_lt : ∀ (n : Nat) {y : Nat}, y < 4294967296 → stepK n y < 4294967296
 | 0, _, h => h
 | n + 1, _, h => stepK_lt n (stepF_lt h)
theorem xor_swap (a b c d : Nat) : (a ^^^ b) ^^^ (c ^^^ d) = (a ^^^ c) ^^^ (b ^^^ d) := by
 rw [Nat.xor_assoc, ← Nat.xor_assoc b, Nat.xor_comm b c, Nat.xor_assoc c, ← Nat.xor_assoc a]
theorem stepF_xor (a b : Nat) : stepF (a ^^^ b) = stepF a ^^^ stepF b := by
 unfold stepF
 rw [Nat.xor_div_two]
 by_cases ha : a % 2 = 1
 ·by_cases hb : b % 2 = 1
  ·rw [if_neg (fun h => (Nat.xor_mod_two_eq_one.1 h) ⟨fun _ => hb, fun _ => ha⟩), if_pos ha, if_pos hb, xor_swap, Nat.xor_self, Nat.xor_zero]
  ·rw [if_pos (Nat.xor_mod_two_eq_one.2 (fun h => hb (h.1 ha))), if_pos ha, if_neg hb, Nat.xor_assoc, Nat.xor_assoc, Nat.xor_comm polyN]
 ·by_cases hb : b % 2 = 1
  ·rw [if_pos (Nat.xor_mod_two_eq_one.2 (fun h => ha (h.2 hb))), if_neg ha, if_pos hb, Nat.xor_assoc]
  ·rw [if_neg (fun h => (Nat.xor_mod_two_eq_one.1 h) ⟨fun h => absurd h ha, fun h => absurd h hb⟩), if_neg ha, if_neg hb]
theorem stepK_xor : ∀ (n a b : Nat), stepK n (a ^^^ b) = stepK n a ^^^ stepK n b
 | 0, _, _ => rfl
 | n + 1, a, b => by simp only [stepK]; rw [stepF_xor, stepK_xor n]
theorem stepF_pos {y : Nat} (h : y < 4294967296) (h0 : y ≠ 0) : stepF y ≠ 0 := by
 unfold stepF
 split
 ·intro h'
  have := xor_zero_eq h'
  unfold polyN at this
  omega
 ·omega
theorem stepK_pos : ∀ (n : Nat) {y : Nat}, y < 4294967296 → y ≠ 0 → stepK n y ≠ 0
 | 0, _, _, h0 => h0
 | n + 1, _, h, h0 => stepK_pos n (stepF_lt h) (stepF_pos h h0)
theorem stepK_add : ∀ (m n y : Nat), stepK (m + n) y = stepK n (stepK m y)
 | 0, n, y => by rw [Nat.zero_add]; rfl
 | m + 1, n, y => by rw [Nat.add_right_comm]; simp only [stepK]; exact stepK_add m n _
theorem stepF_even (v : Nat) : stepF (2 * v) = v := by
 unfold stepF
 rw [if_neg (by omega)]
 omega
theorem stepK_high : ∀ (n v : Nat), stepK n (2 ^ n * v) = v
 | 0, v => by simp [stepK]
 | n + 1, v => by
  simp only [stepK]
  rw [Nat.pow_succ, Nat.mul_comm (2 ^ n) 2, Nat.mul_assoc, stepF_even, stepK_high n v]
theorem split_bits (n y : Nat) : (y % 2 ^ n) ^^^ (2 ^ n * (y / 2 ^ n)) = y := by
 apply Nat.eq_of_testBit_eq
 intro i
 rw [Nat.testBit_xor, Nat.testBit_mod_two_pow, Nat.testBit_two_pow_mul]
 by_cases h : i < n
 ·have : ¬ i ≥ n := by omega
  simp [h, this]
 ·have h2 : i ≥ n := by omega
  rw [Nat.testBit_div_two_pow, Nat.sub_add_cancel h2]
  simp [h, h2]
theorem stepK_split (n y : Nat) : stepK n y = stepK n (y % 2 ^ n) ^^^ (y / 2 ^ n) := by
 conv => lhs; rw [← split_bits n y]
 rw [stepK_xor, stepK_high]
theorem byte_step (y : Nat) : stepK 8 y = stepK 8 (y % 256) ^^^ (y / 256) := stepK_split 8 y
def byteIt : Nat → Nat → Nat → Nat
 | 0, x, _ => x
 | n + 1, x, c => byteIt n (stepF (x ^^^ (c % 2))) (c / 2)
theorem byteIt_eq : ∀ (n x c : Nat), c < 2 ^ n → byteIt n x c = stepK n (x ^^^ c)
 | 0, x, c, h => by
  obtain rfl : c = 0 := by simpa using h
  simp [byteIt, stepK]
 | n + 1, x, c, h => by
  simp only [byteIt, stepK]
  rw [byteIt_eq n _ (c / 2) (by rw [Nat.pow_succ] at h; omega)]
  have hc : c = (c % 2) ^^^ (2 * (c / 2)) := (split_bits 1 c).symm
  have : stepF (x ^^^ c) = stepF (x ^^^ (c % 2)) ^^^ (c / 2) := by
   conv => lhs; rw [hc, ← Nat.xor_assoc, stepF_xor, stepF_even]
  rw [this]
def sumS (x : Nat) (l : List UInt8) : Nat := l.foldl (fun x b => stepK 8 (x ^^^ b.toNat)) x
def moreS (s : Nat) (l : List UInt8) : Nat := allN - sumS (allN - s) l
theorem byte_lt32 (b : UInt8) : b.toNat < 4294967296 := by have := b.toNat_lt; omega
theorem sumS_append (x : Nat) (a b : List UInt8) : sumS x (a ++ b) = sumS (sumS x a) b := by unfold sumS; rw [List.foldl_append]
theorem sumS_snoc (x : Nat) (l : List UInt8) (b : UInt8) : sumS x (l ++ [b]) = stepK 8 (sumS x l ^^^ b.toNat) := by rw [sumS_append]; rfl
theorem sumS_lt : ∀ (l : List UInt8) {x : Nat}, x < 4294967296 → sumS x l < 4294967296
 | [], _, h => h
 | b :: l, _, h => sumS_lt l (stepK_lt 8 (xor_lt32 h (byte_lt32 b)))
theorem moreS_lt (s : Nat) (l : List UInt8) : moreS s l < 4294967296 := by unfold moreS allN; omega
def bitN (f : Nat → Bool) (n : Nat) : Nat := if f n then 1 else 0
def bitsS (x : Nat) (f : Nat → Bool) : Nat → Nat
 | 0 => x
 | n + 1 => stepF (bitsS x f n ^^^ bitN f n)
def bitAt (l : List UInt8) (n : Nat) : Bool := (l.getD (n / 8) 0).toNat.testBit (n % 8)
theorem bitsS_congr {x : Nat} {f g : Nat → Bool} : ∀ (n : Nat), (∀ i, i < n → f i = g i) → bitsS x f n = bitsS x g n
 | 0, _ => rfl
 | n + 1, h => by
  simp only [bitsS]
  rw [bitsS_congr n (fun i hi => h i (by omega))]
  unfold bitN
  rw [h n (by omega)]
theorem bitsS_byte (x : Nat) (f : Nat → Bool) (m c : Nat) : ∀ (k : Nat), (∀ i, i < k → f (m + i) = c.testBit i) → bitsS x f (m + k) = byteIt k (bitsS x f m) c
 | 0, _ => rfl
 | k + 1, h => by
  have : ∀ (k : Nat) (y d : Nat), stepF (byteIt k y d ^^^ ((d / 2 ^ k) % 2)) = byteIt (k + 1) y d := by
   intro k
   induction k with
   | zero => intro y d; simp [byteIt]
   | succ k ih =>
    intro y d
    simp only [byteIt]
    have := ih (stepF (y ^^^ (d % 2))) (d / 2)
    rw [Nat.div_div_eq_div_mul, Nat.mul_comm 2, ← Nat.pow_succ] at this
    rw [this]
    rfl
  rw [← this k, ← bitsS_byte x f m c k (fun i hi => h i (by omega))]
  show stepF (bitsS x f (m + k) ^^^ bitN f (m + k)) = _
  have e : bitN f (m + k) = c / 2 ^ k % 2 := by
   unfold bitN
   rw [h k (by omega), Nat.testBit_eq_decide_div_mod_eq]
   by_cases h1 : c / 2 ^ k % 2 = 1
   ·simp [h1]
   ·simp [h1]; omega
  rw [e]
theorem sumS_bits (x : Nat) (l : List UInt8) : ∀ (n : Nat), n ≤ l.length → sumS x (l.take n) = bitsS x (bitAt l) (8 * n)
 | 0, _ => by simp [sumS, bitsS]
 | n + 1, h => by
  have hn : n < l.length := by omega
  rw [take_snocL l n hn, sumS_snoc, sumS_bits x l n (by omega)]
  rw [show 8 * (n + 1) = 8 * n + 8 by omega, bitsS_byte x (bitAt l) (8 * n) l[n].toNat 8 ?_, byteIt_eq]
  ·have := l[n].toNat_lt
   omega
  ·intro i hi
   unfold bitAt
   rw [show (8 * n + i) / 8 = n by omega, show (8 * n + i) % 8 = i by omega]
   simp [List.getD, hn]
theorem sumS_all (x : Nat) (l : List UInt8) : sumS x l = bitsS x (bitAt l) (8 * l.length) := by
 have := sumS_bits x l l.length (Nat.le_refl _)
 rwa [List.take_length] at this
theorem bitsS_diff (x : Nat) (f g : Nat → Bool) : ∀ n, bitsS x f n ^^^ bitsS x g n = bitsS 0 (fun i => f i ^^ g i) n
 | 0 => by simp [bitsS]
 | n + 1 => by
  simp only [bitsS]
  rw [← bitsS_diff x f g n, ← stepF_xor, xor_swap]
  congr 2
  unfold bitN
  show _ = if (f n ^^ g n) = true then 1 else 0
  cases f n <;> cases g n <;> rfl
theorem burst_at (d : Nat → Bool) (k v : Nat) (hv : v < 4294967296) (h0 : v ≠ 0) (hlow : ∀ i, i < k → d i = false) (hin : ∀ i, i < 32 → d (k + i) = v.testBit i) (hhigh : ∀ i, k + 32 ≤ i → d i = false) (n : Nat) (hn : k + 32 ≤ n) :
  bitsS 0 d n ≠ 0 := by
 have z : ∀ i, i ≤ k → bitsS 0 d i = 0 := by
  intro i
  induction i with
  | zero => intro _; rfl
  | succ i ih =>
   intro hi
   simp only [bitsS]
   rw [ih (by omega)]
   unfold bitN
   rw [hlow i (by omega)]
   rfl
 have h32 : bitsS 0 d (k + 32) = stepK 32 v := by
  rw [bitsS_byte 0 d k v 32 hin, byteIt_eq 32 _ v hv, z k (Nat.le_refl _), Nat.zero_xor]
 have hpos : bitsS 0 d (k + 32) ≠ 0 ∧ bitsS 0 d (k + 32) < 4294967296 := by
  rw [h32]
  exact ⟨stepK_pos 32 hv h0, stepK_lt 32 hv⟩
 obtain ⟨m, rfl⟩ : ∃ m, n = k + 32 + m := ⟨n - (k + 32), by omega⟩
 have : ∀ m, bitsS 0 d (k + 32 + m) = stepK m (bitsS 0 d (k + 32)) := by
  intro m
  induction m with
  | zero => rfl
  | succ m ih =>
   show stepF (bitsS 0 d (k + 32 + m) ^^^ bitN d (k + 32 + m)) = _
   rw [ih]
   unfold bitN
   rw [hhigh _ (by omega)]
   rw [stepK_add m 1]
   simp [stepK]
 rw [this m]
 exact stepK_pos m hpos.2 hpos.1
theorem burst_sums (x : Nat) (a b : List UInt8) (k v : Nat) (hl : a.length = b.length) (hv : v < 4294967296) (h0 : v ≠ 0) (hk : k + 32 ≤ 8 * a.length)
  (hd : ∀ i, i < 8 * a.length → (bitAt a i ^^ bitAt b i) = (decide (k ≤ i) && decide (i < k + 32) && v.testBit (i - k))) : sumS x a ≠ sumS x b := by
 intro h
 have h1 : bitsS 0 (fun i => bitAt a i ^^ bitAt b i) (8 * a.length) = 0 := by
  rw [← bitsS_diff x, ← sumS_all, hl, ← sumS_all, h, Nat.xor_self]
 rw [bitsS_congr _ hd] at h1
 refine burst_at (fun i => decide (k ≤ i) && decide (i < k + 32) && v.testBit (i - k)) k v hv h0 ?_ ?_ ?_ _ hk h1
 ·intro i hi
  have : ¬ k ≤ i := by omega
  simp [this]
 ·intro i hi
  simp [hi]
 ·intro i hi
  have : ¬ i < k + 32 := by omega
  simp [this]
theorem bitMore_any (y : Nat) (hy : y < 4294967296) (w : World) : Calls Tryz.prog 100 #[.int .u32 (y : Int)] w fun e w' => e = .returned (.int .u32 (stepF y : Nat)) ∧ w = w' := by
 by_cases h : y % 2 = 1
 ·have t : ((y : Int) % 2 == 1) = true := beq_yes (by omega)
  have HE : Hid (bits .xor .u32 ((y : Int) / 2) 3988292384 = (stepF y : Nat)) := by
   unfold Hid stepF
   rw [if_pos h]
   exact u32_xor_nat (y / 2) polyN (by omega) (by decide)
  clear h
  go_enter Tryz.func100, Tryz.ntmps100
  go_wp2
  go_ret
  exact ⟨ret_int HE.out, rfl⟩
 ·have t : ((y : Int) % 2 == 1) = false := beq_no (by omega)
  have HE : Hid ((y : Int) / 2 = (stepF y : Nat)) := by
   unfold Hid stepF
   rw [if_neg h]
   omega
  clear h
  go_enter Tryz.func100, Tryz.ntmps100
  go_wp2
  go_ret
  exact ⟨ret_int HE.out, rfl⟩
def tabE (k : Nat) : List Value := (List.range 256).map fun c => .int .u32 (if c < k then (stepK 8 c : Nat) else 0)
theorem tabE_len (k : Nat) : (tabE k).length = 256 := by simp [tabE]
theorem tabE_at (k c : Nat) (h : c < 256) : (tabE k)[c]? = some (.int .u32 (if c < k then (stepK 8 c : Nat) else 0)) := by
 simp [tabE, h]
theorem tabE_step (k : Nat) (h : k < 256) : tabE (k + 1) = (tabE k).set k (.int .u32 (stepK 8 k : Nat)) := by
 apply List.ext_getElem?
 intro j
 rw [List.getElem?_set]
 by_cases hj : j < 256
 ·rw [tabE_at _ _ hj, tabE_at _ _ hj, tabE_len]
  by_cases e : k = j
  ·subst e
   rw [if_pos rfl, if_pos hj, if_pos (by omega)]
  ·rw [if_neg e]
   by_cases h3 : j < k
   ·rw [if_pos h3, if_pos (by omega)]
   ·rw [if_neg h3, if_neg (by omega)]
 ·rw [List.getElem?_eq_none (by rw [tabE_len]; omega), List.getElem?_eq_none (by rw [tabE_len]; omega)]
  split
  ·rw [if_neg (by rw [tabE_len]; omega)]
  ·rfl
def z256 : Array Value := (List.replicate 256 (.int .u32 0)).toArray
theorem zero256 (w : World) : (zeroValue 147).run Tryz.prog w = .ok (.agg z256) w := by kernel_rfl
theorem tabE_nought : z256.toList = tabE 0 := by
 unfold z256 tabE
 rw [List.toList_toArray]
 apply List.ext_getElem?
 intro j
 by_cases hj : j < 256
 ·have := tabE_at 0 j hj
  rw [if_neg (Nat.not_lt_zero _)] at this
  rw [List.getElem?_replicate, if_pos hj]
  exact this.symm
 ·have := List.getElem?_eq_none (l := tabE 0) (i := j) (by rw [tabE_len]; omega)
  rw [List.getElem?_replicate, if_neg hj]
  exact this.symm
def tabAt (w : World) (B k : Nat) : Prop := ∃ C t, w.heap[B]? = some (.cells C t (0, 0)) ∧ C.toList = tabE k
theorem tabAt.size {C : Array Value} {k : Nat} (h : C.toList = tabE k) : C.size = 256 := by
 have := congrArg List.length h
 rw [tabE_len] at this
 simpa using this
theorem tabAt.lt {w : World} {B k : Nat} (h : tabAt w B k) : B < w.heap.size := by
 obtain ⟨C, t, h1, _⟩ := h
 exact (Array.getElem?_eq_some_iff.1 h1).1
theorem tabAt.cell {w : World} {B k : Nat} (h : tabAt w B k) (c : Nat) (hc : c < 256) : w.cell? ⟨B, c, none⟩ = some (.int .u32 (if c < k then (stepK 8 c : Nat) else 0)) := by
 obtain ⟨C, t, h1, h2⟩ := h
 have := tabE_at k c hc
 rw [← h2] at this
 simp [World.cell?, h1]
 simpa using this
theorem tabAt.frozen {w : World} {B k : Nat} (h : tabAt w B k) (c : Nat) : w.frozen? ⟨B, c, none⟩ = false := by
 obtain ⟨C, t, h1, h2⟩ := h
 simp [World.frozen?, h1]
theorem tabAt.step {w : World} {B k : Nat} (h : tabAt w B k) (hk : k < 256) : tabAt (w.setCell ⟨B, k, none⟩ (.int .u32 (stepK 8 k : Nat))) B (k + 1) := by
 obtain ⟨C, t, h1, h2⟩ := h
 refine ⟨C.setIfInBounds k (.int .u32 (stepK 8 k : Nat)), t, ?_, ?_⟩
 ·simp [World.setCell, Array.getElem?_modify, h1]
 ·rw [Array.toList_setIfInBounds, h2, tabE_step k hk]
theorem tabAt.below {w w' : World} {B k : Nat} (h : tabAt w B k) (hb : w'.heap[B]? = w.heap[B]?) : tabAt w' B k := by
 obtain ⟨C, t, h1, h2⟩ := h
 exact ⟨C, t, hb.trans h1, h2⟩
theorem tabAt_new (w : World) (t : TypeId) : tabAt (w.alloc (.cells z256 t)) w.heap.size 0 := ⟨z256, t, heap_alloc_new w _, tabE_nought⟩
theorem tab_size {C : Array Value} {k : Nat} (h : C.toList = tabE k) : (Tryz.prog.info? 147).map (·.size) = some C.size := by
 rw [tabAt.size h]
 kernel_rfl
theorem tab_one {C : Array Value} {k : Nat} (h : C.toList = tabE k) : C.all (·.oneCell') = true := by
 rw [Array.all_eq_true_iff_forall_mem]
 intro x hx
 have : x ∈ tabE k := by rw [← h]; simpa using hx
 obtain ⟨c, _, rfl⟩ := List.mem_map.1 this
 rfl
def tabV : Array Value := (tabE 256).toArray
theorem tabV_of {C : Array Value} (h : C.toList = tabE 256) : C = tabV := by
 unfold tabV
 rw [← h]
theorem below_setRow {B : Nat} {a w : World} (h : Below B a w) {g : Nat} (hg : B ≤ g) (cs : Array Value) : Below B a (w.setRow g cs) :=
 h.trans ⟨rfl, rfl, rfl, by simp [World.setRow], fun k hk => setRow_other _ _ _ _ (by omega)⟩
theorem tabAt.setRow {w : World} {B k n : Nat} {C : Array Value} (h : tabAt w B k) (hC : C.toList = tabE n) : tabAt (w.setRow B C) B n := by
 obtain ⟨C0, t, h1, h2⟩ := h
 exact ⟨C, t, setRow_heap w B C0 C t _ h1, hC⟩
theorem stepK_eight (k : Nat) : stepF (stepF (stepF (stepF (stepF (stepF (stepF (stepF k))))))) = stepK 8 k := rfl
set_option maxRecDepth 100000 in
theorem eightMore_any (w : World) :
  Calls Tryz.prog 69 #[] w fun e w' => e = .returned (.agg tabV) ∧ Below w.heap.size w w' := by
 have HZ0 := Lib.hid (tabAt_new w 147)
 have HZ := Lib.hid (tabAt_new (w.alloc (.cells z256 147)) 147)
 have hzero := zero256
 have HB2 : Hid (Below w.heap.size w ((w.alloc (.cells z256 147)).alloc (.cells z256 147))) := ((Below.refl _ _).alloc (Nat.le_refl _) _).alloc (by simp) _
 go_enter Tryz.func69, Tryz.ntmps69
 go_wp2
 clear hzero
 go_loopg [2, 3, 4, 9] 256 (fun g x2 x3 v x9 wr => ∃ k : Nat, k ≤ 256 ∧ g = 256 - k ∧ v = .int .i64 k ∧ Hid (tabAt wr (w.heap.size + 1) k) ∧ Hid (tabAt wr w.heap.size 0) ∧ Hid (Below w.heap.size w wr))
 case atStart =>
  refine ⟨0, by omega, by omega, rfl, ?_, ?_, HB2.out⟩
  ·have := HZ.out
   rw [show (w.alloc (.cells z256 147)).heap.size = w.heap.size + 1 by simp] at this
   exact this
  ·exact HZ0.out.below (((Below.refl _ _).alloc (Nat.le_refl _) _).block _ HZ0.out.lt)
 case round =>
  obtain ⟨k, hk, rfl, rfl, HT, HR, HB⟩ := hrel
  by_cases hlt : k < 256
  ·obtain ⟨x, hcell⟩ : ∃ x, wr.cell? ⟨w.heap.size + 1, k, none⟩ = some x := ⟨_, HT.out.cell k hlt⟩
   have hfr := HT.out.frozen k
   have h1 : stepF k < 4294967296 := stepF_lt (by omega)
   have h2 := stepF_lt h1
   have h3 := stepF_lt h2
   have h4 := stepF_lt h3
   have h5 := stepF_lt h4
   have h6 := stepF_lt h5
   have h7 := stepF_lt h6
   have h8 := stepF_lt h7
   have HS := Lib.hid (stepK_eight k)
   obtain ⟨k1, e1⟩ : ∃ x, x = stepF k := ⟨_, rfl⟩
   obtain ⟨k2, e2⟩ : ∃ x, x = stepF k1 := ⟨_, rfl⟩
   obtain ⟨k3, e3⟩ : ∃ x, x = stepF k2 := ⟨_, rfl⟩
   obtain ⟨k4, e4⟩ : ∃ x, x = stepF k3 := ⟨_, rfl⟩
   obtain ⟨k5, e5⟩ : ∃ x, x = stepF k4 := ⟨_, rfl⟩
   obtain ⟨k6, e6⟩ : ∃ x, x = stepF k5 := ⟨_, rfl⟩
   obtain ⟨k7, e7⟩ : ∃ x, x = stepF k6 := ⟨_, rfl⟩
   obtain ⟨k8, e8⟩ : ∃ x, x = stepF k7 := ⟨_, rfl⟩
   rw [← e1] at h1 h2 h3 h4 h5 h6 h7 h8 HS
   rw [← e2] at h2 h3 h4 h5 h6 h7 h8 HS
   rw [← e3] at h3 h4 h5 h6 h7 h8 HS
   rw [← e4] at h4 h5 h6 h7 h8 HS
   rw [← e5] at h5 h6 h7 h8 HS
   rw [← e6] at h6 h7 h8 HS
   rw [← e7] at h7 h8 HS
   rw [← e8] at h8 HS
   have F0 := bitMore_any k (by omega) wr
   have F1 := bitMore_any k1 h1 wr
   have F2 := bitMore_any k2 h2 wr
   have F3 := bitMore_any k3 h3 wr
   have F4 := bitMore_any k4 h4 wr
   have F5 := bitMore_any k5 h5 wr
   have F6 := bitMore_any k6 h6 wr
   have F7 := bitMore_any k7 h7 wr
   rw [← e1] at F0
   rw [← e2] at F1
   rw [← e3] at F2
   rw [← e4] at F3
   rw [← e5] at F4
   rw [← e6] at F5
   rw [← e7] at F6
   rw [← e8] at F7
   have HF0 := Lib.hid F0
   have HF1 := Lib.hid F1
   have HF2 := Lib.hid F2
   have HF3 := Lib.hid F3
   have HF4 := Lib.hid F4
   have HF5 := Lib.hid F5
   have HF6 := Lib.hid F6
   have HF7 := Lib.hid F7
   clear F0 F1 F2 F3 F4 F5 F6 F7 e1 e2 e3 e4 e5 e6 e7 e8
   go_wp2
   refine wp_loop_rounds 9 ?_
   rw [rounds_succ]
   go_wp2_with fail
   with_reducible refine HF0.out.mono ?_
   rintro e w1 ⟨rfl, rfl⟩
   go_wp2
   rw [rounds_succ]
   go_wp2_with fail
   with_reducible refine HF1.out.mono ?_
   rintro e w1 ⟨rfl, rfl⟩
   go_wp2
   rw [rounds_succ]
   go_wp2_with fail
   with_reducible refine HF2.out.mono ?_
   rintro e w1 ⟨rfl, rfl⟩
   go_wp2
   rw [rounds_succ]
   go_wp2_with fail
   with_reducible refine HF3.out.mono ?_
   rintro e w1 ⟨rfl, rfl⟩
   go_wp2
   rw [rounds_succ]
   go_wp2_with fail
   with_reducible refine HF4.out.mono ?_
   rintro e w1 ⟨rfl, rfl⟩
   go_wp2
   rw [rounds_succ]
   go_wp2_with fail
   with_reducible refine HF5.out.mono ?_
   rintro e w1 ⟨rfl, rfl⟩
   go_wp2
   rw [rounds_succ]
   go_wp2_with fail
   with_reducible refine HF6.out.mono ?_
   rintro e w1 ⟨rfl, rfl⟩
   go_wp2
   rw [rounds_succ]
   go_wp2_with fail
   with_reducible refine HF7.out.mono ?_
   rintro e w1 ⟨rfl, rfl⟩
   go_wp2
   rw [rounds_succ]
   go_wp2
   go_roundg (256 - (k + 1))
   case measure => omega
   case rel =>
    refine ⟨k + 1, by omega, rfl, by go_num, ?_, ?_, HB.out.setCell (Nat.le_succ _) _⟩
    ·rw [HS.out]
     exact HT.out.step hlt
    ·exact HR.out.below (Below.heap_setCell _ _ _ _ (Nat.ne_of_lt (Nat.lt_succ_self _)))
  ·obtain rfl : k = 256 := by omega
   obtain ⟨C, t, hg, hC⟩ := HT.out
   obtain ⟨C0, t0, hg0, hC0⟩ := HR.out
   obtain rfl := tabV_of hC
   have HG := Lib.hid hg
   have HG0 := Lib.hid hg0
   clear hg hg0
   go_wp2_with (first | (refine wpList_load_row rfl 147 (.tmp 1) rfl (w.heap.size + 1) rfl t tabV (0, 0) (.array 256 24) HG.out Tryz.underlying147 rfl (tab_size hC) ?_) | (refine wpList_store_row rfl 147 (.tmp 0) (.tmp 18) rfl w.heap.size tabV rfl rfl t0 C0 HG0.out (tab_size hC) (by rw [tabAt.size hC0, tabAt.size hC]) (tab_one hC) ?_))
   refine bodyPost_ret (results_cell_row (P := Tryz.prog) Tryz.results69 _ _ w.heap.size t0 tabV (0, 0) (.array 256 24) rfl (setRow_heap _ _ _ _ _ _ HG0.out) Tryz.underlying147 rfl (tab_size hC)) rfl ⟨rfl, ?_⟩
   exact below_setRow HB.out (Nat.le_refl _) _
theorem xor_mod256 (x c : Nat) (hc : c < 256) : (x ^^^ c) % 256 = (x % 256) ^^^ c := by
 have := Nat.xor_mod_two_pow (a := x) (b := c) (n := 8)
 rw [show (2 : Nat) ^ 8 = 256 from rfl] at this
 rw [this, Nat.mod_eq_of_lt hc]
theorem xor_div256 (x c : Nat) (hc : c < 256) : (x ^^^ c) / 256 = x / 256 := by
 have := Nat.xor_div_two_pow (a := x) (b := c) (n := 8)
 rw [show (2 : Nat) ^ 8 = 256 from rfl] at this
 rw [this, Nat.div_eq_of_lt hc, Nat.xor_zero]
theorem turned (x : Nat) (hx : x < 4294967296) : bits .xor .u32 IntKind.u32.max (x : Int) = ((allN - x : Nat) : Int) := by
 have e : bits .xor .u32 IntKind.u32.max (x : Int) = ((4294967295 ^^^ x : Nat) : Int) := u32_xor_nat 4294967295 x (by omega) hx
 rw [e]
 congr 1
 have h := congrArg BitVec.toNat (BitVec.allOnes_xor (x := BitVec.ofNat 32 x))
 rw [BitVec.toNat_xor, BitVec.toNat_not, BitVec.toNat_allOnes, BitVec.toNat_ofNat, Nat.mod_eq_of_lt (by omega)] at h
 exact h
theorem one_step (x c : Nat) (hc : c < 256) : stepK 8 (x ^^^ c) = stepK 8 ((x % 256) ^^^ c) ^^^ (x / 256) := by
 rw [byte_step, xor_mod256 x c hc, xor_div256 x c hc]
set_option maxRecDepth 100000 in
theorem more_any (s : Nat) (v : Value) (l : List UInt8) (w : World) (hs : s < 4294967296) (hv : bytesArg w v l) :
  Calls Tryz.prog 41 #[.int .u32 (s : Int), v] w fun e w' => e = .returned (.int .u32 (moreS s l : Nat)) ∧ Below w.heap.size w w' := by
 obtain ⟨ao, cap, rfl, hc, hm, hs1⟩ := hv
 have HS : Hid (sliceAt w ao l) := hs1
 unfold maxLen at hm
 clear hs1
 have hzero := zero256
 go_enter Tryz.func41, Tryz.ntmps41
 go_wp2_with fail
 refine (eightMore_any _).mono ?_
 rintro e w1 ⟨rfl, hb1⟩
 have HB1 := Lib.hid hb1
 clear hb1
 have HZ := Lib.hid (tabAt_new w1 147)
 go_wp2_with (refine wpList_store_row rfl 147 (.tmp 5) (.tmp 9) rfl w1.heap.size tabV rfl rfl 147 z256 (heap_alloc_new _ _) (tab_size (k := 256) rfl) (by rw [tabAt.size tabE_nought, tabAt.size (k := 256) (C := tabV) rfl]) (tab_one (k := 256) rfl) ?_)
 clear hzero
 go_loopg [6, 8, 14] l.length (fun g x6 x8 v wr => ∃ (k x : Nat), k ≤ l.length ∧ g = l.length - k ∧ v = .int .i64 k ∧ x6 = .int .u32 x ∧ x < 4294967296 ∧ Hid (x = sumS (allN - s) (l.take k)) ∧ Hid (Below w.heap.size w wr) ∧ Hid (tabAt wr w1.heap.size 256))
 case atStart =>
  refine ⟨0, allN - s, by omega, by omega, rfl, by rw [turned s hs], by unfold allN; omega, rfl, below_setRow (HB1.out.alloc HB1.out.size _) HB1.out.size _, HZ.out.setRow rfl⟩
 case round =>
  obtain ⟨k, x, hk, rfl, rfl, rfl, hx, HX, HB, HT⟩ := hrel
  by_cases hlt : k < l.length
  ·obtain ⟨b, off, rfl, hb, hcell0⟩ := HS.out.cell k hlt
   obtain ⟨c, hcc⟩ : ∃ c, c = l[k] := ⟨_, rfl⟩
   rw [← hcc] at hcell0
   have hcell : wr.cell? ⟨b, off + k, none⟩ = some (.int .u8 (c.toNat : Int)) := (HB.out.cell (p := ⟨b, off + k, none⟩) hb).trans hcell0
   have hblt : b < wr.heap.size := Nat.lt_of_lt_of_le hb HB.out.size
   have hct := c.toNat_lt
   obtain ⟨i, hi⟩ : ∃ i, i = (x % 256) ^^^ c.toNat := ⟨_, rfl⟩
   have hi256 : i < 256 := by rw [hi]; exact Nat.xor_lt_two_pow (n := 8) (by omega) (by omega)
   have e1 : bits .xor .u8 ((x : Int) % 256) (c.toNat : Int) = (i : Int) := by rw [hi]; exact u8_xor_nat (x % 256) c.toNat (by omega) (by omega)
   obtain ⟨T, hT⟩ : ∃ T, T = stepK 8 i := ⟨_, rfl⟩
   have hTl : T < 4294967296 := by rw [hT]; exact stepK_lt 8 (by omega)
   have htc : wr.cell? ⟨w1.heap.size, i, none⟩ = some (.int .u32 (T : Int)) := by
    have := HT.out.cell i hi256
    rw [if_pos hi256, ← hT] at this
    exact this
   obtain ⟨y, hy⟩ : ∃ y, y = T ^^^ (x / 256) := ⟨_, rfl⟩
   have hyl : y < 4294967296 := by rw [hy]; exact xor_lt32 hTl (by omega)
   have e2 : bits .xor .u32 (T : Int) ((x : Int) / 256) = (y : Int) := by rw [hy]; exact u32_xor_nat T (x / 256) hTl (by omega)
   have HY : Hid (y = sumS (allN - s) (l.take (k + 1))) := by
    unfold Hid
    rw [take_snocL l k hlt, sumS_snoc, ← HX.out, ← hcc, one_step x c.toNat (by omega), ← hi, ← hT, hy]
   have hw1 : w1.heap.size < wr.heap.size := HT.out.lt
   clear hcc hi hT hy hcell0
   go_wp2
   go_roundg (l.length - (k + 1))
   case measure => omega
   case rel => exact ⟨k + 1, y, by omega, rfl, by go_num, by go_num, hyl, HY.out, HB.out, HT.out⟩
  ·have HE : Hid (bits .xor .u32 IntKind.u32.max (x : Int) = (moreS s l : Nat)) := by
    have := HX.out
    rw [List.take_of_length_le (by omega)] at this
    unfold Hid moreS
    rw [← this, turned x hx]
   go_wp2
   go_ret
   exact ⟨ret_int HE.out, HB.out⟩
theorem crcSum_any (v : Value) (l : List UInt8) (w : World) (hv : bytesArg w v l) :
  Calls Tryz.prog 19 #[v] w fun e w' => e = .returned (.int .u32 (moreS 0 l : Nat)) ∧ Below w.heap.size w w' := by
 have HF := Lib.hid (more_any 0 v l w (by omega) hv)
 go_enter Tryz.func19, Tryz.ntmps19
 go_wp2_with fail
 refine (HF.out).mono ?_
 rintro e w1 ⟨rfl, hb⟩
 go_wp2
 go_ret
 exact ⟨rfl, hb⟩
end Go.Proofs.YtedminjnnhlknaaGreatDoor
