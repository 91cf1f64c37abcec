/- Sums of bits in plain words: a bit more, bytes, tables, what bursts do. No program. -/
import Derived.Test.YtpaklbopgkbnlaaKit2
namespace Go.Proofs.Ytpaklbopgkbnlaa
open Go Go.RowKit

def polyN : Nat := 3988292384
def allN : Nat := 4294967295
/-- A bit more, the bit taken in already. -/
def stepF (y : Nat) : Nat := if y % 2 = 1 then (y / 2) ^^^ polyN else y / 2
def stepK : Nat → Nat → Nat
  | 0, y => y
  | n + 1, y => stepK n (stepF y)

theorem xor_cl (a b : Nat) : a ^^^ (a ^^^ b) = b := by rw [← Nat.xor_assoc, Nat.xor_self, Nat.zero_xor]
theorem xor_inj {a b c : Nat} (h : a ^^^ b = a ^^^ c) : b = c := by
  have := congrArg (a ^^^ ·) h
  simpa only [xor_cl] using this
theorem xor_zero_eq {a b : Nat} (h : a ^^^ b = 0) : a = b := by
  have : a ^^^ b = a ^^^ a := by rw [h, Nat.xor_self]
  exact (xor_inj this).symm
theorem xor_lt32 {a b : Nat} (ha : a < 4294967296) (hb : b < 4294967296) : a ^^^ b < 4294967296 := Nat.xor_lt_two_pow (n := 32) ha hb
theorem stepF_lt {y : Nat} (h : y < 4294967296) : stepF y < 4294967296 := by
  unfold stepF
  split
  · exact xor_lt32 (by omega) (by decide)
  · omega
theorem stepK_lt : ∀ (n : Nat) {y : Nat}, y < 4294967296 → stepK n y < 4294967296
  | 0, _, h => h
  | n + 1, _, h => stepK_lt n (stepF_lt h)
theorem xor_swap (a b c d : Nat) : (a ^^^ b) ^^^ (c ^^^ d) = (a ^^^ c) ^^^ (b ^^^ d) := by
  rw [Nat.xor_assoc, ← Nat.xor_assoc b, Nat.xor_comm b c, Nat.xor_assoc c, ← Nat.xor_assoc a]
theorem stepF_xor (a b : Nat) : stepF (a ^^^ b) = stepF a ^^^ stepF b := by
  unfold stepF
  rw [Nat.xor_div_two]
  by_cases ha : a % 2 = 1
  · by_cases hb : b % 2 = 1
    · rw [if_neg (fun h => (Nat.xor_mod_two_eq_one.1 h) ⟨fun _ => hb, fun _ => ha⟩), if_pos ha, if_pos hb, xor_swap, Nat.xor_self, Nat.xor_zero]
    · rw [if_pos (Nat.xor_mod_two_eq_one.2 (fun h => hb (h.1 ha))), if_pos ha, if_neg hb, Nat.xor_assoc, Nat.xor_assoc, Nat.xor_comm polyN]
  · by_cases hb : b % 2 = 1
    · rw [if_pos (Nat.xor_mod_two_eq_one.2 (fun h => ha (h.2 hb))), if_neg ha, if_pos hb, Nat.xor_assoc]
    · rw [if_neg (fun h => (Nat.xor_mod_two_eq_one.1 h) ⟨fun h => absurd h ha, fun h => absurd h hb⟩), if_neg ha, if_neg hb]
theorem stepK_xor : ∀ (n a b : Nat), stepK n (a ^^^ b) = stepK n a ^^^ stepK n b
  | 0, _, _ => rfl
  | n + 1, a, b => by simp only [stepK]; rw [stepF_xor, stepK_xor n]
theorem stepF_zero : stepF 0 = 0 := rfl
theorem stepK_zero : ∀ n, stepK n 0 = 0
  | 0 => rfl
  | n + 1 => by simp only [stepK]; rw [stepF_zero, stepK_zero n]
theorem stepF_pos {y : Nat} (h : y < 4294967296) (h0 : y ≠ 0) : stepF y ≠ 0 := by
  unfold stepF
  split
  · intro h'
    have := xor_zero_eq h'
    unfold polyN at this
    omega
  · omega
theorem stepK_pos : ∀ (n : Nat) {y : Nat}, y < 4294967296 → y ≠ 0 → stepK n y ≠ 0
  | 0, _, _, h0 => h0
  | n + 1, _, h, h0 => stepK_pos n (stepF_lt h) (stepF_pos h h0)
theorem stepK_inj (n : Nat) {a b : Nat} (ha : a < 4294967296) (hb : b < 4294967296) (h : stepK n a = stepK n b) : a = b := by
  apply Decidable.byContradiction
  intro hne
  have h1 : stepK n (a ^^^ b) = 0 := by rw [stepK_xor, h, Nat.xor_self]
  exact stepK_pos n (xor_lt32 ha hb) (fun h0 => hne (xor_zero_eq h0)) h1
theorem stepK_add : ∀ (m n y : Nat), stepK (m + n) y = stepK n (stepK m y)
  | 0, n, y => by rw [Nat.zero_add]; rfl
  | m + 1, n, y => by rw [Nat.add_right_comm]; simp only [stepK]; exact stepK_add m n _
theorem stepF_even (v : Nat) : stepF (2 * v) = v := by
  unfold stepF
  rw [if_neg (by omega)]
  omega
theorem stepK_high : ∀ (n v : Nat), stepK n (2 ^ n * v) = v
  | 0, v => by simp [stepK]
  | n + 1, v => by
    simp only [stepK]
    rw [Nat.pow_succ, Nat.mul_comm (2 ^ n) 2, Nat.mul_assoc, stepF_even, stepK_high n v]
theorem split_bits (n y : Nat) : (y % 2 ^ n) ^^^ (2 ^ n * (y / 2 ^ n)) = y := by
  apply Nat.eq_of_testBit_eq
  intro i
  rw [Nat.testBit_xor, Nat.testBit_mod_two_pow, Nat.testBit_two_pow_mul]
  by_cases h : i < n
  · have : ¬ i ≥ n := by omega
    simp [h, this]
  · have h2 : i ≥ n := by omega
    rw [Nat.testBit_div_two_pow, Nat.sub_add_cancel h2]
    simp [h, h2]
/-- Eight bits at once: the table's way. -/
theorem stepK_split (n y : Nat) : stepK n y = stepK n (y % 2 ^ n) ^^^ (y / 2 ^ n) := by
  conv => lhs; rw [← split_bits n y]
  rw [stepK_xor, stepK_high]
theorem byte_step (y : Nat) : stepK 8 y = stepK 8 (y % 256) ^^^ (y / 256) := stepK_split 8 y

/-- A byte's bits, one by one, the lowest first. -/
def byteIt : Nat → Nat → Nat → Nat
  | 0, x, _ => x
  | n + 1, x, c => byteIt n (stepF (x ^^^ (c % 2))) (c / 2)
theorem byteIt_eq : ∀ (n x c : Nat), c < 2 ^ n → byteIt n x c = stepK n (x ^^^ c)
  | 0, x, c, h => by
    obtain rfl : c = 0 := by simpa using h
    simp [byteIt, stepK]
  | n + 1, x, c, h => by
    simp only [byteIt, stepK]
    rw [byteIt_eq n _ (c / 2) (by rw [Nat.pow_succ] at h; omega)]
    have hc : c = (c % 2) ^^^ (2 * (c / 2)) := (split_bits 1 c).symm
    have : stepF (x ^^^ c) = stepF (x ^^^ (c % 2)) ^^^ (c / 2) := by
      conv => lhs; rw [hc, ← Nat.xor_assoc, stepF_xor, stepF_even]
    rw [this]

/-- The sum's inner state behind bytes. -/
def sumS (x : Nat) (l : List UInt8) : Nat := l.foldl (fun x b => stepK 8 (x ^^^ b.toNat)) x
def moreS (s : Nat) (l : List UInt8) : Nat := allN - sumS (allN - s) l
theorem byte_lt32 (b : UInt8) : b.toNat < 4294967296 := by have := b.toNat_lt; omega
theorem sumS_nil (x : Nat) : sumS x [] = x := rfl
theorem sumS_cons (x : Nat) (b : UInt8) (l : List UInt8) : sumS x (b :: l) = sumS (stepK 8 (x ^^^ b.toNat)) l := rfl
theorem sumS_append (x : Nat) (a b : List UInt8) : sumS x (a ++ b) = sumS (sumS x a) b := by unfold sumS; rw [List.foldl_append]
theorem sumS_snoc (x : Nat) (l : List UInt8) (b : UInt8) : sumS x (l ++ [b]) = stepK 8 (sumS x l ^^^ b.toNat) := by rw [sumS_append]; rfl
theorem sumS_lt : ∀ (l : List UInt8) {x : Nat}, x < 4294967296 → sumS x l < 4294967296
  | [], _, h => h
  | b :: l, _, h => sumS_lt l (stepK_lt 8 (xor_lt32 h (byte_lt32 b)))
theorem sumS_inj : ∀ (l : List UInt8) {x y : Nat}, x < 4294967296 → y < 4294967296 → sumS x l = sumS y l → x = y
  | [], _, _, _, _, h => h
  | b :: l, x, y, hx, hy, h => by
    have h1 := sumS_inj l (stepK_lt 8 (xor_lt32 hx (byte_lt32 b))) (stepK_lt 8 (xor_lt32 hy (byte_lt32 b))) h
    have h2 := stepK_inj 8 (xor_lt32 hx (byte_lt32 b)) (xor_lt32 hy (byte_lt32 b)) h1
    rw [Nat.xor_comm x, Nat.xor_comm y] at h2
    exact xor_inj h2
theorem moreS_lt (s : Nat) (l : List UInt8) : moreS s l < 4294967296 := by unfold moreS allN; omega
theorem moreS_append {s : Nat} (hs : s < 4294967296) (a b : List UInt8) : moreS (moreS s a) b = moreS s (a ++ b) := by
  have h : sumS (allN - s) a < 4294967296 := sumS_lt a (by unfold allN; omega)
  unfold moreS
  rw [sumS_append]
  have : allN - (allN - sumS (allN - s) a) = sumS (allN - s) a := by unfold allN at *; omega
  rw [this]
theorem moreS_nil {s : Nat} (hs : s < 4294967296) : moreS s [] = s := by unfold moreS; rw [sumS_nil]; unfold allN; omega
theorem moreS_eq {s : Nat} {a b : List UInt8} : moreS s a = moreS s b ↔ sumS (allN - s) a = sumS (allN - s) b := by
  have ha := sumS_lt a (x := allN - s) (by unfold allN; omega)
  have hb := sumS_lt b (x := allN - s) (by unfold allN; omega)
  unfold moreS
  unfold allN at *
  constructor
  · intro h; omega
  · intro h; rw [h]
/-- One byte that is another one. -/
theorem one_byte (x : Nat) (hx : x < 4294967296) (p q : List UInt8) (b c : UInt8) : sumS x (p ++ b :: q) = sumS x (p ++ c :: q) ↔ b = c := by
  rw [sumS_append, sumS_append, sumS_cons, sumS_cons]
  have hp := sumS_lt p hx
  constructor
  · intro h
    have h1 := sumS_inj q (stepK_lt 8 (xor_lt32 hp (byte_lt32 b))) (stepK_lt 8 (xor_lt32 hp (byte_lt32 c))) h
    have h2 := stepK_inj 8 (xor_lt32 hp (byte_lt32 b)) (xor_lt32 hp (byte_lt32 c)) h1
    exact toNat_eq (xor_inj h2)
  · rintro rfl
    rfl

/-! Bit by bit. -/
def bitN (f : Nat → Bool) (n : Nat) : Nat := if f n then 1 else 0
def bitsS (x : Nat) (f : Nat → Bool) : Nat → Nat
  | 0 => x
  | n + 1 => stepF (bitsS x f n ^^^ bitN f n)
def bitAt (l : List UInt8) (n : Nat) : Bool := (l.getD (n / 8) 0).toNat.testBit (n % 8)
theorem bitsS_congr {x : Nat} {f g : Nat → Bool} : ∀ (n : Nat), (∀ i, i < n → f i = g i) → bitsS x f n = bitsS x g n
  | 0, _ => rfl
  | n + 1, h => by
    simp only [bitsS]
    rw [bitsS_congr n (fun i hi => h i (by omega))]
    unfold bitN
    rw [h n (by omega)]
theorem bitsS_byte (x : Nat) (f : Nat → Bool) (m c : Nat) : ∀ (k : Nat), (∀ i, i < k → f (m + i) = c.testBit i) → bitsS x f (m + k) = byteIt k (bitsS x f m) c
  | 0, _ => rfl
  | k + 1, h => by
    have : ∀ (k : Nat) (y d : Nat), stepF (byteIt k y d ^^^ ((d / 2 ^ k) % 2)) = byteIt (k + 1) y d := by
      intro k
      induction k with
      | zero => intro y d; simp [byteIt]
      | succ k ih =>
        intro y d
        simp only [byteIt]
        have := ih (stepF (y ^^^ (d % 2))) (d / 2)
        rw [Nat.div_div_eq_div_mul, Nat.mul_comm 2, ← Nat.pow_succ] at this
        rw [this]
        rfl
    rw [← this k, ← bitsS_byte x f m c k (fun i hi => h i (by omega))]
    show stepF (bitsS x f (m + k) ^^^ bitN f (m + k)) = _
    have e : bitN f (m + k) = c / 2 ^ k % 2 := by
      unfold bitN
      rw [h k (by omega), Nat.testBit_eq_decide_div_mod_eq]
      by_cases h1 : c / 2 ^ k % 2 = 1
      · simp [h1]
      · simp [h1]; omega
    rw [e]
theorem sumS_bits (x : Nat) (l : List UInt8) : ∀ (n : Nat), n ≤ l.length → sumS x (l.take n) = bitsS x (bitAt l) (8 * n)
  | 0, _ => by simp [sumS, bitsS]
  | n + 1, h => by
    have hn : n < l.length := by omega
    rw [take_snocL l n hn, sumS_snoc, sumS_bits x l n (by omega)]
    rw [show 8 * (n + 1) = 8 * n + 8 by omega, bitsS_byte x (bitAt l) (8 * n) l[n].toNat 8 ?_, byteIt_eq]
    · have := l[n].toNat_lt
      omega
    · intro i hi
      unfold bitAt
      rw [show (8 * n + i) / 8 = n by omega, show (8 * n + i) % 8 = i by omega]
      simp [List.getD, hn]
theorem sumS_all (x : Nat) (l : List UInt8) : sumS x l = bitsS x (bitAt l) (8 * l.length) := by
  have := sumS_bits x l l.length (Nat.le_refl _)
  rwa [List.take_length] at this
/-- What two rows of bits part by. -/
theorem bitsS_diff (x : Nat) (f g : Nat → Bool) : ∀ n, bitsS x f n ^^^ bitsS x g n = bitsS 0 (fun i => f i ^^ g i) n
  | 0 => by simp [bitsS]
  | n + 1 => by
    simp only [bitsS]
    rw [← bitsS_diff x f g n, ← stepF_xor, xor_swap]
    congr 2
    unfold bitN
    show _ = if (f n ^^ g n) = true then 1 else 0
    cases f n <;> cases g n <;> rfl
/-- Bits from k on that a number of 32 bits tells. -/
theorem burst_at (d : Nat → Bool) (k v : Nat) (hv : v < 4294967296) (h0 : v ≠ 0) (hlow : ∀ i, i < k → d i = false) (hin : ∀ i, i < 32 → d (k + i) = v.testBit i) (hhigh : ∀ i, k + 32 ≤ i → d i = false) (n : Nat) (hn : k + 32 ≤ n) :
    bitsS 0 d n ≠ 0 := by
  have z : ∀ i, i ≤ k → bitsS 0 d i = 0 := by
    intro i
    induction i with
    | zero => intro _; rfl
    | succ i ih =>
      intro hi
      simp only [bitsS]
      rw [ih (by omega)]
      unfold bitN
      rw [hlow i (by omega)]
      rfl
  have h32 : bitsS 0 d (k + 32) = stepK 32 v := by
    rw [bitsS_byte 0 d k v 32 hin, byteIt_eq 32 _ v hv, z k (Nat.le_refl _), Nat.zero_xor]
  have hpos : bitsS 0 d (k + 32) ≠ 0 ∧ bitsS 0 d (k + 32) < 4294967296 := by
    rw [h32]
    exact ⟨stepK_pos 32 hv h0, stepK_lt 32 hv⟩
  obtain ⟨m, rfl⟩ : ∃ m, n = k + 32 + m := ⟨n - (k + 32), by omega⟩
  have : ∀ m, bitsS 0 d (k + 32 + m) = stepK m (bitsS 0 d (k + 32)) := by
    intro m
    induction m with
    | zero => rfl
    | succ m ih =>
      show stepF (bitsS 0 d (k + 32 + m) ^^^ bitN d (k + 32 + m)) = _
      rw [ih]
      unfold bitN
      rw [hhigh _ (by omega)]
      rw [stepK_add m 1]
      simp [stepK]
  rw [this m]
  exact stepK_pos m hpos.2 hpos.1
/-- Rows of bytes that part in up to 32 bits on end. -/
theorem burst_sums (x : Nat) (a b : List UInt8) (k v : Nat) (hl : a.length = b.length) (hv : v < 4294967296) (h0 : v ≠ 0) (hk : k + 32 ≤ 8 * a.length)
    (hd : ∀ i, i < 8 * a.length → (bitAt a i ^^ bitAt b i) = (decide (k ≤ i) && decide (i < k + 32) && v.testBit (i - k))) : sumS x a ≠ sumS x b := by
  intro h
  have h1 : bitsS 0 (fun i => bitAt a i ^^ bitAt b i) (8 * a.length) = 0 := by
    rw [← bitsS_diff x, ← sumS_all, hl, ← sumS_all, h, Nat.xor_self]
  rw [bitsS_congr _ hd] at h1
  refine burst_at (fun i => decide (k ≤ i) && decide (i < k + 32) && v.testBit (i - k)) k v hv h0 ?_ ?_ ?_ _ hk h1
  · intro i hi
    have : ¬ k ≤ i := by omega
    simp [this]
  · intro i hi
    simp [hi]
  · intro i hi
    have : ¬ i < k + 32 := by omega
    simp [this]
end Go.Proofs.Ytpaklbopgkbnlaa
