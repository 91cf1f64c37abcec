/- How far what is read reaches, in plain words. No program. -/
import Derived.Test.YtedminjnnhlknaaGreatDoorGbRcN
import Derived.Test.YtedminjnnhlknaaGreatDoorGbRcA
import Derived.Test.YtedminjnnhlknaaGreatDoorKit2
import Derived.Deep.DeepCutAuto
import Derived.Deep.CutBlock
import Derived.Deep.AppendLies
namespace Go.Proofs.YtedminjnnhlknaaGreatDoor
open Go Go.RowKit
theorem numF_pos : ∀ (f n : Nat), 1 ≤ (numF f n).length
 | 0, _ => Nat.le_refl _
 | f + 1, n => by
  show 1 ≤ (if n < 128 then _ else _ : List UInt8).length
  split <;> simp
theorem numF_len : ∀ (f n : Nat), (numF f n).length ≤ f + 1
 | 0, _ => Nat.le_refl _
 | f + 1, n => by
  show (if n < 128 then _ else _ : List UInt8).length ≤ _
  split
  ·simp
  ·have := numF_len f (n / 128)
   simp
   omega
theorem numB_pos (n : Nat) : 1 ≤ (numB n).length := numF_pos 9 n
theorem numB_len (n : Nat) : (numB n).length ≤ 10 := numF_len 9 n
theorem numP_bud {s r : List UInt8} {n : Nat} (h : numP s = .ok n r) : n + r.length * 1099511627776 ≤ s.length * 1099511627776 ∧ r.length < s.length := by
 obtain ⟨e, hn⟩ := numP_inv h
 have h1 := numB_pos n
 have h2 := congrArg List.length e
 rw [List.length_append] at h2
 omega
def apP (f : Nat) (s : List UInt8) : Rs Sp := (numP s).bind fun x r => (numP r).bind fun y r => .ok (f + x, f + x + y) r
theorem apP_bud {f : Nat} {s r : List UInt8} {v : Sp} (h : apP f s = .ok v r) : f ≤ v.1 ∧ v.1 ≤ v.2 ∧ v.2 + r.length * 1099511627776 ≤ f + s.length * 1099511627776 := by
 obtain ⟨x, s1, h1, h⟩ := bind_ok h
 obtain ⟨y, s2, h2, h⟩ := bind_ok h
 cases h
 have b1 := numP_bud h1
 have b2 := numP_bud h2
 simp only
 omega
theorem rkidsP_len {F : Nat → List UInt8 → Rs Tr} (hF : ∀ a s t r, F a s = .ok t r → r.length ≤ s.length) : ∀ (n a : Nat) (s : List UInt8) (q : List Tr × List Sp × Nat) (r : List UInt8), rkidsP F n a s = .ok q r → r.length ≤ s.length
 | 0, a, s, q, r, h => by cases h; exact Nat.le_refl _
 | n + 1, a, s, q, r, h => by
  obtain ⟨x, s1, h1, h⟩ := bind_ok h
  obtain ⟨y, s2, h2, h⟩ := bind_ok h
  obtain ⟨k, s3, h3, h⟩ := bind_ok h
  obtain ⟨p, s4, h4, h⟩ := bind_ok h
  cases h
  have b1 := (numP_bud h1).2
  have b2 := (numP_bud h2).2
  have b3 := hF _ _ _ _ h3
  have b4 := rkidsP_len hF n _ _ _ _ h4
  omega
theorem restP_bud {F : Nat → List UInt8 → Rs Tr} (hF : ∀ a s t r, F a s = .ok t r → r.length ≤ s.length) (a k : Nat) (s : List UInt8) (t : Tr) (r : List UInt8) (h : restP F a k s = .ok t r) :
  t.bd.2 + r.length * 1099511627776 ≤ a + s.length * 1099511627776 ∧ r.length ≤ s.length := by
 obtain ⟨x, s1, h1, h⟩ := bind_ok h
 obtain ⟨y, s2, h2, h⟩ := bind_ok h
 have b1 := numP_bud h1
 have b2 := numP_bud h2
 by_cases k1 : k = 1
 ·rw [if_pos k1] at h
  obtain ⟨n, s3, h3, h⟩ := bind_ok h
  have b3 := numP_bud h3
  by_cases hn : 1000 < n
  ·rw [if_pos hn] at h; cases h
  ·rw [if_neg hn] at h
   obtain ⟨q, s4, h4, h⟩ := bind_ok h
   obtain ⟨u, s5, h5, h⟩ := bind_ok h
   obtain ⟨v, s6, h6, h⟩ := bind_ok h
   cases h
   have b4 := rkidsP_len hF _ _ _ _ _ h4
   have b5 := numP_bud h5
   have b6 := numP_bud h6
   simp only [Tr.bd]
   omega
 ·rw [if_neg k1] at h
  by_cases k2 : k = 2
  ·rw [if_pos k2] at h
   obtain ⟨q, s3, h3, h⟩ := bind_ok h
   cases h
   have b3 := hF _ _ _ _ h3
   simp only [Tr.bd]
   omega
  ·rw [if_neg k2] at h
   cases h
   simp only [leafT, Tr.bd]
   omega
theorem treeP_bud : ∀ (d a : Nat) (s : List UInt8) (t : Tr) (r : List UInt8), treeP d a s = .ok t r → t.bd.2 + r.length * 1099511627776 ≤ a + s.length * 1099511627776 ∧ r.length ≤ s.length
 | 0, _, _, _, _, h => by cases h
 | d + 1, a, s, t, r, h => by
  obtain ⟨k, s1, h1, h⟩ := bind_ok h
  have b1 := numP_bud h1
  by_cases hk : 2 < k
  ·rw [if_pos hk] at h; cases h
  ·rw [if_neg hk] at h
   obtain ⟨c1, c2⟩ := restP_bud (fun a s t r h => (treeP_bud d a s t r h).2) a k s1 t r h
   exact ⟨Nat.le_trans c1 (Nat.add_le_add_left (Nat.mul_le_mul_right _ (Nat.le_of_lt b1.2)) _), Nat.le_trans c2 (Nat.le_of_lt b1.2)⟩
theorem rkidsP_one {F : Nat → List UInt8 → Rs Tr} (n a : Nat) (s : List UInt8) : rkidsP F (n + 1) a s = (apP a s).bind fun c s => (F c.2 s).bind fun k s => (rkidsP F n k.bd.2 s).bind fun q s => .ok (k :: q.1, c :: q.2.1, q.2.2) s := by
 show (numP s).bind _ = ((numP s).bind _).bind _
 cases numP s with
 | no e => rfl
 | ok x s1 =>
  show (numP s1).bind _ = ((numP s1).bind _).bind _
  cases numP s1 with
  | no e => rfl
  | ok y s2 => rfl
def aheadK (ts : List Tr) (cs : List Sp) (r : Rs (List Tr × List Sp × Nat)) : Rs (List Tr × List Sp × Nat) := r.bind fun q s => .ok (ts ++ q.1, cs ++ q.2.1, q.2.2) s
theorem aheadK_nil (r : Rs (List Tr × List Sp × Nat)) : aheadK [] [] r = r := by
 cases r with
 | no e => rfl
 | ok q s => rfl
theorem aheadK_one {F : Nat → List UInt8 → Rs Tr} (ts : List Tr) (cs : List Sp) (n a : Nat) (s : List UInt8) {c : Sp} {s1 : List UInt8} (h1 : apP a s = .ok c s1) {k : Tr} {s2 : List UInt8} (h2 : F c.2 s1 = .ok k s2) :
  aheadK ts cs (rkidsP F (n + 1) a s) = aheadK (ts ++ [k]) (cs ++ [c]) (rkidsP F n k.bd.2 s2) := by
 rw [rkidsP_one, h1]
 show aheadK ts cs ((F c.2 s1).bind _) = _
 rw [h2]
 show aheadK ts cs ((rkidsP F n k.bd.2 s2).bind _) = _
 cases rkidsP F n k.bd.2 s2 with
 | no e => rfl
 | ok q s3 =>
  show Rs.ok (ts ++ (k :: q.1), cs ++ (c :: q.2.1), q.2.2) s3 = Rs.ok ((ts ++ [k]) ++ q.1, (cs ++ [c]) ++ q.2.1, q.2.2) s3
  simp
theorem aheadK_no1 {F : Nat → List UInt8 → Rs Tr} (ts : List Tr) (cs : List Sp) (n a : Nat) (s : List UInt8) {e : Nat} (h1 : apP a s = .no e) : aheadK ts cs (rkidsP F (n + 1) a s) = .no e := by
 rw [rkidsP_one, h1]
 rfl
theorem aheadK_no2 {F : Nat → List UInt8 → Rs Tr} (ts : List Tr) (cs : List Sp) (n a : Nat) (s : List UInt8) {c : Sp} {s1 : List UInt8} (h1 : apP a s = .ok c s1) {e : Nat} (h2 : F c.2 s1 = .no e) : aheadK ts cs (rkidsP F (n + 1) a s) = .no e := by
 rw [rkidsP_one, h1]
 show aheadK ts cs ((F c.2 s1).bind _) = _
 rw [h2]
 rfl
def mulP (F : Nat → List UInt8 → Rs Tr) (a : Nat) (s : List UInt8) : Rs (List Tr × List Sp × Sp) :=
 (numP s).bind fun n s => if 1000 < n then .no 11 else (rkidsP F n a s).bind fun q s => (apP q.2.2 s).bind fun e s => .ok (q.1, q.2.1, e) s
theorem restP_eq (F : Nat → List UInt8 → Rs Tr) (a k : Nat) (s : List UInt8) : restP F a k s = (numP s).bind fun h s => (numP s).bind fun b s =>
  if k = 1 then (mulP F (a + h) s).bind fun q s => .ok (.mk 1 (a, a + h) (a + h, a + h + b) q.1 q.2.1 q.2.2) s
  else if k = 2 then (F (a + h) s).bind fun q s => .ok (.mk 2 (a, a + h) (a + h, a + h + b) [q] [] (0, 0)) s
  else .ok (leafT a (a + h) (a + h + b)) s := by
 unfold restP
 cases numP s with
 | no e => rfl
 | ok h s1 =>
  show (numP s1).bind _ = (numP s1).bind _
  cases numP s1 with
  | no e => rfl
  | ok b s2 =>
   show (if k = 1 then _ else _) = (if k = 1 then _ else _)
   by_cases k1 : k = 1
   ·rw [if_pos k1, if_pos k1]
    show (numP s2).bind _ = ((numP s2).bind _).bind _
    cases numP s2 with
    | no e => rfl
    | ok n s3 =>
     show (if 1000 < n then _ else _) = (if 1000 < n then _ else _ : Rs _).bind _
     by_cases hn : 1000 < n
     ·rw [if_pos hn, if_pos hn]; rfl
     ·rw [if_neg hn, if_neg hn]
      cases rkidsP F n (a + h) s3 with
      | no e => rfl
      | ok q s4 =>
       show (numP s4).bind _ = (((numP s4).bind _).bind _).bind _
       cases numP s4 with
       | no e => rfl
       | ok x s5 =>
        show (numP s5).bind _ = (((numP s5).bind _).bind _).bind _
        cases numP s5 with
        | no e => rfl
        | ok y s6 => rfl
   ·rw [if_neg k1, if_neg k1]
theorem recLong_any (a c : Nat) (w : World) (h : a ≤ c) (hc : c ≤ 1152921504606846976) :
  Calls Tryz.prog 42 #[.agg #[.int .i64 (a : Int), .int .i64 (c : Int)]] w fun e w' => e = .returned (.int .i64 ((c - a : Nat) : Int)) ∧ Below w.heap.size w w' := by
 obtain ⟨m, hm⟩ : ∃ m, m = c - a := ⟨_, rfl⟩
 rw [← hm]
 have hmi : (c : Int) - (a : Int) = (m : Int) := by omega
 have hmb : m ≤ 1152921504606846976 := by omega
 clear hm
 go_enter Tryz.func42, Tryz.ntmps42
 go_wp2
 go_ret
 exact ⟨rfl, (Below.refl _ _).alloc (Nat.le_refl _) _⟩
theorem valL_snoc (l : List UInt8) (b : UInt8) : valL (l ++ [b]) = valL l + b.toNat * 256 ^ l.length := by
 induction l with
 | nil => simp [valL]
 | cons x r ih =>
  show x.toNat + 256 * valL (r ++ [b]) = x.toNat + 256 * valL r + b.toNat * 256 ^ (r.length + 1)
  rw [ih, Nat.pow_succ, Nat.mul_add, Nat.mul_comm (256 ^ r.length) 256, ← Nat.mul_assoc 256, ← Nat.mul_assoc b.toNat, Nat.mul_comm 256 b.toNat]
  omega
theorem valL_bd (l : List UInt8) : valL l < 256 ^ l.length := by
 induction l with
 | nil => simp [valL]
 | cons x r ih =>
  have := x.toNat_lt
  show x.toNat + 256 * valL r < 256 ^ (r.length + 1)
  rw [Nat.pow_succ]
  omega
set_option maxRecDepth 100000 in
theorem recSumOf_any (v : Value) (l : List UInt8) (w : World) (hv : bytesArg w v l) (hl : l.length = 4) :
  Calls Tryz.prog 54 #[v] w fun e w' => e = .returned (.int .u32 (valL l : Nat)) ∧ w = w' := by
 obtain ⟨ao, cap, rfl, hc, hm, hs1⟩ := hv
 have HS : Hid (sliceAt w ao l) := hs1
 clear hs1
 go_enter Tryz.func54, Tryz.ntmps54
 go_wp2_with fail
 go_loopg [3, 4, 5, 8] 4 (fun g x3 x4 x5 x8 wr => ∃ (k x : Nat), k ≤ 4 ∧ g = 4 - k ∧ x8 = .int .i64 (k : Int) ∧ x3 = .int .u32 (x : Int) ∧ Hid (x = valL (l.take k)) ∧ w = wr)
 case atStart => exact ⟨0, 0, by omega, by omega, rfl, rfl, rfl, rfl⟩
 case round =>
  obtain ⟨k, x, hk, rfl, rfl, rfl, HX, rfl⟩ := hrel
  by_cases hlt : k < 4
  ·obtain ⟨b, off, rfl, hb, hcell0⟩ := HS.out.cell k (by omega)
   obtain ⟨c, hcc⟩ : ∃ c, c = l[k] := ⟨_, rfl⟩
   rw [← hcc] at hcell0
   have hcell : w.cell? ⟨b, off + k, none⟩ = some (.int .u8 (c.toNat : Int)) := hcell0
   have hct := c.toNat_lt
   have hxb : x < 256 ^ k := by
    have := valL_bd (l.take k)
    rw [HX.out]
    rwa [List.length_take, Nat.min_eq_left (by omega)] at this
   have hp4 : 256 ^ k ≤ 256 ^ 3 := Nat.pow_le_pow_right (by decide) (by omega)
   obtain ⟨Z, hZ⟩ : ∃ Z, Z = c.toNat * 256 ^ k := ⟨_, rfl⟩
   have hZb : Z < 4294967296 := by
    rw [hZ]
    calc c.toNat * 256 ^ k ≤ 255 * 256 ^ 3 := Nat.mul_le_mul (by omega) hp4
     _ < 4294967296 := by decide
   have hZi : (c.toNat : Int) * 2 ^ (8 * k) = (Z : Int) := by
    rw [hZ, show ((2 : Int) ^ (8 * k)) = ((256 ^ k : Nat) : Int) by rw [Int.natCast_pow, Int.pow_mul]; rfl]
    simp
   obtain ⟨y, hy⟩ : ∃ y, y = x + Z := ⟨_, rfl⟩
   have hor : bits .or .u32 (x : Int) (Z : Int) = (y : Int) := by
    rw [or_u32 x Z (by omega) hZb]
    congr 1
    rw [hy, hZ, Nat.mul_comm, show (256 : Nat) ^ k = 2 ^ (8 * k) by rw [Nat.pow_mul], Nat.or_comm, ← Nat.two_pow_add_eq_or_of_lt (by rw [Nat.pow_mul]; exact hxb), Nat.add_comm]
   have HY : Hid (y = valL (l.take (k + 1))) := by
    unfold Hid
    rw [List.take_succ_eq_append_getElem (by omega), valL_snoc, ← HX.out, ← hcc, List.length_take, Nat.min_eq_left (by omega), hy, hZ]
   clear hcc hcell0 hZ hy hp4 hxb
   go_wp2
   go_roundg (4 - (k + 1))
   case measure => omega
   case rel => exact ⟨k + 1, y, by omega, rfl, by go_num, by go_num, HY.out, rfl⟩
  ·obtain rfl : k = 4 := by omega
   have HE : Hid (x = valL l) := by
    have := HX.out
    rwa [List.take_of_length_le (by omega)] at this
   go_wp2
   go_ret
   exact ⟨ret_int (by rw [HE.out]), rfl⟩
structure Ap (v : Value) (w : World) (u : Value) (w' : World) : Prop where
 grow : w.grownBy w' v.ownBlock
 lie : ∀ q, u.ownBlock = some q → v.ownBlock = some q ∨ w.heap.size ≤ q
theorem Ap.refl (v : Value) (w : World) : Ap v w v w := ⟨World.grownBy.refl _ _, fun _ h => .inl h⟩
theorem Ap.trans {v u t : Value} {a b c : World} (h : Ap v a u b) (k : Ap u b t c) : Ap v a t c :=
 ⟨⟨k.grow.os.trans h.grow.os, k.grow.tape.trans h.grow.tape, k.grow.output.trans h.grow.output, Nat.le_trans h.grow.size k.grow.size, fun q hq hv => (k.grow.block q (Nat.lt_of_lt_of_le hq h.grow.size) (fun e => by
   rcases h.lie q e.symm with h1 | h1
   ·exact hv h1.symm
   ·omega)).trans (h.grow.block q hq hv)⟩,
  fun q hq => by
   rcases k.lie q hq with h1 | h1
   ·exact h.lie q h1
   ·exact .inr (Nat.le_trans h.grow.size h1)⟩
theorem Ap.below {v u : Value} {a b c : World} (h : Ap v a u b) (k : Below b.heap.size b c) : Ap v a u c :=
 ⟨⟨k.os.trans h.grow.os, k.tape.trans h.grow.tape, k.output.trans h.grow.output, Nat.le_trans h.grow.size k.size, fun q hq hv => (k.block q (Nat.lt_of_lt_of_le hq h.grow.size)).trans (h.grow.block q hq hv)⟩, h.lie⟩
theorem Ap.of_below {v : Value} {a b : World} (k : Below a.heap.size a b) : Ap v a v b := (Ap.refl v a).below k
theorem Ap.block {v u : Value} {a b : World} (h : Ap v a u b) {q : Nat} (hq : q < a.heap.size) (hv : ¬ v.ownBlock = some q) : b.heap[q]? = a.heap[q]? := h.grow.block q hq (fun e => hv e.symm)
theorem Ap.app {v : Value} {a W b : World} {g n cap : Nat} (k : Below a.heap.size a W) (hg : W.grownBy b v.ownBlock) (hl : v.ownBlock = some g ∨ g = W.heap.size) : Ap v a (.slice (some ⟨g, 0, none⟩) n cap) b :=
 (Ap.of_below k).trans ⟨hg, fun q hq => by
  have e : g = q := Option.some.inj hq
  rcases hl with h | h
  ·exact .inl (by rw [h, e])
  ·exact .inr (by omega)⟩
def rowB (base : Nat) (v : Value) (xs : List UInt8) (w : World) : Prop := w.ownsRow base 5 1 v xs.length (xs.map byteV)
theorem rowB.below {base : Nat} {v : Value} {xs : List UInt8} {w w' : World} (h : rowB base v xs w) (k : Below w.heap.size w w') : rowB base v xs w' := ownsRow_below h k
theorem rowB_snoc {base : Nat} {v : Value} {xs : List UInt8} {c : UInt8} {n : Nat} {w : World} (h : w.ownsRow base 5 1 v n (xs.map byteV ++ [byteV c])) (hn : n = xs.length + 1) : rowB base v (xs ++ [c]) w := by
 unfold rowB
 rw [List.length_append, List.map_append]
 rw [hn] at h
 exact h
set_option maxRecDepth 100000 in
set_option maxHeartbeats 4000000 in
theorem recAppendSum_any (base : Nat) (v : Value) (xs : List UInt8) (s : Nat) (w : World) (hb : base ≤ w.heap.size) (hs : s < 4294967296) (hrow : rowB base v xs w) (hlen : xs.length ≤ 1000000) :
  Calls Tryz.prog 18 #[v, .int .u32 (s : Int)] w fun e w' => ∃ u, e = .returned u ∧ rowB base u (xs ++ sum4 s) w' ∧ Ap v w u w' := by
 obtain ⟨i0, hi, hz0, hz1, hz2⟩ := info_parts Tryz.infoB
 have HR := Lib.hid hrow
 clear hrow
 go_enter Tryz.func18, Tryz.ntmps18
 go_wp2_with fail
 go_loopg [0, 1, 5] 4 (fun g x0 x1 x5 wr => ∃ (k y : Nat), k ≤ 4 ∧ g = 4 - k ∧ x5 = .int .i64 (k : Int) ∧ x1 = .int .u32 (y : Int) ∧ y < 4294967296 ∧ Hid (y = s / 256 ^ k) ∧ Hid (rowB base x0 (xs ++ (sum4 s).take k) wr) ∧ Hid (Ap v w x0 wr))
 case atStart => exact ⟨0, s, by omega, by omega, rfl, rfl, hs, (by simp [Hid]), (by simpa [Hid] using HR.out), Ap.refl _ _⟩
 case round =>
  obtain ⟨k, y, hk, rfl, rfl, rfl, hy, HY, HRr, HA⟩ := hrel
  by_cases hlt : k < 4
  ·obtain ⟨c, hc⟩ : ∃ c : UInt8, c = UInt8.ofNat y := ⟨_, rfl⟩
   have hcv : (y : Int) % 256 = (c.toNat : Int) := by rw [hc, UInt8.toNat_ofNat']; omega
   have hct := c.toNat_lt
   have HC : Hid ((sum4 s).take (k + 1) = (sum4 s).take k ++ [c]) := by
    unfold Hid
    rw [hc, HY.out]
    have hk4 : k = 0 ∨ k = 1 ∨ k = 2 ∨ k = 3 := by omega
    rcases hk4 with rfl | rfl | rfl | rfl <;> simp [sum4]
   have HYn : Hid (y / 256 = s / 256 ^ (k + 1)) := by unfold Hid; rw [HY.out, Nat.div_div_eq_div_mul, Nat.pow_succ]
   have hz := HA.out.grow.size
   have HXl : Hid ((xs ++ (sum4 s).take k).length = xs.length + k) := by unfold Hid; rw [List.length_append, List.length_take, sum4_len, Nat.min_eq_left (by omega)]
   obtain ⟨ys, hys⟩ : ∃ ys, ys = xs ++ (sum4 s).take k := ⟨_, rfl⟩
   rw [← hys] at HRr HXl
   have hyl : ys.length ≤ 1000004 := by have := HXl.out; omega
   have HE : Hid (xs ++ (sum4 s).take (k + 1) = ys ++ [c]) := by unfold Hid; rw [HC.out, hys, List.append_assoc]
   have hrr := HRr.out
   unfold rowB at hrr
   have HRw := Lib.hid hrr
   clear hc hys hrr
   go_wp2_with (at_builtin; refine wpList_append_lies _ rfl _ _ 22 rfl base 5 i0 (.int .u8 0) 1 1 Tryz.underlying22 hi hz0 hz1 hz2 rfl (by decide) _ ys.length (ys.map byteV) rfl (HRw.out.alloc _) ⟨wr.heap.size, 0, none⟩ 1 1 [byteV c] rfl rfl (cell_one_new wr _ _) (news_one [c]) (by decide) (by unfold maxLen; omega) (by omega) (by simp; omega) _ rfl ?_; intro g13 cap13 w13 hown13 hgrow13 hor13 hlt13)
   have HR3 := Lib.hid (rowB_snoc hown13 rfl)
   have HA3 := Lib.hid (HA.out.trans (Ap.app (n := ys.length + 1) (cap := cap13) ((Below.refl _ _).alloc (Nat.le_refl _) _) hgrow13 hor13))
   clear hown13 hgrow13 hor13
   go_wp2_with fail
   go_roundg (4 - (k + 1))
   case measure => omega
   case rel => exact ⟨k + 1, y / 256, by omega, rfl, by go_num, by go_num, by omega, HYn.out, by rw [HE.out]; exact HR3.out, HA3.out⟩
  ·obtain rfl : k = 4 := by omega
   have HE : Hid ((sum4 s).take 4 = sum4 s) := rfl
   go_wp2_with fail
   go_ret
   exact ⟨_, rfl, by have := HRr.out; rwa [HE.out] at this, HA.out⟩
theorem flat_num : ∀ ns : List Nat, (ns.flatMap numB).length ≤ 10 * ns.length
 | [] => Nat.le_refl _
 | n :: r => by
  have h1 := numB_len n
  have h2 := flat_num r
  simp only [List.flatMap_cons, List.length_append, List.length_cons]
  omega
def numsAt (w : World) (g : Nat) (ns : List Nat) : Prop := g < w.heap.size ∧ ∀ j, (h : j < ns.length) → w.cell? ⟨g, j, none⟩ = some (.int .i64 (ns[j] : Int))
theorem numsAt.block {w w' : World} {g : Nat} {ns : List Nat} (h : numsAt w g ns) (hz : w.heap.size ≤ w'.heap.size) (hb : w'.heap[g]? = w.heap[g]?) : numsAt w' g ns :=
 ⟨Nat.lt_of_lt_of_le h.1 hz, fun j hj => (World.cell?_of_block (a := ⟨g, j, none⟩) hb).trans (h.2 j hj)⟩
set_option maxRecDepth 100000 in
set_option maxHeartbeats 4000000 in
theorem recAppendNumbers_any (base : Nat) (v : Value) (xs : List UInt8) (g c : Nat) (ns : List Nat) (w : World) (hb : base ≤ w.heap.size) (hrow : rowB base v xs w) (hnum : numsAt w g ns) (hgv : ¬ v.ownBlock = some g) (hn : ∀ n ∈ ns, n < 1152921504606846976) (hlen : xs.length + 10 * ns.length ≤ 1000000) :
  Calls Tryz.prog 17 #[v, .slice (some ⟨g, 0, none⟩) ns.length c] w fun e w' => ∃ u, e = .returned u ∧ rowB base u (xs ++ ns.flatMap numB) w' ∧ Ap v w u w' := by
 obtain ⟨i0, hi, hz0, hz1, hz2⟩ := info_parts Tryz.infoB
 have HR := Lib.hid hrow
 have HNm := Lib.hid hnum
 have HNb := Lib.hid hn
 clear hrow hnum hn
 go_enter Tryz.func17, Tryz.ntmps17
 go_wp2_with fail
 go_loopg [0, 6, 9] ns.length (fun gg x0 x6 x9 wr => ∃ (k : Nat), k ≤ ns.length ∧ gg = ns.length - k ∧ x9 = .int .i64 (k : Int) ∧ Hid (rowB base x0 (xs ++ (ns.take k).flatMap numB) wr) ∧ Hid (Ap v w x0 wr))
 case atStart => exact ⟨0, by omega, by omega, rfl, (by simpa [Hid] using HR.out), Ap.refl _ _⟩
 case round =>
  obtain ⟨k, hk, rfl, rfl, HRr, HA⟩ := hrel
  by_cases hlt : k < ns.length
  ·have hnk := HNb.out ns[k] (List.getElem_mem hlt)
   obtain ⟨n, hnn⟩ : ∃ n, n = ns[k] := ⟨_, rfl⟩
   have hcell0 := (HNm.out.block HA.out.grow.size (HA.out.block HNm.out.1 hgv)).2 k hlt
   have HT : Hid ((ns.take (k + 1)).flatMap numB = (ns.take k).flatMap numB ++ numB n) := by
    unfold Hid
    rw [List.take_succ_eq_append_getElem hlt, List.flatMap_append, hnn]
    simp
   rw [← hnn] at hcell0 hnk
   clear hnn
   have hcell : wr.cell? ⟨g, k, none⟩ = some (.int .i64 (n : Int)) := hcell0
   have hz := HA.out.grow.size
   have hzz0 := hz2
   obtain ⟨ys, hys⟩ : ∃ ys, ys = xs ++ (ns.take k).flatMap numB := ⟨_, rfl⟩
   have hyl : ys.length ≤ xs.length + 10 * k := by
    rw [hys, List.length_append]
    have := flat_num (ns.take k)
    rw [List.length_take, Nat.min_eq_left (by omega)] at this
    omega
   rw [← hys] at HRr
   have HE : Hid (xs ++ (ns.take (k + 1)).flatMap numB = ys ++ numB n) := by unfold Hid; rw [HT.out, hys, List.append_assoc]
   clear hcell0 hys HT
   go_wp2_with fail
   go_loopg [0, 6] n (fun gg x0 x6 wr => ∃ (m : Nat) (zs : List UInt8), gg = m ∧ m < 1152921504606846976 ∧ x6 = .int .i64 (m : Int) ∧ Hid (numB n = zs ++ numB m) ∧ Hid (rowB base x0 (ys ++ zs) wr) ∧ Hid (Ap v w x0 wr))
   case atStart => exact ⟨n, [], rfl, hnk, rfl, rfl, (by simpa [Hid] using HRr.out), HA.out⟩
   case round =>
    obtain ⟨m, zs, hgk, hm, rfl, HZ, HRs, HA2⟩ := hrel
    have hgk' : gk = m := hgk
    subst hgk'
    have hzl : zs.length + 1 ≤ 10 := by
     have h1 := congrArg List.length HZ.out
     rw [List.length_append] at h1
     have h2 := numB_len n
     have h3 := numB_pos gk
     omega
    by_cases h128 : 128 ≤ gk
    ·obtain ⟨d, hd⟩ : ∃ d : UInt8, d = UInt8.ofNat (128 + gk % 128) := ⟨_, rfl⟩
     have hdv : (128 : Int) + (gk : Int) % 128 = (d.toNat : Int) := by rw [hd, UInt8.toNat_ofNat']; omega
     have hdt := d.toNat_lt
     have hge : (128 : Int) ≤ (gk : Int) := by omega
     have HZ2 : Hid (numB n = (zs ++ [d]) ++ numB (gk / 128)) := by unfold Hid; rw [HZ.out, numB_high h128 (by omega), ← hd, List.append_assoc]; rfl
     clear hd
     have hrr := HRs.out
     unfold rowB at hrr
     have HRw := Lib.hid hrr
     have hz2 := HA2.out.grow.size
     have hle : (ys ++ zs).length + 1 ≤ 1000010 := by rw [List.length_append]; omega
     obtain ⟨ws, hws⟩ : ∃ ws, ws = ys ++ zs := ⟨_, rfl⟩
     rw [← hws] at HRw hle
     have HWs := Lib.hid hws
     clear hrr hws
     go_wp2_with (at_builtin; refine wpList_append_lies _ rfl _ _ 22 rfl base 5 i0 (.int .u8 0) 1 1 Tryz.underlying22 hi hz0 hz1 hzz0 rfl (by decide) _ ws.length (ws.map byteV) rfl (HRw.out.alloc _) ⟨wr.heap.size, 0, none⟩ 1 1 [byteV d] rfl rfl (cell_one_new wr _ _) (news_one [d]) (by decide) (by unfold maxLen; omega) (by omega) (by simp; omega) _ rfl ?_; intro g13 cap13 w13 hown13 hgrow13 hor13 hlt13)
     have HR3 := Lib.hid (rowB_snoc hown13 rfl)
     have HA3 := Lib.hid (HA2.out.trans (Ap.app (n := ws.length + 1) (cap := cap13) ((Below.refl _ _).alloc (Nat.le_refl _) _) hgrow13 hor13))
     clear hown13 hgrow13 hor13
     go_wp2_with fail
     go_roundg (gk / 128)
     case measure => omega
     case rel => exact ⟨gk / 128, zs ++ [d], rfl, by omega, by go_num, HZ2.out, by rw [← List.append_assoc, ← HWs.out]; exact HR3.out, HA3.out⟩
    ·obtain ⟨d, hd⟩ : ∃ d : UInt8, d = UInt8.ofNat gk := ⟨_, rfl⟩
     obtain rfl : gk = d.toNat := by rw [hd, UInt8.toNat_ofNat']; omega
     have hdt := d.toNat_lt
     have hge : ¬ (128 : Int) ≤ (d.toNat : Int) := by omega
     have HZ2 : Hid (numB n = zs ++ [d]) := by unfold Hid; rw [HZ.out, numB_low (by omega)]; simp
     clear hd
     have hrr := HRs.out
     unfold rowB at hrr
     have HRw := Lib.hid hrr
     have hz2 := HA2.out.grow.size
     have hle : (ys ++ zs).length + 1 ≤ 1000010 := by rw [List.length_append]; omega
     obtain ⟨ws, hws⟩ : ∃ ws, ws = ys ++ zs := ⟨_, rfl⟩
     rw [← hws] at HRw hle
     have HWs := Lib.hid hws
     clear hrr hws
     go_wp2_with (at_builtin; refine wpList_append_lies _ rfl _ _ 22 rfl base 5 i0 (.int .u8 0) 1 1 Tryz.underlying22 hi hz0 hz1 hzz0 rfl (by decide) _ ws.length (ws.map byteV) rfl (HRw.out.alloc _) ⟨wr.heap.size, 0, none⟩ 1 1 [byteV d] rfl rfl (cell_one_new wr _ _) (news_one [d]) (by decide) (by unfold maxLen; omega) (by omega) (by simp; omega) _ rfl ?_; intro g13 cap13 w13 hown13 hgrow13 hor13 hlt13)
     have HR3 := Lib.hid (rowB_snoc hown13 rfl)
     have HA3 := Lib.hid (HA2.out.trans (Ap.app (n := ws.length + 1) (cap := cap13) ((Below.refl _ _).alloc (Nat.le_refl _) _) hgrow13 hor13))
     clear hown13 hgrow13 hor13
     go_wp2_with fail
     go_roundg (ns.length - (k + 1))
     case measure => omega
     case rel => exact ⟨k + 1, by omega, rfl, by go_num, by rw [HE.out, HZ2.out, ← List.append_assoc, ← HWs.out]; exact HR3.out, HA3.out⟩
  ·obtain rfl : k = ns.length := by omega
   have HE : Hid ((ns.take ns.length).flatMap numB = ns.flatMap numB) := by unfold Hid; rw [List.take_length]
   go_wp2_with fail
   go_ret
   exact ⟨_, rfl, by have := HRr.out; rwa [HE.out] at this, HA.out⟩
end Go.Proofs.YtedminjnnhlknaaGreatDoor
