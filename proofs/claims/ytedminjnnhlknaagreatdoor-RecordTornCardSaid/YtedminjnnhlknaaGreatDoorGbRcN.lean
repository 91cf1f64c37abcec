/- Contracts of the document's answers for sums: More, Of. -/
import Derived.Test.YtedminjnnhlknaaGreatDoorGbCrcC
import Derived.Deep.DeepCutAuto
import Derived.Deep.CutBlock
import Derived.Lib.SlBytesConst
import Derived.Deep.RegionHeld
import Derived.Test.YtedminjnnhlknaaGreatDoorKit2
import Derived.Laws.OwnMore
import Derived.OwnWalk
import Derived.Test.YtedminjnnhlknaaGreatDoorGbRcM
namespace Go.Proofs.YtedminjnnhlknaaGreatDoor
open Go Go.RowKit
set_option maxRecDepth 100000 in
theorem refMore_any (s : Nat) (S : ByteArray) (w : World) (hs : s < 4294967296) (hS : S.size ≤ 1000000) :
  Calls Tryz.prog 48 #[.int .u32 (s : Int), .string S] w fun e w' => e = .returned (.int .u32 (moreS s S.data.toList : Nat)) ∧ w = w' := by
 go_enter Tryz.func48, Tryz.ntmps48
 go_wp2
 go_loopg [5, 6, 7, 8, 9] S.size (fun g x5 x6 x7 x8 x9 wr => ∃ (k x : Nat), k ≤ S.size ∧ g = S.size - k ∧ x6 = .int .i64 k ∧ x5 = .int .u32 x ∧ x < 4294967296 ∧ Hid (x = sumS (allN - s) (S.data.toList.take k)) ∧ w = wr)
 case atStart => exact ⟨0, allN - s, by omega, by omega, rfl, by unfold allN; go_num, by unfold allN; omega, rfl, rfl⟩
 case round =>
  obtain ⟨k, x, hk, rfl, rfl, rfl, hx, HX, rfl⟩ := hrel
  by_cases hlt : k < S.size
  ·obtain ⟨c, hcc⟩ : ∃ c, c = S[k] := ⟨_, rfl⟩
   have hct := c.toNat_lt
   obtain ⟨X, hX⟩ : ∃ X, X = stepK 8 (x ^^^ c.toNat) := ⟨_, rfl⟩
   have HXX := Lib.hid hX
   have HC := Lib.hid hcc
   go_upto_block 1 with fail
   go_cut [5, 7, 8, 9] (fun x5 x7 x8 x9 wx => x5 = .int .u32 X ∧ w = wx)
   case first =>
    go_wp2_with fail
    go_loopg [5, 7, 8, 9] 8 (fun g x5 x7 x8 x9 wx => ∃ (j y d : Nat), j ≤ 8 ∧ g = 8 - j ∧ x8 = .int .i64 j ∧ x5 = .int .u32 y ∧ x7 = .int .u8 d ∧ y < 4294967296 ∧ d < 256 ∧ Hid (byteIt (8 - j) y d = X) ∧ w = wx)
    case atStart => exact ⟨0, x, c.toNat, by omega, by omega, rfl, rfl, by rw [HC.out], hx, hct, (byteIt_eq 8 x c.toNat hct).trans HXX.out.symm, rfl⟩
    case round =>
     obtain ⟨j, y, d, hj, rfl, rfl, rfl, rfl, hy, hd, HY, rfl⟩ := hrel
     by_cases hj8 : j < 8
     ·obtain ⟨z, hz⟩ : ∃ z, z = y ^^^ (d % 2) := ⟨_, rfl⟩
      have hzl : z < 4294967296 := by rw [hz]; exact xor_lt32 hy (by omega)
      have e1 : bits .xor .u32 (y : Int) ((d : Int) % 2) = (z : Int) := by rw [hz]; exact u32_xor_nat y (d % 2) hy (by omega)
      have HN : Hid (byteIt (8 - (j + 1)) (stepF z) (d / 2) = X) := by
       unfold Hid
       rw [hz, ← HY.out, show 8 - j = (8 - (j + 1)) + 1 by omega]
       rfl
      clear hz
      by_cases h : z % 2 = 1
      ·have t : ((z : Int) % 2 == 1) = true := beq_yes (by omega)
       obtain ⟨u, hu⟩ : ∃ u, u = stepF z := ⟨_, rfl⟩
       have hul : u < 4294967296 := by rw [hu]; exact stepF_lt hzl
       have e2 : bits .xor .u32 ((z : Int) / 2) 3988292384 = (u : Int) := by
        rw [hu]
        unfold stepF
        rw [if_pos h]
        exact u32_xor_nat (z / 2) polyN (by omega) (by decide)
       rw [← hu] at HN
       clear h hu
       go_wp2
       go_roundg (8 - (j + 1))
       case measure => omega
       case rel => exact ⟨j + 1, u, d / 2, by omega, rfl, by go_num, by go_num, by go_num, hul, by omega, HN.out, rfl⟩
      ·have t : ((z : Int) % 2 == 1) = false := beq_no (by omega)
       have e2 : stepF z = z / 2 := by unfold stepF; rw [if_neg h]
       rw [e2] at HN
       clear h e2
       go_wp2
       go_roundg (8 - (j + 1))
       case measure => omega
       case rel => exact ⟨j + 1, z / 2, d / 2, by omega, rfl, by go_num, by go_num, by go_num, by omega, by omega, HN.out, rfl⟩
     ·obtain rfl : j = 8 := by omega
      have hX' : y = X := HY.out
      clear hj8 hj
      go_wp2
      go_meet
      exact ⟨by rw [hX'], rfl⟩
   case rest =>
    obtain ⟨rfl, rfl⟩ := hcut
    have hXl : X < 4294967296 := by rw [HXX.out]; exact stepK_lt 8 (xor_lt32 hx (by omega))
    have HY : Hid (X = sumS (allN - s) (S.data.toList.take (k + 1))) := by
     unfold Hid
     rw [take_snoc S k hlt, sumS_snoc, ← HX.out, ← HC.out, HXX.out]
    go_wp2
    go_roundg (S.size - (k + 1))
    case measure => omega
    case rel => exact ⟨k + 1, X, by omega, rfl, by go_num, rfl, hXl, HY.out, rfl⟩
  ·have HE : Hid (4294967295 - (x : Int) = (moreS s S.data.toList : Nat)) := by
    have := HX.out
    rw [take_all S k hlt] at this
    unfold Hid moreS
    rw [← this]
    unfold allN
    omega
   go_wp2
   go_ret
   exact ⟨ret_int HE.out, rfl⟩
theorem refOf_any (S : ByteArray) (w : World) (hS : S.size ≤ 1000000) :
  Calls Tryz.prog 26 #[.string S] w fun e w' => e = .returned (.int .u32 (moreS 0 S.data.toList : Nat)) ∧ w = w' := by
 have HF := Lib.hid (refMore_any 0 S w (by omega) hS)
 go_enter Tryz.func26, Tryz.ntmps26
 go_wp2_with fail
 refine (HF.out).mono ?_
 rintro e w1 ⟨rfl, rfl⟩
 go_wp2
 go_ret
 exact ⟨rfl, rfl⟩
end Go.Proofs.YtedminjnnhlknaaGreatDoor

/- A small law of my own, of no function: bytes that came in, nil or not, appended to a row of the call's own. -/
namespace Go.Proofs.YtedminjnnhlknaaGreatDoor
open Go Go.RowKit
theorem run_append_none_any {P : Program} {w : World} (base : Nat) (t ty e : TypeId) (i : TypeInfo) (size c : Nat) (ht : P.underlying t = some (.slice e)) (hi : P.info? e = some i)
  (v : Value) (n : Nat) (xs : List Value) (hown : w.ownsRow base e size v n xs) :
  (Builtin.append_ #[t, t] ty #[v, .slice none 0 c]).run P w = .ok v w := by
 rcases hown.2 with ⟨rfl, rfl⟩ | ⟨g, cap, cur, rfl, _, _, hnc, _⟩
 ·simp [Builtin.append_, run_underlying ht, sizeOf, typeInfo, hi, Builtin.lenOf, Builtin.firstCells]
 ·simp [Builtin.append_, run_underlying ht, sizeOf, typeInfo, hi, Builtin.lenOf, Builtin.firstCells, hnc, storeCells]
theorem wpList_append_bytes {P : Program} {w : World} {ops : Array Oper} {rest : List Oper} {o : Oper} {a : Act} {Q : Exit → Act → World → Prop} (hgd : o.guard = none) (s x : Operand) (t : TypeId)
  (ho : o.op = .call { callee := .builtin .append, args := #[s, x], argTypes := #[t, t] })
  (base : Nat) (e : TypeId) (i : TypeInfo) (ht : P.underlying t = some (.slice e)) (hi : P.info? e = some i) (hz : i.zero = some (.int .u8 0)) (hsize : i.size = 1) (hby : i.bytes = 1)
  (v : Value) (n : Nat) (xs : List Value) (hs : a.eval s = v) (hown : w.ownsRow base e 1 v n xs)
  (ao : Option Addr) (c : Nat) (l : List UInt8) (hx : a.eval x = .slice ao l.length c) (hsl : sliceAt w ao l) (h63 : n + l.length ≤ 1048576) (hbase : base ≤ w.heap.size)
  (h : ∀ v' w', w'.ownsRow base e 1 v' (n + l.length) (xs ++ l.map byteV) → w.grownBy w' v.ownBlock → wpList P ops Q rest (a.put o.dst v') w') : wpList P ops Q (o :: rest) a w := by
 rcases ao with _ | ad
 ·obtain rfl : l = [] := by
   rcases hsl with h | ⟨b, off, h, _⟩
   ·exact h
   ·cases h
  refine wpList_plain hgd fun K hK => ?_
  have hrun := run_append_none_any (P := P) (w := w) base t o.type e i 1 c ht hi v n xs hown
  have hx' : a.eval x = .slice none 0 c := hx
  unfold Oper.wp
  simp [execOp, ho, resolve, invoke, builtin, hs, hx', hrun, Result.andThen]
  refine hK _ _ (h v w ?_ (World.grownBy.refl _ _))
  simpa using hown
 ·refine wpList_append_own _ hgd s x t ho base e i (.int .u8 0) 1 1 ht hi hz hsize hby rfl (by decide) v n xs hs hown ad l.length c (l.map byteV) hx (by simp) ?_ (news_one l) (by unfold maxLen; omega) (by omega) hbase (fun v' w' h1 h2 _ => h v' w' h1 h2)
  rcases hsl with rfl | ⟨b, off, e', hlt, hc⟩
  ·intro j u hu
   simp at hu
  ·cases e'
   exact sliceAt.news (.inr ⟨b, off, rfl, hlt, hc⟩)
theorem bytesArg_nil (w : World) : bytesArg w (.slice none 0 0) [] := ⟨none, 0, rfl, Nat.le_refl _, Nat.zero_le _, .inl rfl⟩
def xorB (b : UInt8) (n : Nat) : UInt8 := byteN (b.toNat ^^^ n)
theorem xorB_lt (b : UInt8) {n : Nat} (hn : n < 256) : b.toNat ^^^ n < 256 := Nat.xor_lt_two_pow (n := 8) b.toNat_lt hn
theorem xorB_toNat (b : UInt8) {n : Nat} (hn : n < 256) : (xorB b n).toNat = b.toNat ^^^ n := by
 unfold xorB
 exact byteN_toNat _ (xorB_lt b hn)
theorem xorB_bits (b : UInt8) {n : Nat} (hn : n < 256) : bits .xor .u8 (b.toNat : Int) (n : Int) = ((xorB b n).toNat : Int) := by
 rw [xorB_toNat b hn]
 exact u8_xor_nat _ _ b.toNat_lt hn
def turnL (l : List UInt8) (k v : Nat) : Nat → List UInt8
 | 0 => l
 | n + 1 => if v.testBit n then (turnL l k v n).set ((k + n) / 8) (xorB ((turnL l k v n).getD ((k + n) / 8) 0) (2 ^ ((k + n) % 8))) else turnL l k v n
theorem turnL_len (l : List UInt8) (k v : Nat) : ∀ n, (turnL l k v n).length = l.length
 | 0 => rfl
 | n + 1 => by
  simp only [turnL]
  split
  ·rw [List.length_set, turnL_len l k v n]
  ·exact turnL_len l k v n
theorem pow8_lt (q : Nat) : 2 ^ (q % 8) < 256 := by
 have h : q % 8 < 8 := Nat.mod_lt _ (by decide)
 exact Nat.pow_lt_pow_right (by decide) h
theorem bitAt_set (L : List UInt8) (p j : Nat) (hp : p / 8 < L.length) :
  bitAt (L.set (p / 8) (xorB (L.getD (p / 8) 0) (2 ^ (p % 8)))) j = (bitAt L j ^^ decide (j = p)) := by
 unfold bitAt
 by_cases h : p / 8 = j / 8
 ·rw [List.getD_eq_getElem?_getD, List.getElem?_set, if_pos h, if_pos hp, Option.getD_some, xorB_toNat _ (pow8_lt p), Nat.testBit_xor, Nat.testBit_two_pow, h]
  congr 1
  by_cases h2 : j = p
  ·subst h2; simp
  ·rw [decide_eq_false (by omega), decide_eq_false h2]
 ·rw [List.getD_eq_getElem?_getD, List.getElem?_set, if_neg h, ← List.getD_eq_getElem?_getD, decide_eq_false (by rintro rfl; exact h rfl), Bool.xor_false]
theorem bitAt_turn (l : List UInt8) (k v : Nat) (j : Nat) : ∀ n, k + n ≤ 8 * l.length →
  bitAt (turnL l k v n) j = (bitAt l j ^^ (decide (k ≤ j) && decide (j < k + n) && v.testBit (j - k)))
 | 0, _ => by
  have : (decide (k ≤ j) && decide (j < k + 0)) = false := by
   by_cases h : k ≤ j
   ·rw [decide_eq_false (show ¬ j < k + 0 by omega), Bool.and_false]
   ·rw [decide_eq_false h, Bool.false_and]
  rw [this]
  simp [turnL]
 | n + 1, h => by
  have ih := bitAt_turn l k v j n (by omega)
  simp only [turnL]
  by_cases hb : v.testBit n = true
  ·rw [if_pos hb, bitAt_set _ _ _ (by rw [turnL_len]; omega), ih, Bool.xor_assoc]
   congr 1
   by_cases h1 : j = k + n
   ·subst h1
    simp [hb, show n < n + 1 by omega]
   ·rw [decide_eq_false h1, Bool.xor_false]
    by_cases h2 : j < k + n
    ·rw [decide_eq_true h2, decide_eq_true (show j < k + (n + 1) by omega)]
    ·rw [decide_eq_false h2, decide_eq_false (show ¬ j < k + (n + 1) by omega)]
  ·rw [if_neg hb, ih]
   congr 1
   by_cases h1 : j = k + n
   ·subst h1
    have : v.testBit n = false := by simpa using hb
    simp [this]
   ·by_cases h2 : j < k + n
    ·rw [decide_eq_true h2, decide_eq_true (show j < k + (n + 1) by omega)]
    ·rw [decide_eq_false h2, decide_eq_false (show ¬ j < k + (n + 1) by omega)]
theorem testBit_mod (v n : Nat) : v.testBit n = decide (v / 2 ^ n % 2 = 1) := Nat.testBit_eq_decide_div_mod_eq
def sum4 (n : Nat) : List UInt8 := [UInt8.ofNat n, UInt8.ofNat (n / 256), UInt8.ofNat (n / 65536), UInt8.ofNat (n / 16777216)]
def valL : List UInt8 → Nat
 | [] => 0
 | b :: r => b.toNat + 256 * valL r
def crcN (l : List UInt8) : Nat := moreS 0 l
theorem crcN_lt (l : List UInt8) : crcN l < 4294967296 := moreS_lt 0 l
def sealL (s : List UInt8) : List UInt8 := s ++ sum4 (crcN s)
def frontL (n c : Nat) : List UInt8 := 76 :: 66 :: 1 :: (numB n ++ sum4 c)
def coreL (l : List UInt8) (t : Tr) : List UInt8 := frontL l.length (crcN l) ++ putT t
def putR (l : List UInt8) (t : Tr) : List UInt8 := sealL (coreL l t)
theorem sum4_len (n : Nat) : (sum4 n).length = 4 := rfl
theorem valL_sum4 {n : Nat} (h : n < 4294967296) : valL (sum4 n) = n := by
 simp only [valL, sum4, UInt8.toNat_ofNat']
 omega
theorem sum4_valL {q : List UInt8} (h : q.length = 4) : sum4 (valL q) = q := by
 match q, h with
 | [a, b, c, d], _ =>
  have ha := a.toNat_lt
  have hb := b.toNat_lt
  have hc := c.toNat_lt
  have hd := d.toNat_lt
  have key : ∀ (x : UInt8) (n : Nat), n % 256 = x.toNat → UInt8.ofNat n = x := fun x n e => toNat_eq (by rw [UInt8.toNat_ofNat']; exact e)
  simp only [valL, sum4]
  rw [key a _ (by omega), key b _ (by omega), key c _ (by omega), key d _ (by omega)]
def headP (rec : List UInt8) : Rs Unit :=
 if rec.length < 4 then .no 10
 else if valL (rec.drop (rec.length - 4)) ≠ crcN (rec.take (rec.length - 4)) then .no 15
 else if (rec.take (rec.length - 4)).take 3 = [76, 66, 1] then .ok () ((rec.take (rec.length - 4)).drop 3) else .no 11
def msgP (n c : Nat) (s : List UInt8) : Rs Unit :=
 (numP s).bind fun m s => if m ≠ n then .no 34 else (takeP 4 s).bind fun q s => if valL q ≠ c then .no 34 else .ok () s
def bodyP (T : List UInt8 → Rs Tr) (n c : Nat) (s : List UInt8) : Rs Tr := (msgP n c s).bind fun _ s => T s
def endP : Rs Tr → Rs Tr
 | .no e => .no e
 | .ok t [] => .ok t []
 | .ok _ (_ :: _) => .no 12
def readP (T : List UInt8 → Rs Tr) (l rec : List UInt8) : Rs Tr := (headP rec).bind fun _ s => endP (bodyP T l.length (crcN l) s)
theorem msgP_local (n c : Nat) : Local (msgP n c) :=
 numP_local.bind fun _ => Local.ite _ (Local.no _) ((takeP_local 4).bind fun _ => Local.ite _ (Local.no _) (Local.ok ()))
theorem bodyP_local {T : List UInt8 → Rs Tr} (hT : Local T) (n c : Nat) : Local (bodyP T n c) := (msgP_local n c).bind fun _ => hT
theorem seal_len (s : List UInt8) : (sealL s).length = s.length + 4 := by unfold sealL; rw [List.length_append]; rfl
theorem seal_take (s : List UInt8) : (sealL s).take ((sealL s).length - 4) = s := by rw [seal_len]; unfold sealL; rw [List.take_append_of_le_length (by omega), List.take_of_length_le (by omega)]
theorem seal_drop (s : List UInt8) : (sealL s).drop ((sealL s).length - 4) = sum4 (crcN s) := by rw [seal_len]; unfold sealL; rw [List.drop_append_of_le_length (by omega), List.drop_of_length_le (by omega)]; rfl
theorem headP_seal (s : List UInt8) : headP (sealL s) = if s.take 3 = [76, 66, 1] then .ok () (s.drop 3) else .no 11 := by
 unfold headP
 rw [seal_take, seal_drop, if_neg (by rw [seal_len]; omega), valL_sum4 (crcN_lt s), if_neg (by simp)]
theorem takeP_sum (c : Nat) (X : List UInt8) : takeP 4 (sum4 c ++ X) = .ok (sum4 c) X := by
 unfold takeP
 rw [if_neg (by rw [List.length_append, sum4_len]; omega)]
 rfl
theorem msgP_put {n c : Nat} (hn : n < 1099511627776) (hc : c < 4294967296) (X : List UInt8) : msgP n c (numB n ++ (sum4 c ++ X)) = .ok () X := by
 unfold msgP
 rw [numP_put hn]
 show (if n ≠ n then _ else _) = _
 rw [if_neg (by simp), takeP_sum]
 show (if valL (sum4 c) ≠ c then _ else _) = _
 rw [valL_sum4 hc, if_neg (by simp)]
theorem msgP_other {n c n' c' : Nat} (hn : n < 1099511627776) (hc : c < 4294967296) (X : List UInt8) (h : ¬ (n = n' ∧ c = c')) : msgP n' c' (numB n ++ (sum4 c ++ X)) = .no 34 := by
 unfold msgP
 rw [numP_put hn]
 show (if n ≠ n' then _ else _) = _
 by_cases h1 : n = n'
 ·rw [if_neg (by simp [h1]), takeP_sum]
  show (if valL (sum4 c) ≠ c' then _ else _) = _
  rw [valL_sum4 hc, if_pos (fun h2 => h ⟨h1, h2⟩)]
 ·rw [if_pos h1]
theorem core_head (l : List UInt8) (t : Tr) : (coreL l t).take 3 = [76, 66, 1] ∧ (coreL l t).drop 3 = numB l.length ++ (sum4 (crcN l) ++ putT t) := by
 unfold coreL frontL
 refine ⟨rfl, ?_⟩
 show (numB l.length ++ sum4 (crcN l)) ++ putT t = _
 rw [List.append_assoc]
theorem readP_put {T : List UInt8 → Rs Tr} (l l' : List UInt8) (t : Tr) (hl : l.length < 1099511627776) (hT : T (putT t) = .ok t []) :
  readP T l' (putR l t) = if l.length = l'.length ∧ crcN l = crcN l' then .ok t [] else .no 34 := by
 unfold readP putR
 rw [headP_seal, (core_head l t).1, if_pos rfl, (core_head l t).2]
 show endP (bodyP T l'.length (crcN l') _) = _
 unfold bodyP
 by_cases h : l.length = l'.length ∧ crcN l = crcN l'
 ·rw [if_pos h, ← h.1, ← h.2, msgP_put hl (crcN_lt l)]
  show endP (T (putT t)) = _
  rw [hT]
  rfl
 ·rw [if_neg h, msgP_other hl (crcN_lt l) _ h]
  rfl
def cutE (p : List UInt8) : Nat := if p.length < 4 then 10 else if valL (p.drop (p.length - 4)) ≠ crcN (p.take (p.length - 4)) then 15 else if p.length < 7 then 11 else 10
theorem readP_cut {T : List UInt8 → Rs Tr} (hl : Local T) (l : List UInt8) (t : Tr) (hn : l.length < 1099511627776) (hT : T (putT t) = .ok t []) (k : Nat) (hk : k < (putR l t).length) :
  readP T l ((putR l t).take k) = .no (cutE ((putR l t).take k)) := by
 have hlen : (putR l t).length = (coreL l t).length + 4 := seal_len _
 obtain ⟨p, hp⟩ : ∃ p, p = (putR l t).take k := ⟨_, rfl⟩
 have hpl : p.length = k := by rw [hp, List.length_take]; omega
 rw [← hp]
 unfold readP headP cutE
 by_cases h4 : p.length < 4
 ·rw [if_pos h4, if_pos h4]; rfl
 ·rw [if_neg h4, if_neg h4]
  by_cases hs : valL (p.drop (p.length - 4)) ≠ crcN (p.take (p.length - 4))
  ·rw [if_pos hs, if_pos hs]; rfl
  ·rw [if_neg hs, if_neg hs]
   have hc : p.take (p.length - 4) = (coreL l t).take (k - 4) := by
    rw [hpl, hp, List.take_take]
    unfold putR sealL
    rw [List.take_append_of_le_length (by omega), Nat.min_eq_left (by omega)]
   rw [hc, List.take_take]
   by_cases h7 : p.length < 7
   ·rw [if_pos h7, if_neg]
    ·rfl
    ·intro hh
     have := congrArg List.length hh
     simp only [List.length_take, List.length_cons, List.length_nil] at this
     omega
   ·rw [if_neg h7, Nat.min_eq_left (by omega), (core_head l t).1, if_pos rfl]
    show endP (bodyP T l.length (crcN l) _) = _
    have hb : bodyP T l.length (crcN l) ((coreL l t).drop 3) = .ok t [] := by
     unfold bodyP
     rw [(core_head l t).2, msgP_put hn (crcN_lt l)]
     exact hT
    obtain ⟨c, e1, _, e3⟩ := bodyP_local hl l.length (crcN l) _ _ _ hb
    rw [List.append_nil] at e1
    have e4 : c = (((coreL l t).take (k - 4)).drop 3) ++ (coreL l t).drop (k - 4) := by
     rw [← e1]
     conv => lhs; rw [← List.take_append_drop (k - 4) (coreL l t)]
     rw [List.drop_append_of_le_length (by rw [List.length_take]; omega)]
    rw [e3 _ _ e4 (by intro hh; have := congrArg List.length hh; simp at this; omega)]
    rfl
theorem xor_all {x : Nat} (hx : x < 4294967296) : x ^^^ (allN - x) = allN := by
 have h := congrArg BitVec.toNat (BitVec.allOnes_xor (x := BitVec.ofNat 32 x))
 rw [BitVec.toNat_xor, BitVec.toNat_not, BitVec.toNat_allOnes, BitVec.toNat_ofNat, Nat.mod_eq_of_lt (by omega)] at h
 have h2 : allN ^^^ x = allN - x := h
 rw [← h2, Nat.xor_comm allN, xor_cl]
theorem sumS_sum4 (x n : Nat) (hn : n < 4294967296) : sumS x (sum4 n) = stepK 32 (x ^^^ n) := by
 rw [sumS_all, sum4_len]
 have h := bitsS_byte x (bitAt (sum4 n)) 0 n 32 (fun i hi => ?_)
 ·rw [Nat.zero_add] at h
  rw [show 8 * 4 = 32 by rfl, h, byteIt_eq 32 _ n hn]
  rfl
 ·rw [Nat.zero_add]
  unfold bitAt sum4
  have key : ∀ (m k : Nat), k < 8 → (UInt8.ofNat m).toNat.testBit k = m.testBit k := fun m k hk => by
   rw [UInt8.toNat_ofNat', Nat.testBit_mod_two_pow]
   simp [hk]
  have h8 : i / 8 = 0 ∨ i / 8 = 1 ∨ i / 8 = 2 ∨ i / 8 = 3 := by omega
  rcases h8 with h | h | h | h
  ·rw [h]
   show (UInt8.ofNat n).toNat.testBit (i % 8) = _
   rw [key n (i % 8) (by omega), show i % 8 = i by omega]
  ·rw [h]
   show (UInt8.ofNat (n / 256)).toNat.testBit (i % 8) = _
   rw [key _ (i % 8) (by omega), show (256 : Nat) = 2 ^ 8 from rfl, Nat.testBit_div_two_pow, show i % 8 + 8 = i by omega]
  ·rw [h]
   show (UInt8.ofNat (n / 65536)).toNat.testBit (i % 8) = _
   rw [key _ (i % 8) (by omega), show (65536 : Nat) = 2 ^ 16 from rfl, Nat.testBit_div_two_pow, show i % 8 + 16 = i by omega]
  ·rw [h]
   show (UInt8.ofNat (n / 16777216)).toNat.testBit (i % 8) = _
   rw [key _ (i % 8) (by omega), show (16777216 : Nat) = 2 ^ 24 from rfl, Nat.testBit_div_two_pow, show i % 8 + 24 = i by omega]
theorem seal_res (s : List UInt8) : sumS allN (sealL s) = stepK 32 allN := by
 have hx := sumS_lt s (x := allN) (by unfold allN; omega)
 have hc : crcN s = allN - sumS allN s := rfl
 unfold sealL
 rw [sumS_append, hc, sumS_sum4 _ _ (by unfold allN; omega), xor_all hx]
theorem torn_sum (s : List UInt8) (k v : Nat) (hk : k + 32 ≤ 8 * (sealL s).length) (hv : v < 4294967296) (h0 : v ≠ 0) :
  4 ≤ (turnL (sealL s) k v 32).length ∧ valL ((turnL (sealL s) k v 32).drop ((turnL (sealL s) k v 32).length - 4)) ≠ crcN ((turnL (sealL s) k v 32).take ((turnL (sealL s) k v 32).length - 4)) := by
 obtain ⟨q, hq⟩ : ∃ q, q = turnL (sealL s) k v 32 := ⟨_, rfl⟩
 have hl : q.length = (sealL s).length := by rw [hq, turnL_len]
 have h4 : 4 ≤ q.length := by rw [hl, seal_len]; omega
 rw [← hq]
 refine ⟨h4, fun h => ?_⟩
 have h1 : q = sealL (q.take (q.length - 4)) := by
  conv => lhs; rw [← List.take_append_drop (q.length - 4) q]
  unfold sealL
  rw [← h, sum4_valL (by rw [List.length_drop]; omega)]
 have h2 := seal_res (q.take (q.length - 4))
 rw [← h1, ← seal_res s] at h2
 refine burst_sums allN (sealL s) q k v hl.symm hv h0 hk (fun i _ => ?_) h2.symm
 rw [hq, bitAt_turn (sealL s) k v i 32 hk]
 cases bitAt (sealL s) i <;> cases (decide (k ≤ i) && decide (i < k + 32) && v.testBit (i - k)) <;> rfl
theorem torn_read (T : List UInt8 → Rs Tr) (l s : List UInt8) (k v : Nat) (hk : k + 32 ≤ 8 * (sealL s).length) (hv : v < 4294967296) (h0 : v ≠ 0) : readP T l (turnL (sealL s) k v 32) = .no 15 := by
 obtain ⟨h1, h2⟩ := torn_sum s k v hk hv h0
 unfold readP headP
 rw [if_neg (by omega), if_pos h2]
 rfl
end Go.Proofs.YtedminjnnhlknaaGreatDoor
