/- Statement AddrBroken, for any bytes. -/
import Derived.Test.YtjlcphofkepajaaAdQ
import Derived.Test.YtjlcphofkepajaaAdW
namespace Go.Proofs.Ytjlcphofkepajaa
open Go Go.RowKit

def letX (b : UInt8) : UInt8 := 97 + UInt8.ofNat (b.toNat % 3)
theorem letX_low (b : UInt8) : lowX (letX b) := by
  unfold letX lowX
  have h : b.toNat % 3 < 3 := Nat.mod_lt _ (by decide)
  generalize b.toNat % 3 = q at h ⊢
  match q, h with
  | 0, _ => left; rfl
  | 1, _ => right; left; rfl
  | 2, _ => right; right; rfl
  | n + 3, h => omega
theorem abc_piece (b : UInt8) : ((⟨#[97, 98, 99]⟩ : ByteArray).extract (b.toNat % 3) (b.toNat % 3 + 1)).data.toList = [letX b] := by
  unfold letX
  have h : b.toNat % 3 < 3 := Nat.mod_lt _ (by decide)
  generalize b.toNat % 3 = q at h ⊢
  match q, h with
  | 0, _ => rfl
  | 1, _ => rfl
  | 2, _ => rfl
  | n + 3, h => omega
/-- The text with a sign too many, up to a place. -/
def tL (xs : List UInt8) (k0 kk i : Nat) : List UInt8 :=
  if i ≤ k0 then onesL (xs.take i) else onesL (xs.take (k0 + 1)) ++ (junkL kk ++ [44] ++ onesL ((xs.take i).drop (k0 + 1)))
theorem onesL_snoc (xs : List UInt8) (x : UInt8) : onesL (xs ++ [x]) = onesL xs ++ oneL x := by simp [onesL]
theorem take_snocX (xs : List UInt8) (i : Nat) (h : i < xs.length) : xs.take (i + 1) = xs.take i ++ [xs[i]] := List.take_succ_eq_append_getElem h
theorem tL_ne {xs : List UInt8} {k0 kk i : Nat} (h : i < xs.length) (hn : i ≠ k0) : tL xs k0 kk (i + 1) = tL xs k0 kk i ++ oneL xs[i] := by
  unfold tL
  by_cases h1 : i + 1 ≤ k0
  · rw [if_pos h1, if_pos (by omega), take_snocX xs i h, onesL_snoc]
  · rw [if_neg h1, if_neg (by omega), take_snocX xs i h, List.drop_append_of_le_length (by simp; omega), onesL_snoc]
    simp only [List.append_assoc]
theorem tL_eq {xs : List UInt8} {kk i : Nat} (h : i < xs.length) : tL xs i kk (i + 1) = tL xs i kk i ++ oneL xs[i] ++ (junkL kk ++ [44]) := by
  unfold tL
  rw [if_neg (by omega), if_pos (Nat.le_refl _), List.drop_of_length_le (by simp; omega), take_snocX xs i h, onesL_snoc]
  show _ ++ (junkL kk ++ [44] ++ []) = _
  rw [List.append_nil]
def junkA (kk : Nat) : ByteArray := ⟨(junkL kk).toArray⟩
def junks : Array Value := #[.string ⟨#[60]⟩, .string ⟨#[62]⟩, .string ⟨#[64]⟩, .string ⟨#[59]⟩, .string ⟨#[120, 64]⟩, .string ⟨#[60, 97, 64, 98]⟩, .string ⟨#[97, 64, 98, 62]⟩, .string ⟨#[34, 113]⟩, .string ⟨#[91]⟩, .string ⟨#[120, 64, 64, 121]⟩]
theorem junks_at (kk : Nat) (h : kk < 10) : junks[kk]? = some (.string (junkA kk)) := by
  match kk, h with
  | 0, _ => rfl
  | 1, _ => rfl
  | 2, _ => rfl
  | 3, _ => rfl
  | 4, _ => rfl
  | 5, _ => rfl
  | 6, _ => rfl
  | 7, _ => rfl
  | 8, _ => rfl
  | 9, _ => rfl
  | n + 10, h => omega
theorem junks_cell (W : World) (t : TypeId) (kk : Nat) (h : kk < 10) : (W.alloc (.cells junks t)).cell? ⟨W.heap.size, kk, none⟩ = some (.string (junkA kk)) := by
  have hnew := heap_alloc_new W (.cells junks t)
  simp only [World.cell?, hnew]
  exact junks_at kk h
theorem junkL_len (kk : Nat) : (junkL kk).length ≤ 4 := by
  match kk with
  | 0 => decide
  | 1 => decide
  | 2 => decide
  | 3 => decide
  | 4 => decide
  | 5 => decide
  | 6 => decide
  | 7 => decide
  | 8 => decide
  | n + 9 => exact Nat.le_refl 4

set_option maxRecDepth 100000 in
set_option maxHeartbeats 8000000 in
theorem addrBroken_any (v : Value) (l : List UInt8) (k q : UInt8) (w : World) (hv : bytesArg w v l) :
    Calls Try.prog 4 #[v, .int .u8 (k.toNat : Int), .int .u8 (q.toNat : Int)] w fun e w' => e = .returned (.bool true) ∧ Below w.heap.size w w' := by
  have HAw := Lib.hid (awake_any10 w)
  obtain ⟨ao, cap, rfl, hc, hm, hs⟩ := hv.at
  have HS := Lib.hid hs
  unfold maxLen at hm
  clear hs hv
  by_cases h8 : 8 < l.length
  · have q1 : decide ((8 : Int) < (l.length : Int)) = true := decide_eq_true (by omega)
    have q2 : (8 : Int) < (l.length : Int) := by omega
    clear h8
    go_enter Try.func4, Try.ntmps4
    go_wp2_with fail
    with_reducible refine HAw.out.mono ?_
    rintro e w1 ⟨rfl, hb1⟩
    have HB1 := Lib.hid hb1
    clear hb1
    go_wp2_with fail
    go_ret
    exact ⟨rfl, HB1.out⟩
  · have q2 : ¬ (8 : Int) < (l.length : Int) := by omega
    obtain ⟨xs, hxs⟩ : ∃ xs, xs = l.map letX := ⟨_, rfl⟩
    have HXl : Hid (xs.length = l.length) := by unfold Hid; rw [hxs]; simp
    have HXg : Hid (∀ i (h : i < l.length) (h2 : i < xs.length), xs[i] = letX l[i]) := by intro i h h2; simp [hxs]
    have HXlow : Hid (∀ x ∈ xs, lowX x) := by
      intro x hx
      rw [hxs] at hx
      obtain ⟨b, _, rfl⟩ := List.mem_map.1 hx
      exact letX_low b
    have hk := byte_lt k
    have hq := byte_lt q
    obtain ⟨n, hn⟩ : ∃ n, n = l.length := ⟨_, rfl⟩
    obtain ⟨kk, hkk⟩ : ∃ kk, kk = k.toNat % 10 := ⟨_, rfl⟩
    have hk10 : kk < 10 := by rw [hkk]; exact Nat.mod_lt _ (by decide)
    obtain ⟨k0, hk0⟩ : ∃ k0, k0 = q.toNat % n := ⟨_, rfl⟩
    rw [← hn] at hc q2 h8 HXl ⊢
    have m3 : ((k.toNat : Nat) : Int) % 10 = (kk : Int) := by omega
    have m4 : (((k.toNat : Nat) : Int)).tmod 10 = (kk : Int) := by rw [Int.tmod_eq_emod_of_nonneg (by omega)]; omega
    have m5 : ((q.toNat : Nat) : Int) % (n : Int) = (k0 : Int) := by rw [hk0]; simp
    have m6 : (((q.toNat : Nat) : Int)).tmod (n : Int) = (k0 : Int) := by rw [Int.tmod_eq_emod_of_nonneg (by omega)]; exact m5
    have HN := Lib.hid hn
    have HK0 := Lib.hid hk0
    clear hxs hn hkk hk0
    go_enter Try.func4, Try.ntmps4
    go_wp2_with fail
    with_reducible refine HAw.out.mono ?_
    rintro e w1 ⟨rfl, hb1⟩
    have HB1 := Lib.hid hb1
    clear hb1
    go_wp2_with fail
    go_loopg [8, 9, 10] n (fun g v8 v9 v10 wr => ∃ (i : Nat) (S T : ByteArray), g = n - i ∧ i ≤ n ∧ v10 = .int .i64 (i : Int) ∧ v8 = .string S ∧ v9 = .string T ∧ S.size ≤ 6 * i ∧ T.size ≤ 6 * i + 5 * i ∧ Hid (S.data.toList = onesL (xs.take i)) ∧ Hid (T.data.toList = tL xs k0 kk i) ∧ Hid (Below w.heap.size w wr))
    case atStart => exact ⟨0, ⟨#[]⟩, ⟨#[]⟩, by omega, by omega, rfl, rfl, rfl, by decide, by decide, rfl, by unfold Hid tL; simp [onesL], HB1.out⟩
    case round =>
      obtain ⟨i, S, T, rfl, hi, rfl, rfl, rfl, hSs, hTs, HSt, HTt, HB⟩ := hrel
      by_cases hlt : i < n
      · have hil : i < l.length := by rw [← HN.out]; exact hlt
        have hix : i < xs.length := by rw [HXl.out]; exact hlt
        obtain ⟨b, off, rfl, hbb, hcell⟩ := HS.out.cell i hil
        have c1 := (HB.out.cell (p := ⟨b, off + i, none⟩) hbb).trans hcell
        have hE := HXg.out i hil hix
        have habc := abc_piece l[i]
        obtain ⟨c, hcc⟩ : ∃ c, c = l[i] := ⟨_, rfl⟩
        rw [← hcc] at c1 hE habc
        have hcb := byte_lt c
        obtain ⟨r, hr⟩ : ∃ r, r = c.toNat % 3 := ⟨_, rfl⟩
        rw [← hr] at habc
        have hr3 : r < 3 := by rw [hr]; exact Nat.mod_lt _ (by decide)
        have m1 : ((c.toNat : Nat) : Int) % 3 = (r : Int) := by omega
        have m2 : (((c.toNat : Nat) : Int)).tmod 3 = (r : Int) := by rw [Int.tmod_eq_emod_of_nonneg (by omega)]; omega
        have hz1 : ((⟨#[97, 98, 99]⟩ : ByteArray).extract r (r + 1)).size = 1 := by rw [extract_size' _ _ _ (by show r + 1 ≤ 3; omega)]; omega
        obtain ⟨O, hO⟩ : ∃ O : ByteArray, O = (⟨#[117]⟩ : ByteArray) ++ (⟨#[97, 98, 99]⟩ : ByteArray).extract r (r + 1) ++ ⟨#[64, 104, 44, 32]⟩ := ⟨_, rfl⟩
        have HO : Hid (O.data.toList = oneL xs[i]) := by
          unfold Hid
          rw [hO, cat_toList, cat_toList, habc, hE]
          rfl
        have HOe : Hid ((⟨#[117]⟩ : ByteArray) ++ (⟨#[97, 98, 99]⟩ : ByteArray).extract r (r + 1) ++ ⟨#[64, 104, 44, 32]⟩ = O) := hO.symm
        clear habc hE hcc hr hO hcell
        have hOs : O.size = 6 := by rw [← HOe.out]; simp only [ByteArray.size_append, hz1]; rfl
        by_cases hik : i = k0
        · have bik : ((i : Int) == (k0 : Int)) = true := beq_yes (by omega)
          obtain ⟨J, hJ⟩ : ∃ J, J = junkA kk := ⟨_, rfl⟩
          have HJ : Hid (J.data.toList = junkL kk) := by unfold Hid; rw [hJ]; rfl
          have hJs : J.size ≤ 4 := by rw [hJ]; exact junkL_len kk
          have HJC : Hid (∀ W : World, (W.alloc (.cells #[.string ⟨#[60]⟩, .string ⟨#[62]⟩, .string ⟨#[64]⟩, .string ⟨#[59]⟩, .string ⟨#[120, 64]⟩, .string ⟨#[60, 97, 64, 98]⟩, .string ⟨#[97, 64, 98, 62]⟩, .string ⟨#[34, 113]⟩, .string ⟨#[91]⟩, .string ⟨#[120, 64, 64, 121]⟩] 9)).cell? ⟨W.heap.size, kk, none⟩ = some (.string J)) := by
            intro W
            rw [hJ]
            exact junks_cell W 9 kk hk10
          have HIK := Lib.hid hik
          clear hik hJ
          go_wp2_with fail
          go_quiet (fail)
          have HB2 : Hid (Below w.heap.size w (wr.drewN nq)) := HB.out.trans ((below_drewN' _).mono HB.out.size)
          generalize wr.drewN nq = W2 at HB2 ⊢
          have hj2 := HJC.out W2
          rw [HOe.out]
          go_wp2_with fail
          go_roundg (n - (i + 1))
          case measure => omega
          case rel =>
            refine ⟨i + 1, S ++ O, T ++ O ++ (J ++ ⟨#[44]⟩), rfl, by omega, by go_num, rfl, rfl, ?_, ?_, ?_, ?_, HB2.out.alloc HB2.out.size _⟩
            · simp only [ByteArray.size_append]; omega
            · simp only [ByteArray.size_append]; show T.size + O.size + (J.size + 1) ≤ _; omega
            · unfold Hid
              rw [cat_toList, HSt.out, HO.out, take_snocX xs i hix, onesL_snoc]
            · unfold Hid
              rw [cat_toList, cat_toList, cat_toList, HTt.out, HO.out, HJ.out, ← HIK.out, tL_eq hix]
        · have bik : ((i : Int) == (k0 : Int)) = false := beq_no (by omega)
          have HIK := Lib.hid hik
          clear hik
          go_wp2_with fail
          go_quiet (fail)
          have HB2 : Hid (Below w.heap.size w (wr.drewN nq)) := HB.out.trans ((below_drewN' _).mono HB.out.size)
          generalize wr.drewN nq = W2 at HB2 ⊢
          rw [HOe.out]
          go_wp2_with fail
          go_roundg (n - (i + 1))
          case measure => omega
          case rel =>
            refine ⟨i + 1, S ++ O, T ++ O, rfl, by omega, by go_num, rfl, rfl, ?_, ?_, ?_, ?_, HB2.out⟩
            · simp only [ByteArray.size_append]; omega
            · simp only [ByteArray.size_append]; omega
            · unfold Hid
              rw [cat_toList, HSt.out, HO.out, take_snocX xs i hix, onesL_snoc]
            · unfold Hid
              rw [cat_toList, HTt.out, HO.out, tL_ne hix HIK.out]
      · have hxn : xs.take i = xs := List.take_of_length_le (by rw [HXl.out]; omega)
        have H1 := Lib.hid (fun W => list_some S (xs.map oneA) W (by omega) (by rw [HSt.out, hxn]; exact listA_ones HXlow.out))
        have bl : (((xs.map oneA).length : Int) == (n : Int)) = true := beq_yes (by rw [List.length_map, HXl.out])
        have HXL := HXl.out
        by_cases hn0 : n = 0
        · have H2 := Lib.hid (fun W => list_any T W (by omega))
          have bn0 : ((n : Int) == 0) = true := beq_yes (by omega)
          clear hxn
          have HN0 := Lib.hid hn0
          clear hn0
          go_wp2_with fail
          with_reducible refine (H1.out _).mono ?_
          rintro e w2 ⟨v2, rfl, hr2, hb2⟩
          have HB2 := Lib.hid (HB.out.trans (hb2.mono HB.out.size))
          obtain ⟨uo, uc, rfl, _, _, _⟩ := hr2
          clear hb2
          go_wp2_with fail
          with_reducible refine (H2.out _).mono ?_
          rintro e w3 ⟨v3, q3, rfl, _, hb3⟩
          have HB3 := Lib.hid (HB2.out.trans (hb3.mono HB2.out.size))
          clear hb3
          go_wp2_with fail
          go_ret
          exact ⟨rfl, HB3.out⟩
        · have hk0n : k0 < n := by rw [HK0.out]; exact Nat.mod_lt _ (by omega)
          have hT : T.data.toList = onesL (xs.take (k0 + 1)) ++ (junkL kk ++ [44] ++ onesL (xs.drop (k0 + 1))) := by
            rw [HTt.out]
            unfold tL
            rw [if_neg (by omega), hxn]
          have H2 := Lib.hid (fun W => list_none T W (by omega) (by
            rw [hT]
            exact listA_junk kk (fun x hx => HXlow.out x (List.mem_of_mem_take hx)) (fun x hx => HXlow.out x (List.mem_of_mem_drop hx))))
          have bn0 : ((n : Int) == 0) = false := beq_no (by omega)
          clear hxn hT hk0n
          go_wp2_with fail
          with_reducible refine (H1.out _).mono ?_
          rintro e w2 ⟨v2, rfl, hr2, hb2⟩
          have HB2 := Lib.hid (HB.out.trans (hb2.mono HB.out.size))
          obtain ⟨uo, uc, rfl, _, _, _⟩ := hr2
          clear hb2
          go_wp2_with fail
          with_reducible refine (H2.out _).mono ?_
          rintro e w3 ⟨rfl, hb3⟩
          have HB3 := Lib.hid (HB2.out.trans (hb3.mono HB2.out.size))
          clear hb3
          go_wp2_with fail
          go_ret
          exact ⟨rfl, HB3.out⟩
end Go.Proofs.Ytjlcphofkepajaa
