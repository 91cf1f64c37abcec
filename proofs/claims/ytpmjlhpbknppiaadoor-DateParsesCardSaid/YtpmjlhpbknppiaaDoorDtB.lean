/- Contracts of package date: marks, digits, years of two digits; and what makes pieces. -/
import Derived.Test.YtpmjlhpbknppiaaDoorDtA
import Derived.Test.YtpmjlhpbknppiaaDoorChars2
import Derived.Test.YtpmjlhpbknppiaaDoorShelf
namespace Go.Proofs.YtpmjlhpbknppiaaDoor
open Go Go.RowKit

def markF (t : List UInt8) : Pf := fun σ l => (if Lib.hasPrefix l t then some (l.drop t.length) else none, σ)
def digOk (n : Nat) (l : List UInt8) : Prop := n ≤ l.length ∧ (l.take n).all isDig = true
instance (n : Nat) (l : List UInt8) : Decidable (digOk n l) := by unfold digOk; exact inferInstance
def digF (n : Nat) (a : Nat × Nat) : Pf := fun σ l => if digOk n l then (some (l.drop n), upd σ a (numOf (l.take n) : Int)) else (none, σ)
def shortN (l : List UInt8) : Nat := if digOk 2 l then (if 50 ≤ numOf (l.take 2) then numOf (l.take 2) + 1900 else numOf (l.take 2) + 2000) else 2000
def shortF (a : Nat × Nat) : Pf := fun σ l => (if digOk 2 l then some (l.drop 2) else none, upd σ a (shortN l : Int))
theorem Told.cast {o o' : Option (List UInt8)} {n : Nat} {e : Ending} (h : Told o n e) (he : o = o') : Told o' n e := by subst he; exact h
theorem told_some {l : List UInt8} {n : Nat} {e : Ending} (h : Told (some l) n e) : ∃ t : ByteArray, e = .returned (.tuple #[.string t, .bool true]) ∧ t.data.toList = l ∧ t.size ≤ n := by
  obtain ⟨t, h1, h2, h3⟩ := h
  exact ⟨t, h1, h2 l rfl, h3⟩
theorem told_none {n : Nat} {e : Ending} (h : Told none n e) : ∃ t : ByteArray, e = .returned (.tuple #[.string t, .bool false]) ∧ t.size ≤ n := by
  obtain ⟨t, h1, h2, h3⟩ := h
  exact ⟨t, h1, h3⟩

set_option maxRecDepth 100000 in
theorem mark1_any (τ : Tg) (B : Nat) (t : ByteArray) (w : World) (hc : w.cell? ⟨B, 0, none⟩ = some (.string t)) (σ : Sg) (s : ByteArray) (hh : Holds τ w σ) :
    Calls Tryd.prog 49 #[.string s, .pointer (some ⟨B, 0, none⟩)] w fun e w' => Told (markF t.data.toList σ s.data.toList).1 s.size e ∧ Lt τ w w' ∧ Holds τ w' (markF t.data.toList σ s.data.toList).2 := by
  have hB : B < w.heap.size := World.block_lt_of_cell? _ _ hc
  have HS := Lib.hid (fun w => Tryd.strings_CutPrefix s t w)
  have HH := Lib.hid hh
  obtain ⟨b, hb⟩ : ∃ b, b = Lib.hasPrefix s.data.toList t.data.toList := ⟨_, rfl⟩
  have Hb := Lib.hid hb
  obtain ⟨u, hu⟩ : ∃ u : ByteArray, u = ⟨(Lib.trimPrefix s.data.toList t.data.toList).toArray⟩ := ⟨_, rfl⟩
  have Hu := Lib.hid hu
  rw [← hb, ← hu] at HS
  clear hh hb hu
  go_enter Tryd.func49, Tryd.ntmps49
  go_wp2_with fail
  with_reducible refine (HS.out _).mono ?_
  rintro e w1 ⟨rfl, rfl⟩
  go_wp2_with fail
  go_ret2
  refine ⟨⟨u, ?_, ?_, ?_⟩, Lt.refl _ _, HH.out⟩
  · unfold markF
    rw [← Hb.out]
    cases b <;> rfl
  · intro l hl
    unfold markF at hl
    rw [Hu.out]
    unfold Lib.trimPrefix
    split at hl
    · next hx =>
      rw [if_pos hx]
      exact Option.some.inj hl
    · cases hl
  · rw [← len_toList u, Hu.out]
    unfold Lib.trimPrefix
    split
    · simp
    · simp

theorem dig_bad {l : List UInt8} {n k : Nat} (hk : k < n) (h : k < l.length) (hd : isDig l[k] = false) : ¬ digOk n l := by
  rintro ⟨h1, h2⟩
  rw [List.all_eq_true] at h2
  have := h2 l[k] (by rw [List.mem_take_iff_getElem]; exact ⟨k, by omega, rfl⟩)
  rw [hd] at this
  cases this
set_option maxRecDepth 100000 in
set_option maxHeartbeats 2000000 in
theorem digits1_any (τ : Tg) (a : Nat × Nat) (ha : a ∈ τ) (n : Nat) (hn : n ≤ 9) (B1 B2 : Nat) (w : World) (h1 : w.cell? ⟨B1, 0, none⟩ = some (.int .i64 (n : Int))) (hO : Off τ B1) (h2 : w.cell? ⟨B2, 0, none⟩ = some (.pointer (some ⟨a.1, a.2, none⟩))) (σ : Sg) (s : ByteArray) (hh : Holds τ w σ) (hs : s.size ≤ 9223372036854775807) :
    Calls Tryd.prog 44 #[.string s, .pointer (some ⟨B1, 0, none⟩), .pointer (some ⟨B2, 0, none⟩)] w fun e w' => Told (digF n a σ s.data.toList).1 s.size e ∧ Lt τ w w' ∧ Holds τ w' (digF n a σ s.data.toList).2 := by
  have hB1 : B1 < w.heap.size := World.block_lt_of_cell? _ _ h1
  have hB2 : B2 < w.heap.size := World.block_lt_of_cell? _ _ h2
  obtain ⟨hca, hfa⟩ := hh a ha
  have h1s : ∀ v, (w.setCell ⟨a.1, a.2, none⟩ v).cell? ⟨B1, 0, none⟩ = some (.int .i64 (n : Int)) := fun v => (hO.set ha w v 0).trans h1
  have haw := hh.lt ha
  have HH := Lib.hid hh
  have HA := Lib.hid ha
  obtain ⟨ab, ao⟩ := a
  simp only at h2 hca haw hfa h1s
  have Hlen := Lib.hid (len_toList s)
  clear hh ha hO
  by_cases hsz : s.size < n
  · have HN : Hid (digF n (ab, ao) σ s.data.toList = (none, σ)) := by
      unfold Hid digF
      rw [if_neg]
      rintro ⟨h, _⟩
      rw [Hlen.out] at h
      omega
    have hszI : (s.size : Int) < (n : Int) := by omega
    go_enter Tryd.func44, Tryd.ntmps44
    go_wp2_with fail
    go_ret2
    rw [HN.out]
    exact ⟨⟨s, rfl, (fun l h => by cases h), Nat.le_refl _⟩, Lt.refl _ _, HH.out⟩
  · have hszI : decide ((s.size : Int) < (n : Int)) = false := decide_eq_false (by omega)
    go_enter Tryd.func44, Tryd.ntmps44
    go_wp2_with fail
    go_loopg [14, 6] n (fun q xi xn wr => ∃ k N : Nat, k ≤ n ∧ q = n - k ∧ xi = .int .i64 (k : Int) ∧ xn = .int .i64 (N : Int) ∧ w = wr ∧ N ≤ 1000000000 ∧ Hid (N = numOf (s.data.toList.take k) ∧ (s.data.toList.take k).all isDig = true))
    case atStart => exact ⟨0, 0, by omega, by omega, rfl, rfl, rfl, by omega, rfl, rfl⟩
    case round =>
      obtain ⟨k, N, hk, rfl, rfl, rfl, rfl, hN, HN⟩ := hrel
      by_cases hlt : k < n
      · have hks : k < s.size := by omega
        by_cases hd : 48 ≤ s[k].toNat ∧ s[k].toNat ≤ 57
        · obtain ⟨hd1, hd2⟩ := hd
          have hb1 : ¬ ((s[k].toNat : Int) < 48) := by omega
          have hb2 : ¬ ((57 : Int) < (s[k].toNat : Int)) := by omega
          have HNn : Hid (N * 10 + (s[k].toNat - 48) = numOf (s.data.toList.take (k + 1)) ∧ (s.data.toList.take (k + 1)).all isDig = true) := by
            unfold Hid
            rw [take_snoc s k hks, numOf_snoc, ← HN.out.1]
            refine ⟨rfl, ?_⟩
            rw [List.all_append, HN.out.2]
            simp only [List.all_cons, List.all_nil, Bool.and_true, Bool.true_and]
            exact (isDig_iff _).2 ⟨hd1, hd2⟩
          have hNl : N * 10 + (s[k].toNat - 48) ≤ 1000000000 := by
            rw [HNn.out.1]
            have := numOf_lt _ HNn.out.2
            rw [List.length_take] at this
            have h9 : 10 ^ min (k + 1) s.data.toList.length ≤ 10 ^ 9 := Nat.pow_le_pow_right (by omega) (by omega)
            omega
          obtain ⟨c, hc⟩ : ∃ c, c = s[k].toNat := ⟨_, rfl⟩
          go_wp2_with fail
          go_roundg (n - (k + 1))
          case measure => omega
          case rel => exact ⟨k + 1, N * 10 + (s[k].toNat - 48), by omega, rfl, by first | rfl | (congr 1), by congr 1; omega, rfl, hNl, HNn.out⟩
        · have HB : Hid (digF n (ab, ao) σ s.data.toList = (none, σ)) := by
            unfold Hid digF
            rw [if_neg (dig_bad (k := k) hlt (by rw [Hlen.out]; exact hks) (by
              rw [show s.data.toList[k]'(by rw [Hlen.out]; exact hks) = s[k] from rfl]
              have := mt (isDig_iff s[k]).1 hd
              simpa using this))]
          by_cases hb1 : (s[k].toNat : Int) < 48
          · go_wp2_with fail
            go_ret2
            rw [HB.out]
            exact ⟨⟨s, rfl, (fun l h => by cases h), Nat.le_refl _⟩, Lt.refl _ _, HH.out⟩
          · have hb2 : (57 : Int) < (s[k].toNat : Int) := by omega
            go_wp2_with fail
            go_ret2
            rw [HB.out]
            exact ⟨⟨s, rfl, (fun l h => by cases h), Nat.le_refl _⟩, Lt.refl _ _, HH.out⟩
      · obtain rfl : k = n := by omega
        have HG : Hid (digF k (ab, ao) σ s.data.toList = (some (s.data.toList.drop k), upd σ (ab, ao) (N : Int))) := by
          unfold Hid digF
          rw [if_pos ⟨by rw [Hlen.out]; omega, HN.out.2⟩, ← HN.out.1]
        have hks : k ≤ s.size := by omega
        go_wp2_with fail
        go_ret2
        rw [HG.out]
        refine ⟨⟨s.extract k s.size, rfl, ?_, ?_⟩, Lt.set HA.out _, HH.out.set HA.out _⟩
        · intro l hl
          cases hl
          rw [extract_toList, List.take_of_length_le (by rw [List.length_drop, Hlen.out]; omega)]
        · rw [extract_len]
          omega
end Go.Proofs.YtpmjlhpbknppiaaDoor
