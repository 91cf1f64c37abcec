/- Plain: the value of the text that ParamsPieces puts together. -/
import Derived.Test.YtcnihodikpcfkaaGreatDoorParW
namespace Go.Proofs.YtcnihodikpcfkaaGreatDoor
open Go Go.RowKit

def fnB : List UInt8 := [102, 105, 108, 101, 110, 97, 109, 101]
def utfB : List UInt8 := [117, 116, 102, 45, 56, 39, 39]
def digK (k : Nat) : List UInt8 := if k < 10 then [UInt8.ofNat (48 + k)] else [49, UInt8.ofNat (48 + (k - 10))]
theorem digK_dec (k : Nat) (h : k < 12) : Lib.decDigits k = digK k := by
  by_cases h10 : k < 10
  · rw [Lib.decDigits_one h10]
    unfold digK
    rw [if_pos h10]
  · rw [Lib.decDigits, dif_neg h10, show k / 10 = 1 by omega, Lib.decDigits_one (by decide)]
    unfold digK
    rw [if_neg h10, show k % 10 = k - 10 by omega]
    rfl
def hexUp (n : Nat) : UInt8 := ([48, 49, 50, 51, 52, 53, 54, 55, 56, 57, 65, 66, 67, 68, 69, 70] : List UInt8).getD n 0
def hexLo (n : Nat) : UInt8 := ([48, 49, 50, 51, 52, 53, 54, 55, 56, 57, 97, 98, 99, 100, 101, 102] : List UInt8).getD n 0
def hx2 (b : UInt8) : List UInt8 := [hexUp (b.toNat / 16), hexLo (b.toNat % 16)]
def utK (k : Nat) : List UInt8 := if k = 0 then utfB else []
def valK (k : Nat) (b : UInt8) : List UInt8 := utK k ++ 37 :: hx2 b
def nmK (k : Nat) : List UInt8 := fnB ++ 42 :: (digK k ++ [42])
def preK (k : Nat) : List UInt8 := 59 :: 32 :: (fnB ++ 42 :: (digK k ++ 42 :: 61 :: utK k))
def entK (k : Nat) (b : UInt8) : List UInt8 := preK k ++ 37 :: hx2 b
theorem parK0 (Z : List UInt8) : parL (preK 0 ++ 37 :: Z) = some ((nmK 0, utK 0 ++ 37 :: tokL Z), Z.drop (tokL Z).length) := by kernel_rfl
theorem parK1 (Z : List UInt8) : parL (preK 1 ++ 37 :: Z) = some ((nmK 1, utK 1 ++ 37 :: tokL Z), Z.drop (tokL Z).length) := by kernel_rfl
theorem parK2 (Z : List UInt8) : parL (preK 2 ++ 37 :: Z) = some ((nmK 2, utK 2 ++ 37 :: tokL Z), Z.drop (tokL Z).length) := by kernel_rfl
theorem parK3 (Z : List UInt8) : parL (preK 3 ++ 37 :: Z) = some ((nmK 3, utK 3 ++ 37 :: tokL Z), Z.drop (tokL Z).length) := by kernel_rfl
theorem parK4 (Z : List UInt8) : parL (preK 4 ++ 37 :: Z) = some ((nmK 4, utK 4 ++ 37 :: tokL Z), Z.drop (tokL Z).length) := by kernel_rfl
theorem parK5 (Z : List UInt8) : parL (preK 5 ++ 37 :: Z) = some ((nmK 5, utK 5 ++ 37 :: tokL Z), Z.drop (tokL Z).length) := by kernel_rfl
theorem parK6 (Z : List UInt8) : parL (preK 6 ++ 37 :: Z) = some ((nmK 6, utK 6 ++ 37 :: tokL Z), Z.drop (tokL Z).length) := by kernel_rfl
theorem parK7 (Z : List UInt8) : parL (preK 7 ++ 37 :: Z) = some ((nmK 7, utK 7 ++ 37 :: tokL Z), Z.drop (tokL Z).length) := by kernel_rfl
theorem parK8 (Z : List UInt8) : parL (preK 8 ++ 37 :: Z) = some ((nmK 8, utK 8 ++ 37 :: tokL Z), Z.drop (tokL Z).length) := by kernel_rfl
theorem parK9 (Z : List UInt8) : parL (preK 9 ++ 37 :: Z) = some ((nmK 9, utK 9 ++ 37 :: tokL Z), Z.drop (tokL Z).length) := by kernel_rfl
theorem parK10 (Z : List UInt8) : parL (preK 10 ++ 37 :: Z) = some ((nmK 10, utK 10 ++ 37 :: tokL Z), Z.drop (tokL Z).length) := by kernel_rfl
theorem parK11 (Z : List UInt8) : parL (preK 11 ++ 37 :: Z) = some ((nmK 11, utK 11 ++ 37 :: tokL Z), Z.drop (tokL Z).length) := by kernel_rfl
theorem parK (k : Nat) (h : k < 12) (Z : List UInt8) : parL (preK k ++ 37 :: Z) = some ((nmK k, utK k ++ 37 :: tokL Z), Z.drop (tokL Z).length) := by
  have : k = 0 ∨ k = 1 ∨ k = 2 ∨ k = 3 ∨ k = 4 ∨ k = 5 ∨ k = 6 ∨ k = 7 ∨ k = 8 ∨ k = 9 ∨ k = 10 ∨ k = 11 := by omega
  rcases this with rfl | rfl | rfl | rfl | rfl | rfl | rfl | rfl | rfl | rfl | rfl | rfl
  · exact parK0 Z
  · exact parK1 Z
  · exact parK2 Z
  · exact parK3 Z
  · exact parK4 Z
  · exact parK5 Z
  · exact parK6 Z
  · exact parK7 Z
  · exact parK8 Z
  · exact parK9 Z
  · exact parK10 Z
  · exact parK11 Z
theorem hex_all : (List.range 256).all (fun n => tokB (hexUp (n / 16)) && tokB (hexLo (n % 16)) && decide (opn [37, hexUp (n / 16), hexLo (n % 16)] = [UInt8.ofNat n]) && decide (opn (bareL (utfB ++ [37, hexUp (n / 16), hexLo (n % 16)])) = [UInt8.ofNat n])) = true := by kernel_rfl
theorem hex_of (b : UInt8) : tokB (hexUp (b.toNat / 16)) = true ∧ tokB (hexLo (b.toNat % 16)) = true ∧ opn (37 :: hx2 b) = [b] ∧ opn (bareL (utfB ++ 37 :: hx2 b)) = [b] := by
  have h := List.all_eq_true.1 hex_all b.toNat (by rw [List.mem_range]; exact b.toNat_lt)
  simp only [Bool.and_eq_true, decide_eq_true_eq] at h
  obtain ⟨⟨⟨h1, h2⟩, h3⟩, h4⟩ := h
  have e : UInt8.ofNat b.toNat = b := UInt8.ofNat_toNat
  rw [e] at h3 h4
  exact ⟨h1, h2, h3, h4⟩
theorem tok_hex (b : UInt8) (R : List UInt8) (hR : R = [] ∨ ∃ R', R = 59 :: R') : tokL (hx2 b ++ R) = hx2 b := by
  obtain ⟨h1, h2, _, _⟩ := hex_of b
  have e : tokL R = [] := by
    rcases hR with rfl | ⟨R', rfl⟩
    · rfl
    · kernel_rfl
  unfold tokL at e ⊢
  unfold hx2
  rw [List.cons_append, List.takeWhile_cons, if_pos h1, List.cons_append, List.takeWhile_cons, if_pos h2, List.nil_append, e]
theorem par_ent (k : Nat) (h : k < 12) (b : UInt8) (R : List UInt8) (hR : R = [] ∨ ∃ R', R = 59 :: R') : parL (entK k b ++ R) = some ((nmK k, valK k b), R) := by
  have e : entK k b ++ R = preK k ++ 37 :: (hx2 b ++ R) := by simp [entK]
  rw [e, parK k h, tok_hex b R hR]
  have e2 : (hx2 b ++ R).drop (hx2 b).length = R := List.drop_left
  rw [e2]
  rfl
def txtK (vb : Nat → UInt8) (ks : List Nat) : List UInt8 := ks.flatMap (fun k => entK k (vb k))
theorem txtK_cons (vb : Nat → UInt8) (k : Nat) (ks : List Nat) : txtK vb (k :: ks) = entK k (vb k) ++ txtK vb ks := List.flatMap_cons
theorem txtK_start (vb : Nat → UInt8) (ks : List Nat) : txtK vb ks = [] ∨ ∃ R', txtK vb ks = 59 :: R' := by
  cases ks with
  | nil => exact .inl rfl
  | cons k ks => exact .inr ⟨_, by rw [txtK_cons]; rfl⟩
def prmK (vb : Nat → UInt8) (k : Nat) : Prm := (nmK k, valK k (vb k))
theorem parsK (vb : Nat → UInt8) : ∀ (ks : List Nat) (m : Nat), (∀ k ∈ ks, k < 12) → (txtK vb ks).length ≤ m → parsL m (txtK vb ks) = ks.map (prmK vb) := by
  intro ks
  induction ks with
  | nil => intro m _ _; exact parsL_end (by kernel_rfl)
  | cons k ks ih =>
    intro m hk hm
    have hp := par_ent k (hk k (by simp)) (vb k) (txtK vb ks) (txtK_start vb ks)
    rw [← txtK_cons] at hp
    have hl := parL_len hp
    rw [parsL_step hp hm, ih m (fun x hx => hk x (by simp [hx])) (by omega)]
    rfl
theorem nmK_inj {a b : Nat} (ha : a < 12) (hb : b < 12) (h : nmK a = nmK b) : a = b := by
  unfold nmK at h
  have h1 := List.append_cancel_left h
  have h2 := (List.cons.inj h1).2
  have h3 := List.append_cancel_right h2
  rw [← digK_dec a ha, ← digK_dec b hb] at h3
  exact decDigits_inj h3
theorem getV_in (vb : Nat → UInt8) (ks : List Nat) (k : Nat) (h12 : ∀ x ∈ ks, x < 12) (hk : k ∈ ks) : getV (ks.map (prmK vb)) (nmK k) = some (valK k (vb k)) := by
  induction ks with
  | nil => cases hk
  | cons x ks ih =>
    unfold getV
    rw [List.map_cons]
    by_cases hx : x = k
    · subst hx
      rw [List.find?_cons_of_pos (by simp [prmK])]
      rfl
    · rw [List.find?_cons_of_neg (by
        intro e
        have e' : nmK x = nmK k := by simpa [prmK] using e
        exact hx (nmK_inj (h12 x (by simp)) (h12 k hk) e'))]
      exact ih (fun y hy => h12 y (by simp [hy])) (by simpa [Ne.symm hx] using hk)
theorem getV_out (vb : Nat → UInt8) (ks : List Nat) (nm : List UInt8) (h : ∀ k ∈ ks, nmK k ≠ nm) : getV (ks.map (prmK vb)) nm = none := by
  unfold getV
  rw [List.find?_eq_none.2 (by
    intro p hp
    obtain ⟨k, hk, rfl⟩ := List.mem_map.1 hp
    have := h k hk
    simpa [prmK] using this)]
  rfl
theorem nm_dec (k : Nat) (h : k < 12) : fnB ++ [42] ++ Lib.decDigits k ++ [42] = nmK k := by
  rw [digK_dec k h]
  simp [nmK]
theorem nm_nostar (a k : Nat) : nmK a ≠ fnB ++ [42] ++ Lib.decDigits k := by
  intro e
  have e1 : nmK a = fnB ++ ([42] ++ (digK a ++ [42])) := by simp [nmK]
  rw [e1, List.append_assoc] at e
  have e2 := List.append_cancel_left (List.append_cancel_left e)
  have h3 : (42 : UInt8) ∈ Lib.decDigits k := by rw [← e2]; simp
  have := decDigits_star k 42 h3
  simp at this
theorem piece_in (vb : Nat → UInt8) (ks : List Nat) (k : Nat) (h12 : ∀ x ∈ ks, x < 12) (hk : k ∈ ks) : pieceL (ks.map (prmK vb)) fnB k = some [vb k] := by
  have hk12 := h12 k hk
  obtain ⟨_, _, h3, h4⟩ := hex_of (vb k)
  unfold pieceL
  rw [getV_out vb ks _ (fun a _ => nm_nostar a k), nm_dec k hk12, getV_in vb ks k h12 hk]
  by_cases h0 : k = 0
  · subst h0
    show some (opn (bareL (utfB ++ 37 :: hx2 (vb 0)))) = _
    rw [h4]
  · show some (opn (if k = 0 then bareL (valK k (vb k)) else valK k (vb k))) = _
    rw [if_neg h0]
    have e : valK k (vb k) = 37 :: hx2 (vb k) := by simp [valK, utK, h0]
    rw [e, h3]
theorem piece_out (vb : Nat → UInt8) (ks : List Nat) (n : Nat) (h12 : ∀ x ∈ ks, x < n) (hn : n ≤ 12) : pieceL (ks.map (prmK vb)) fnB n = none := by
  unfold pieceL
  rw [getV_out vb ks _ (fun a _ => nm_nostar a n)]
  have : getV (ks.map (prmK vb)) (fnB ++ [42] ++ Lib.decDigits n ++ [42]) = none := by
    refine getV_out vb ks _ (fun a ha e => ?_)
    have e1 : nmK a = fnB ++ ([42] ++ (digK a ++ [42])) := by simp [nmK]
    have han := h12 a ha
    rw [e1, ← digK_dec a (by omega), List.append_assoc, List.append_assoc] at e
    have e2 := List.append_cancel_right (List.append_cancel_left (List.append_cancel_left e))
    have := decDigits_inj e2
    omega
  rw [this]
  rfl
theorem pcs_all (vb : Nat → UInt8) (ks : List Nat) (n : Nat) (hn : n ≤ 12) (hlt : ∀ x ∈ ks, x < n) (hin : ∀ k, k < n → k ∈ ks) : ∀ (f i : Nat), i ≤ n → n - i < f → pcsL (ks.map (prmK vb)) fnB f i = (List.range' i (n - i)).map vb := by
  intro f
  induction f with
  | zero => intro i _ h; omega
  | succ f ih =>
    intro i hi hf
    by_cases h : i < n
    · rw [pcsL_step (piece_in vb ks i (fun x hx => Nat.lt_of_lt_of_le (hlt x hx) hn) (hin i h)), ih (i + 1) (by omega) (by omega)]
      have e : n - i = (n - (i + 1)) + 1 := by omega
      rw [e, List.range'_succ]
      rfl
    · obtain rfl : i = n := by omega
      rw [pcsL_end (piece_out vb ks i hlt hn), Nat.sub_self]
      rfl
theorem told_all (vb : Nat → UInt8) (ks : List Nat) (n : Nat) (h0 : 0 < n) (hn : n ≤ 12) (hlen : ks.length = n) (hlt : ∀ x ∈ ks, x < n) (hin : ∀ k, k < n → k ∈ ks) : toldL (ks.map (prmK vb)) fnB = some ((List.range n).map vb) := by
  have g1 : getV (ks.map (prmK vb)) fnB = none := getV_out vb ks _ (fun a _ e => by
    have := congrArg List.length e
    simp [nmK] at this)
  have g2 : getV (ks.map (prmK vb)) (fnB ++ [42]) = none := getV_out vb ks _ (fun a _ e => by
    have e1 : nmK a = fnB ++ [42] ++ (digK a ++ [42]) := by simp [nmK]
    rw [e1] at e
    have := congrArg List.length e
    simp at this)
  unfold toldL
  rw [g1, g2, piece_in vb ks 0 (fun x hx => Nat.lt_of_lt_of_le (hlt x hx) hn) (hin 0 h0)]
  show some (pcsL (ks.map (prmK vb)) fnB ((ks.map (prmK vb)).length + 1) 0) = _
  rw [pcs_all vb ks n hn hlt hin _ 0 (Nat.zero_le _) (by rw [List.length_map]; omega), Nat.sub_zero, List.range_eq_range']
theorem base_nm (k : Nat) : baseL (nmK k) = fnB := by kernel_rfl
theorem joinA_none (ps : List Prm) : ∀ (t : List Prm) (pre : List (List UInt8)), (∀ p ∈ t, baseL p.1 ∈ pre) → joinA ps pre t = [] := by
  intro t
  induction t with
  | nil => intro pre _; rfl
  | cons p t ih =>
    intro pre h
    have e : joinA ps pre (p :: t) = if baseL p.1 = [] ∨ baseL p.1 ∈ pre then joinA ps (baseL p.1 :: pre) t else match toldL ps (baseL p.1) with | some v => (baseL p.1, v) :: joinA ps (baseL p.1 :: pre) t | none => joinA ps (baseL p.1 :: pre) t := rfl
    rw [e, if_pos (.inr (h p (by simp)))]
    exact ih _ (fun x hx => List.mem_cons_of_mem _ (h x (by simp [hx])))
theorem join_all (vb : Nat → UInt8) (ks : List Nat) (n : Nat) (h0 : 0 < n) (hn : n ≤ 12) (hlen : ks.length = n) (hlt : ∀ x ∈ ks, x < n) (hin : ∀ k, k < n → k ∈ ks) : joinL (ks.map (prmK vb)) = [(fnB, (List.range n).map vb)] := by
  have ht := told_all vb ks n h0 hn hlen hlt hin
  obtain ⟨ps, hps⟩ : ∃ ps, ps = ks.map (prmK vb) := ⟨_, rfl⟩
  unfold joinL
  rw [← hps] at ht ⊢
  cases ks with
  | nil => simp at hlen; omega
  | cons k ks =>
    have e : joinA ps [] ps = joinA ps [] (prmK vb k :: ks.map (prmK vb)) := by rw [hps]; rfl
    rw [e]
    have e1 : joinA ps [] (prmK vb k :: ks.map (prmK vb)) = if baseL (nmK k) = [] ∨ baseL (nmK k) ∈ [] then joinA ps (baseL (nmK k) :: []) (ks.map (prmK vb)) else match toldL ps (baseL (nmK k)) with | some v => (baseL (nmK k), v) :: joinA ps (baseL (nmK k) :: []) (ks.map (prmK vb)) | none => joinA ps (baseL (nmK k) :: []) (ks.map (prmK vb)) := rfl
    rw [e1, base_nm, if_neg (by rintro (h | h) <;> cases h), ht]
    show (fnB, _) :: joinA ps [fnB] (ks.map (prmK vb)) = _
    rw [joinA_none ps _ [fnB] (by
      intro p hp
      obtain ⟨x, _, rfl⟩ := List.mem_map.1 hp
      show baseL (nmK x) ∈ [fnB]
      rw [base_nm]
      simp)]
def attB : List UInt8 := [97, 116, 116, 97, 99, 104, 109, 101, 110, 116]
theorem att_head (X : List UInt8) : parseL (attB ++ 59 :: X) false = some ⟨attB, [], joinL (parsL (59 :: X).length (59 :: X))⟩ := by kernel_rfl
theorem parse_pieces (vb : Nat → UInt8) (ks : List Nat) (n : Nat) (h0 : 0 < n) (hn : n ≤ 12) (hlen : ks.length = n) (hlt : ∀ x ∈ ks, x < n) (hin : ∀ k, k < n → k ∈ ks) : parseL (attB ++ txtK vb ks) false = some ⟨attB, [], [(fnB, (List.range n).map vb)]⟩ := by
  rcases txtK_start vb ks with h | ⟨R, h⟩
  · cases ks with
    | nil => simp at hlen; omega
    | cons k ks =>
      rw [txtK_cons] at h
      cases h
  · have hp := parsK vb ks (txtK vb ks).length (fun x hx => Nat.lt_of_lt_of_le (hlt x hx) hn) (Nat.le_refl _)
    rw [h, att_head, ← h, hp, join_all vb ks n h0 hn hlen hlt hin]
def ksOf (n t i : Nat) : List Nat := (List.range i).map (fun j => (j + t) % n)
theorem ks_in {n t k : Nat} (h : k < n) : k ∈ ksOf n t n := by
  have hr : t % n < n := Nat.mod_lt _ (by omega)
  have hm : ∀ i, (i + t) % n = (i + t % n) % n := fun i => by rw [Nat.add_mod_mod]
  by_cases hk : t % n ≤ k
  · refine List.mem_map.2 ⟨k - t % n, by rw [List.mem_range]; omega, ?_⟩
    rw [hm, show k - t % n + t % n = k by omega]
    exact Nat.mod_eq_of_lt h
  · refine List.mem_map.2 ⟨k + n - t % n, by rw [List.mem_range]; omega, ?_⟩
    rw [hm, show k + n - t % n + t % n = k + n by omega, Nat.add_mod_right]
    exact Nat.mod_eq_of_lt h
theorem ks_lt {n t i : Nat} (h0 : 0 < n) : ∀ x ∈ ksOf n t i, x < n := by
  intro x hx
  obtain ⟨j, _, rfl⟩ := List.mem_map.1 hx
  exact Nat.mod_lt _ h0
theorem ks_succ (n t i : Nat) : ksOf n t (i + 1) = ksOf n t i ++ [(i + t) % n] := by simp [ksOf, List.range_succ]
theorem txtK_snoc (vb : Nat → UInt8) (ks : List Nat) (k : Nat) : txtK vb (ks ++ [k]) = txtK vb ks ++ entK k (vb k) := by simp [txtK]
theorem entK_len (k : Nat) (b : UInt8) : (entK k b).length ≤ 25 := by
  unfold entK preK hx2 utK digK fnB utfB
  split <;> split <;> simp
end Go.Proofs.YtcnihodikpcfkaaGreatDoor
