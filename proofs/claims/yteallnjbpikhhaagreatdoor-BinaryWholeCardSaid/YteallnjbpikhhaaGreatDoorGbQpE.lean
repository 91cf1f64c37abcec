/- Contracts of package qp: seen, byteOf. -/
import Derived.Test.YteallnjbpikhhaaGreatDoorProg
import Derived.Test.YteallnjbpikhhaaGreatDoorGbQpM
import Derived.LoopN
import Derived.Outline
import Derived.Test.YteallnjbpikhhaaGreatDoorShelf
import Derived.BigQuiet
import Derived.Deep.QuietTactic
import Derived.Test.YteallnjbpikhhaaGreatDoorShelf6
import Derived.Laws.AppendOwnNone
namespace Go.Proofs.YteallnjbpikhhaaGreatDoor
open Go Go.RowKit

theorem seen_anyQ (c : UInt8) (w : World) : Calls Tryz.prog 15 #[.int .u8 (c.toNat : Int)] w fun e w' => e = .returned (.bool (seenB c)) ∧ w = w' := by
  have hc := c.toNat_lt
  by_cases h1 : 33 ≤ c.toNat
  · by_cases h2 : c.toNat ≤ 126
    · have HE : Hid (seenB c = true) := (seenB_iff c).2 ⟨h1, h2⟩
      go_enter Tryz.func15, Tryz.ntmps15
      go_wp2
      go_ret
      exact ⟨ret_bool (by rw [HE.out]; simp; omega), rfl⟩
    · have HE : Hid (seenB c = false) := by unfold Hid; rw [← Bool.not_eq_true, seenB_iff]; omega
      go_enter Tryz.func15, Tryz.ntmps15
      go_wp2
      go_ret
      exact ⟨ret_bool (by rw [HE.out]; simp; omega), rfl⟩
  · have HE : Hid (seenB c = false) := by unfold Hid; rw [← Bool.not_eq_true, seenB_iff]; omega
    go_enter Tryz.func15, Tryz.ntmps15
    go_wp2
    go_ret
    exact ⟨ret_bool (by rw [HE.out]), rfl⟩

/-- Two digits. -/
def hex2 : List UInt8 → Bool
  | a :: b :: _ => decide (hexVQ a < 16 ∧ hexVQ b < 16)
  | _ => false
def hexW : List UInt8 → Nat
  | a :: b :: _ => hexVQ a * 16 + hexVQ b
  | _ => 0
/-- What the first k digits tell. -/
def hexP (l : List UInt8) : Nat → Nat
  | 0 => 0
  | k + 1 => hexP l k * 16 + hexVQ (l.getD k 0)
theorem or_u8Q (x y : Nat) (hx : x < 256) (hy : y < 256) : bits .or .u8 (x : Int) (y : Int) = ((x ||| y : Nat) : Int) := by
  have h := Nat.or_lt_two_pow (n := 8) hx hy
  show IntKind.u8.wrap ((BitVec.ofInt 8 (x : Int) ||| BitVec.ofInt 8 (y : Int)).toNat : Int) = _
  rw [BitVec.toNat_or, BitVec.ofInt_natCast, BitVec.ofInt_natCast, BitVec.toNat_ofNat, BitVec.toNat_ofNat, Nat.mod_eq_of_lt hx, Nat.mod_eq_of_lt hy]
  show ((x ||| y : Nat) : Int) % 256 = _
  omega
theorem or_hex {x y : Int} (a b : Nat) (h1 : x = ((a * 16 : Nat) : Int)) (h2 : y = (b : Int)) (ha : a < 16) (hb : b < 16) : bits .or .u8 x y = ((a * 16 + b : Nat) : Int) := by
  subst h1 h2
  rw [or_u8Q _ _ (by omega) (by omega)]
  have := or_add 4 a b (by omega)
  rw [show (16 : Nat) = 2 ^ 4 from rfl, this]
theorem hex_cases (c : UInt8) :
    (97 ≤ c.toNat ∧ c.toNat ≤ 102 ∧ Hid (hexVQ c = c.toNat - 87)) ∨
    (65 ≤ c.toNat ∧ c.toNat ≤ 70 ∧ Hid (hexVQ c = c.toNat - 55)) ∨
    (48 ≤ c.toNat ∧ c.toNat ≤ 57 ∧ Hid (hexVQ c = c.toNat - 48)) ∨
    (c.toNat < 48 ∧ Hid (hexVQ c = 16)) ∨ (57 < c.toNat ∧ c.toNat < 65 ∧ Hid (hexVQ c = 16)) ∨ (70 < c.toNat ∧ c.toNat < 97 ∧ Hid (hexVQ c = 16)) ∨ (102 < c.toNat ∧ Hid (hexVQ c = 16)) := by
  have h : ∀ n, hexVQ c = n ↔ Hid (hexVQ c = n) := fun n => Iff.rfl
  have : (97 ≤ c.toNat ∧ c.toNat ≤ 102) ∨ (65 ≤ c.toNat ∧ c.toNat ≤ 70) ∨ (48 ≤ c.toNat ∧ c.toNat ≤ 57) ∨ c.toNat < 48 ∨ (57 < c.toNat ∧ c.toNat < 65) ∨ (70 < c.toNat ∧ c.toNat < 97) ∨ 102 < c.toNat := by omega
  unfold hexVQ at *
  rcases this with ⟨a, b⟩ | ⟨a, b⟩ | ⟨a, b⟩ | a | ⟨a, b⟩ | ⟨a, b⟩ | a
  · refine .inl ⟨a, b, ?_⟩
    unfold Hid
    rw [if_neg (by omega), if_neg (by omega), if_pos (by omega)]
  · refine .inr (.inl ⟨a, b, ?_⟩)
    unfold Hid
    rw [if_neg (by omega), if_pos (by omega)]
  · refine .inr (.inr (.inl ⟨a, b, ?_⟩))
    unfold Hid
    rw [if_pos (by omega)]
  · refine .inr (.inr (.inr (.inl ⟨a, ?_⟩)))
    unfold Hid
    rw [if_neg (by omega), if_neg (by omega), if_neg (by omega)]
  · refine .inr (.inr (.inr (.inr (.inl ⟨a, b, ?_⟩))))
    unfold Hid
    rw [if_neg (by omega), if_neg (by omega), if_neg (by omega)]
  · refine .inr (.inr (.inr (.inr (.inr (.inl ⟨a, b, ?_⟩)))))
    unfold Hid
    rw [if_neg (by omega), if_neg (by omega), if_neg (by omega)]
  · refine .inr (.inr (.inr (.inr (.inr (.inr ⟨a, ?_⟩)))))
    unfold Hid
    rw [if_neg (by omega), if_neg (by omega), if_neg (by omega)]
/-- What byteOf answers. -/
def ByteOf (l : List UInt8) (w : World) (e : Ending) (w' : World) : Prop :=
  ∃ t : Nat, e = .returned (.tuple #[.int .u8 (t : Int), .bool (hex2 l)]) ∧ (hex2 l = true → t = hexW l) ∧ w = w'
theorem hexP_lt (l : List UInt8) (k : Nat) (hk : k < 2) (h : ∀ j, j < k → hexVQ (l.getD j 0) < 16) : hexP l k < 16 := by
  match k, hk with
  | 0, _ => simp [hexP]
  | 1, _ => simp only [hexP]; have := h 0 (by omega); omega
theorem hex2_of (l : List UInt8) (h2 : 2 ≤ l.length) (h : ∀ j, j < 2 → hexVQ (l.getD j 0) < 16) : hex2 l = true ∧ hexW l = hexP l 2 := by
  match l, h2 with
  | a :: b :: r, _ =>
    have h0 := h 0 (by omega)
    have h1 := h 1 (by omega)
    simp at h0 h1
    simp [hex2, hexW, hexP, h0, h1]
theorem hex2_short (l : List UInt8) (h2 : l.length < 2) : hex2 l = false := by
  match l, h2 with
  | [], _ => rfl
  | [_], _ => rfl
  | a :: b :: r, h => simp only [List.length_cons] at h; omega
theorem hex2_no (l : List UInt8) (k : Nat) (hk : k < 2) (h : hexVQ (l.getD k 0) = 16) : hex2 l = false := by
  match l with
  | [] => rfl
  | [_] => rfl
  | a :: b :: r =>
    match k, hk with
    | 0, _ => simp at h; simp [hex2, h]
    | 1, _ => simp at h; simp [hex2, h]

set_option maxHeartbeats 1000000 in
theorem byteOf_any (v : Value) (l : List UInt8) (w : World) (hv : bytesArg w v l) : Calls Tryz.prog 106 #[v] w (ByteOf l w) := by
  obtain ⟨ao, cap, rfl, hc, hm, hs⟩ := hv
  have HS : Hid (sliceAt w ao l) := hs
  clear hs
  unfold maxLen at hm
  go_enter Tryz.func106, Tryz.ntmps106
  go_wp2
  go_step3
  go_wp2
  go_step3
  go_wp2
  go_loop [4, 5] (fun t i => ∃ (k n : Nat), k ≤ 2 ∧ k ≤ l.length ∧ i = .int .i64 k ∧ t = .int .u8 n ∧ n < 256 ∧ (k < 2 → n < 16) ∧ Hid (n = hexP l k) ∧ Hid (∀ j, j < k → hexVQ (l.getD j 0) < 16)) (fun _ i => 2 - (intOf i).toNat)
  case atStart => exact ⟨0, 0, by omega, by omega, rfl, rfl, by omega, by omega, rfl, fun j hj => by omega⟩
  case round =>
    obtain ⟨k, n, hk, hkl, rfl, rfl, hn, hn2, HN, HK⟩ := hrel
    by_cases hk2 : k < 2
    · have hn16 := hn2 hk2
      clear hn2
      by_cases hlt : k < l.length
      · obtain ⟨b, off, rfl, hb, hcell⟩ := HS.out.cell k hlt
        obtain ⟨c, hcc⟩ : ∃ c, c = l[k] := ⟨_, rfl⟩
        rw [← hcc] at hcell
        have HC : Hid (l.getD k 0 = c) := by unfold Hid; rw [hcc]; simp [hlt]
        have hct := c.toNat_lt
        clear hcc
        rcases hex_cases c with ⟨h1, h2, HX⟩ | ⟨h1, h2, HX⟩ | ⟨h1, h2, HX⟩ | ⟨h1, HX⟩ | ⟨h1, h2, HX⟩ | ⟨h1, h2, HX⟩ | ⟨h1, HX⟩
        · obtain ⟨q, hq⟩ : ∃ q, q = hexVQ c := ⟨_, rfl⟩
          have hq16 : q < 16 := by rw [hq, HX.out]; omega
          have e0 : (q : Int) = (c.toNat : Int) - 87 := by rw [hq, HX.out]; omega
          have e1 := or_hex (x := (n : Int) * 16) (y := (c.toNat : Int) - 32 - 7 - 48) n q (by omega) (by omega) hn16 hq16
          have HQ := Lib.hid hq
          clear e0 hq
          go_wp2
          go_round
          case rel =>
            refine ⟨k + 1, n * 16 + q, by omega, by omega, by go_num, by go_num, by omega, ?_, ?_, ?_⟩
            · intro hk1
              obtain rfl : k = 0 := by omega
              have := HN.out
              simp only [hexP] at this
              omega
            · unfold Hid
              rw [HN.out, HQ.out]
              simp only [hexP]
              rw [HC.out]
            · intro j hj
              rcases Nat.lt_succ_iff_lt_or_eq.1 hj with h | rfl
              · exact HK.out j h
              · rw [HC.out, ← HQ.out]; exact hq16
          case measure => simp [intOf]; omega
        · obtain ⟨q, hq⟩ : ∃ q, q = hexVQ c := ⟨_, rfl⟩
          have hq16 : q < 16 := by rw [hq, HX.out]; omega
          have e0 : (q : Int) = (c.toNat : Int) - 55 := by rw [hq, HX.out]; omega
          have e1 := or_hex (x := (n : Int) * 16) (y := (c.toNat : Int) - 7 - 48) n q (by omega) (by omega) hn16 hq16
          have HQ := Lib.hid hq
          clear e0 hq
          go_wp2
          go_round
          case rel =>
            refine ⟨k + 1, n * 16 + q, by omega, by omega, by go_num, by go_num, by omega, ?_, ?_, ?_⟩
            · intro hk1
              obtain rfl : k = 0 := by omega
              have := HN.out
              simp only [hexP] at this
              omega
            · unfold Hid
              rw [HN.out, HQ.out]
              simp only [hexP]
              rw [HC.out]
            · intro j hj
              rcases Nat.lt_succ_iff_lt_or_eq.1 hj with h | rfl
              · exact HK.out j h
              · rw [HC.out, ← HQ.out]; exact hq16
          case measure => simp [intOf]; omega
        · obtain ⟨q, hq⟩ : ∃ q, q = hexVQ c := ⟨_, rfl⟩
          have hq16 : q < 16 := by rw [hq, HX.out]; omega
          have e0 : (q : Int) = (c.toNat : Int) - 48 := by rw [hq, HX.out]; omega
          have e1 := or_hex (x := (n : Int) * 16) (y := (c.toNat : Int) - 48) n q (by omega) (by omega) hn16 hq16
          have HQ := Lib.hid hq
          clear e0 hq
          go_wp2
          go_round
          case rel =>
            refine ⟨k + 1, n * 16 + q, by omega, by omega, by go_num, by go_num, by omega, ?_, ?_, ?_⟩
            · intro hk1
              obtain rfl : k = 0 := by omega
              have := HN.out
              simp only [hexP] at this
              omega
            · unfold Hid
              rw [HN.out, HQ.out]
              simp only [hexP]
              rw [HC.out]
            · intro j hj
              rcases Nat.lt_succ_iff_lt_or_eq.1 hj with h | rfl
              · exact HK.out j h
              · rw [HC.out, ← HQ.out]; exact hq16
          case measure => simp [intOf]; omega
        all_goals
          have HH : Hid (hex2 l = false) := hex2_no l k hk2 (by rw [HC.out]; exact HX.out)
          have ek : ((k : Int) == 2) = false := beq_no (by omega)
          go_wp2
          go_ret2
          exact ⟨n, by rw [HH.out]; first | rfl | rw [ek], (fun h => by rw [HH.out] at h; cases h), rfl⟩
      · have HH : Hid (hex2 l = false) := hex2_short l (by omega)
        have ek : ((k : Int) == 2) = false := beq_no (by omega)
        go_wp2
        go_ret2
        exact ⟨n, by rw [HH.out]; first | rfl | rw [ek], (fun h => by rw [HH.out] at h; cases h), rfl⟩
    · obtain rfl : k = 2 := by omega
      obtain ⟨h2, hw⟩ := hex2_of l hkl HK.out
      have HH := Lib.hid h2
      have HW := Lib.hid hw
      clear h2 hw hn2
      go_wp2
      go_ret2
      exact ⟨n, by rw [HH.out]; rfl, fun _ => by rw [HN.out, HW.out], rfl⟩
end Go.Proofs.YteallnjbpikhhaaGreatDoor

/- Contracts of package qp: appendTold. -/
namespace Go.Proofs.YteallnjbpikhhaaGreatDoor
open Go Go.RowKit

/-- What appendTold answers. -/
def Told (w0 : World) (o : Option (List UInt8)) (out : List UInt8) (e : Ending) (w' : World) : Prop :=
  Below w0.heap.size w0 w' ∧ match o with
    | some p => ∃ u, e = .returned (.tuple #[u, .bool true]) ∧ w'.ownsRow w0.heap.size 5 1 u (out ++ p).length ((out ++ p).map byteV)
    | none => e = .returned (.tuple #[.slice none 0 0, .bool false])

theorem hex2_iff (a b : UInt8) (r : List UInt8) : hex2 (a :: b :: r) = true ↔ hexVQ a < 16 ∧ hexVQ b < 16 := by simp [hex2]
theorem hexW_lt {l : List UInt8} (h : hex2 l = true) : hexW l < 256 := by
  match l, h with
  | a :: b :: r, h =>
    have := (hex2_iff a b r).1 h
    simp only [hexW]
    omega
  | [], h => cases h
  | [_], h => cases h
theorem hex2_len {l : List UInt8} (h : hex2 l = true) : 2 ≤ l.length := by
  match l, h with
  | a :: b :: r, h => simp
  | [], h => cases h
  | [_], h => cases h
theorem textS_yes {l : List UInt8} (h : hex2 l = true) : textSQ (61 :: l) = (textSQ (l.drop 2)).map (byteN (hexW l) :: ·) := by
  match l, h with
  | a :: b :: r, h => exact textS_hex a b r ((hex2_iff a b r).1 h)
  | [], h => cases h
  | [_], h => cases h
theorem textS_noQ {l : List UInt8} (h : hex2 l = false) : textSQ (61 :: l) = none := by
  match l, h with
  | a :: b :: r, h => exact textS_nohex a b r (fun h' => by rw [(hex2_iff a b r).2 h'] at h; cases h)
  | [], h => rfl
  | [_], h => rfl
theorem eq61_no {c : UInt8} (h : c ≠ 61) : ((c.toNat : Int) == 61) = false := beq_no fun e => h (toNat_eq (by show c.toNat = 61; omega))
theorem okB_cases (c : UInt8) : (seenB c = true ∧ Hid (okB c = true)) ∨ (seenB c = false ∧ ((c.toNat : Int) == 32) = true ∧ Hid (okB c = true)) ∨ (seenB c = false ∧ ((c.toNat : Int) == 32) = false ∧ ((c.toNat : Int) == 9) = true ∧ Hid (okB c = true)) ∨ (seenB c = false ∧ ((c.toNat : Int) == 32) = false ∧ ((c.toNat : Int) == 9) = false ∧ Hid (okB c = false)) := by
  unfold okB isBl
  rcases Bool.eq_false_or_eq_true (seenB c) with h | h
  · exact .inl ⟨h, by unfold Hid; rw [h]; rfl⟩
  by_cases h1 : c = 32
  · subst h1; exact .inr (.inl ⟨rfl, rfl, rfl⟩)
  by_cases h2 : c = 9
  · subst h2; exact .inr (.inr (.inl ⟨rfl, rfl, rfl, rfl⟩))
  refine .inr (.inr (.inr ⟨h, ?_, ?_, ?_⟩))
  · exact beq_no fun e => h1 (toNat_eq (by show c.toNat = 32; omega))
  · exact beq_no fun e => h2 (toNat_eq (by show c.toNat = 9; omega))
  · unfold Hid
    rw [h, beq_eq_false_iff_ne.2 h1, beq_eq_false_iff_ne.2 h2]
    rfl
/-- Where the round stands: what is still to tell is what is left of the whole. -/
def Left (l out0 r out : List UInt8) : Prop := (textSQ l).map (out0 ++ ·) = (textSQ r).map (out ++ ·)
theorem Left.refl (l out : List UInt8) : Left l out l out := rfl
theorem Left.keep {l out0 out : List UInt8} {c : UInt8} {r : List UInt8} (h : Left l out0 (c :: r) out) (h1 : c ≠ 61) (h2 : okB c = true) : Left l out0 r (out ++ [c]) := by
  unfold Left at *
  rw [h, textS_seen c r h2 h1]
  simp [Function.comp_def]
theorem Left.hex {l out0 out r : List UInt8} (h : Left l out0 (61 :: r) out) (h2 : hex2 r = true) : Left l out0 (r.drop 2) (out ++ [byteN (hexW r)]) := by
  unfold Left at *
  rw [h, textS_yes h2]
  simp [Function.comp_def]
theorem Left.none {l out0 out r : List UInt8} (h : Left l out0 r out) (h2 : textSQ r = none) : textSQ l = none := by
  unfold Left at h
  rw [h2] at h
  simpa using h
theorem Left.all {l out0 out : List UInt8} (h : Left l out0 [] out) : ∃ p, textSQ l = some p ∧ out0 ++ p = out := by
  unfold Left at h
  rw [show textSQ [] = some [] from rfl] at h
  simpa using h
theorem told_none {w0 w' : World} {l out : List UInt8} (hb : Below w0.heap.size w0 w') (h : textSQ l = none) : Told w0 (textSQ l) out (.returned (.tuple #[.slice none 0 0, .bool false])) w' := by
  rw [h]; exact ⟨hb, rfl⟩
theorem told_some {w0 w' : World} {l out0 out : List UInt8} {u : Value} (hb : Below w0.heap.size w0 w') (h : Left l out0 [] out) (ho : w'.ownsRow w0.heap.size 5 1 u out.length (out.map byteV)) : Told w0 (textSQ l) out0 (.returned (.tuple #[u, .bool true])) w' := by
  obtain ⟨p, h1, h2⟩ := h.all
  rw [h1]
  exact ⟨hb, u, rfl, by rw [h2]; exact ho⟩

set_option maxHeartbeats 800000 in
theorem appendTold_any (w0 w : World) (all : Value) (out0 l : List UInt8) (ao : Option Addr) (cap : Nat) (hb : Below w0.heap.size w0 w) (hown : w.ownsRow w0.heap.size 5 1 all out0.length (out0.map byteV)) (hs : sliceAt w0 ao l)
    (hc : l.length ≤ cap) (hm : cap ≤ maxLen) (hlen : out0.length + l.length ≤ 1000000) :
    Calls Tryz.prog 81 #[all, .slice ao l.length cap] w (Told w0 (textSQ l) out0) := by
  obtain ⟨i0, hi, hz0, hz1, hz2⟩ := info_parts Tryz.infoB
  unfold maxLen at hm
  have HS := Lib.hid hs
  have HB0 := Lib.hid hb
  have HO0 := Lib.hid hown
  clear hs hb hown
  go_enter Tryz.func81, Tryz.ntmps81
  go_wp2
  go_loopg [0, 1] l.length (fun n o v wr => ∃ (cp : Nat) (a : Option Addr) (r out : List UInt8), v = .slice a n cp ∧ n ≤ cp ∧ cp ≤ 2 ^ 63 - 1 ∧ out.length + n ≤ 1000000 ∧ wr.ownsRow w0.heap.size 5 1 o out.length (out.map byteV) ∧ Hid (r.length = n) ∧ Hid (sliceAt w0 a r) ∧ Hid (Below w0.heap.size w0 wr) ∧ Hid (Left l out0 r out))
  case atStart => exact ⟨cap, ao, l, out0, rfl, hc, hm, by omega, HO0.out, rfl, HS.out, HB0.out, Left.refl _ _⟩
  case round =>
    obtain ⟨cp, a, r, out, rfl, hncp, hcm, hol, hown, HN, HR, HB, HL⟩ := hrel
    have HO := Lib.hid hown
    clear hown
    rcases r with _ | ⟨c, r⟩
    · obtain rfl : gk = 0 := HN.out.symm
      go_wp2
      go_ret2
      exact told_some HB.out HL.out HO.out
    · have hg : gk = r.length + 1 := HN.out.symm
      subst hg
      obtain ⟨cq, rfl⟩ : ∃ cq, cp = cq + 1 := ⟨cp - 1, by omega⟩
      obtain ⟨b, off, rfl, hbl, hcell⟩ := HR.out.cell 0 (by simp)
      have hcell' : wr.cell? ⟨b, off, none⟩ = some (.int .u8 (c.toNat : Int)) := (HB.out.cell (p := ⟨b, off, none⟩) hbl).trans hcell
      clear hcell hbl
      have hct := c.toNat_lt
      by_cases h61 : c = 61
      · subst h61
        by_cases hx : hex2 r = true
        · have hl2 := hex2_len hx
          have HX := Lib.hid hx
          clear hx
          have HR1 : Hid (sliceAt w0 (some ⟨b, off + 1, none⟩) r) := HR.out.drop (k := 1)
          have HF := Lib.hid (byteOf_any _ r wr ((HR1.out.below HB.out).arg (cap := cq) (by omega) (by unfold maxLen; omega)))
          have hq : cq = 2 ∨ 2 < cq := by omega
          rcases hq with rfl | hq
          · have HR2 : Hid (sliceAt w0 (some ⟨b, off + 1, none⟩) (r.drop 2)) := .inl (List.drop_eq_nil_of_le (by omega))
            go_wp2_with fail
            with_reducible refine HF.out.mono ?_
            rintro e w1 ⟨tn, rfl, htn, rfl⟩
            rw [HX.out]
            have ht2 := hexW_lt HX.out
            have htn := htn HX.out
            rw [← htn] at ht2
            have HT := Lib.hid htn
            clear htn
            go_wp2_with (at_builtin; refine wpList_append_own _ rfl _ _ 22 rfl w0.heap.size 5 i0 (.int .u8 0) 1 1 Tryz.underlying22 hi hz0 hz1 hz2 rfl (by decide) _ _ _ rfl (HO.out.alloc _) ⟨wr.heap.size, 0, none⟩ 1 1 [byteV (byteN tn)] rfl rfl ?c1 ?c2 ?c3 ?c4 ?c5 ?_)
            case c1 => exact cell_byte wr _ rfl (by omega)
            case c2 => exact news_one [byteN tn]
            case c3 => unfold maxLen; omega
            case c4 => omega
            case c5 => simp; have := HB.out.size; omega
            intro v2 w2 hown2 hgrow2 _
            have HO2 := Lib.hid hown2
            have HB2 : Hid (Below w0.heap.size w0 w2) := (HB.out.alloc (by have := HB.out.size; omega) _).grown hgrow2 (by have := HB.out.size; simp; omega) (fun q hq => (HO.out.lt q hq).1)
            clear hown2 hgrow2
            go_wp2
            go_roundg (r.length - 2)
            case measure => omega
            case rel =>
              refine ⟨_, _, r.drop 2, out ++ [byteN tn], rfl, by omega, by omega, by simp; omega, own_cast HO2.out (by simp) (by simp), ?_, HR2, HB2, (by rw [HT.out]; exact HL.out.hex HX.out)⟩
              unfold Hid; simp
          · have HR2 : Hid (sliceAt w0 (some ⟨b, off + 1 + 2, none⟩) (r.drop 2)) := HR1.out.drop (k := 2)
            go_wp2_with fail
            with_reducible refine HF.out.mono ?_
            rintro e w1 ⟨tn, rfl, htn, rfl⟩
            rw [HX.out]
            have ht2 := hexW_lt HX.out
            have htn := htn HX.out
            rw [← htn] at ht2
            have HT := Lib.hid htn
            clear htn
            go_wp2_with (at_builtin; refine wpList_append_own _ rfl _ _ 22 rfl w0.heap.size 5 i0 (.int .u8 0) 1 1 Tryz.underlying22 hi hz0 hz1 hz2 rfl (by decide) _ _ _ rfl (HO.out.alloc _) ⟨wr.heap.size, 0, none⟩ 1 1 [byteV (byteN tn)] rfl rfl ?c1 ?c2 ?c3 ?c4 ?c5 ?_)
            case c1 => exact cell_byte wr _ rfl (by omega)
            case c2 => exact news_one [byteN tn]
            case c3 => unfold maxLen; omega
            case c4 => omega
            case c5 => simp; have := HB.out.size; omega
            intro v2 w2 hown2 hgrow2 _
            have HO2 := Lib.hid hown2
            have HB2 : Hid (Below w0.heap.size w0 w2) := (HB.out.alloc (by have := HB.out.size; omega) _).grown hgrow2 (by have := HB.out.size; simp; omega) (fun q hq => (HO.out.lt q hq).1)
            clear hown2 hgrow2
            go_wp2
            go_roundg (r.length - 2)
            case measure => omega
            case rel =>
              refine ⟨_, _, r.drop 2, out ++ [byteN tn], rfl, by omega, by omega, by simp; omega, own_cast HO2.out (by simp) (by simp), ?_, HR2, HB2, (by rw [HT.out]; exact HL.out.hex HX.out)⟩
              unfold Hid; simp
        · have hx' : hex2 r = false := by simpa using hx
          have HX := Lib.hid hx'
          clear hx hx'
          have hq : cq = 0 ∨ 0 < cq := by omega
          rcases hq with rfl | hq
          · obtain rfl : r = [] := List.eq_nil_of_length_eq_zero (by omega)
            have HF : Hid (Calls Tryz.prog 106 #[.slice (some ⟨b, off, none⟩) 0 0] wr (ByteOf [] wr)) := byteOf_any _ [] wr ((show sliceAt wr (some ⟨b, off, none⟩) [] from .inl rfl).arg (cap := 0) (by simp) (by decide))
            go_wp2_with fail
            with_reducible refine HF.out.mono ?_
            rintro e w1 ⟨tn, rfl, htn, rfl⟩
            rw [HX.out]
            clear htn
            go_wp2
            go_ret2
            exact told_none HB.out (HL.out.none (textS_noQ HX.out))
          · have HR1 : Hid (sliceAt w0 (some ⟨b, off + 1, none⟩) r) := HR.out.drop (k := 1)
            have HF := Lib.hid (byteOf_any _ r wr ((HR1.out.below HB.out).arg (cap := cq) (by omega) (by unfold maxLen; omega)))
            go_wp2_with fail
            with_reducible refine HF.out.mono ?_
            rintro e w1 ⟨tn, rfl, htn, rfl⟩
            rw [HX.out]
            clear htn
            go_wp2
            go_ret2
            exact told_none HB.out (HL.out.none (textS_noQ HX.out))
      · have t61 := eq61_no h61
        have H61 := Lib.hid h61
        clear h61
        have HF := Lib.hid (seen_anyQ c wr)
        have hq : cq = 0 ∨ 0 < cq := by omega
        rcases hq with rfl | hq
        · obtain rfl : r = [] := List.eq_nil_of_length_eq_zero (by omega)
          have HR1 : Hid (sliceAt w0 (some ⟨b, off, none⟩) []) := .inl rfl
          rcases okB_cases c with ⟨s1, HK⟩ | ⟨s1, s2, HK⟩ | ⟨s1, s2, s3, HK⟩ | ⟨s1, s2, s3, HK⟩
          iterate 3
            · have HS1 := Lib.hid s1
              clear s1
              go_wp2_with fail
              with_reducible refine HF.out.mono ?_
              rintro e w1 ⟨rfl, rfl⟩
              rw [HS1.out]
              go_wp2_with (at_builtin; refine wpList_append_own _ rfl _ _ 22 rfl w0.heap.size 5 i0 (.int .u8 0) 1 1 Tryz.underlying22 hi hz0 hz1 hz2 rfl (by decide) _ _ _ rfl (HO.out.alloc _) ⟨wr.heap.size, 0, none⟩ 1 1 [byteV (c)] rfl rfl ?c1 ?c2 ?c3 ?c4 ?c5 ?_)
              case c1 => exact cell_one_new wr _ _
              case c2 => exact news_one [c]
              case c3 => unfold maxLen; omega
              case c4 => omega
              case c5 => simp; have := HB.out.size; omega
              intro v2 w2 hown2 hgrow2 _
              have HO2 := Lib.hid hown2
              have HB2 : Hid (Below w0.heap.size w0 w2) := (HB.out.alloc (by have := HB.out.size; omega) _).grown hgrow2 (by have := HB.out.size; simp; omega) (fun q hq => (HO.out.lt q hq).1)
              clear hown2 hgrow2
              go_wp2
              go_roundg (0)
              case measure => omega
              case rel =>
                refine ⟨_, _, [], out ++ [c], rfl, by omega, by omega, by simp; omega, own_cast HO2.out (by simp) (by simp), ?_, HR1, HB2, (HL.out.keep H61.out HK.out)⟩
                unfold Hid; simp
          · have HS1 := Lib.hid s1
            clear s1
            go_wp2_with fail
            with_reducible refine HF.out.mono ?_
            rintro e w1 ⟨rfl, rfl⟩
            rw [HS1.out]
            go_wp2
            go_ret2
            exact told_none HB.out (HL.out.none (textS_bad c [] HK.out H61.out))
        · have HR1 : Hid (sliceAt w0 (some ⟨b, off + 1, none⟩) r) := HR.out.drop (k := 1)
          rcases okB_cases c with ⟨s1, HK⟩ | ⟨s1, s2, HK⟩ | ⟨s1, s2, s3, HK⟩ | ⟨s1, s2, s3, HK⟩
          iterate 3
            · have HS1 := Lib.hid s1
              clear s1
              go_wp2_with fail
              with_reducible refine HF.out.mono ?_
              rintro e w1 ⟨rfl, rfl⟩
              rw [HS1.out]
              go_wp2_with (at_builtin; refine wpList_append_own _ rfl _ _ 22 rfl w0.heap.size 5 i0 (.int .u8 0) 1 1 Tryz.underlying22 hi hz0 hz1 hz2 rfl (by decide) _ _ _ rfl (HO.out.alloc _) ⟨wr.heap.size, 0, none⟩ 1 1 [byteV (c)] rfl rfl ?c1 ?c2 ?c3 ?c4 ?c5 ?_)
              case c1 => exact cell_one_new wr _ _
              case c2 => exact news_one [c]
              case c3 => unfold maxLen; omega
              case c4 => omega
              case c5 => simp; have := HB.out.size; omega
              intro v2 w2 hown2 hgrow2 _
              have HO2 := Lib.hid hown2
              have HB2 : Hid (Below w0.heap.size w0 w2) := (HB.out.alloc (by have := HB.out.size; omega) _).grown hgrow2 (by have := HB.out.size; simp; omega) (fun q hq => (HO.out.lt q hq).1)
              clear hown2 hgrow2
              go_wp2
              go_roundg (r.length)
              case measure => omega
              case rel =>
                refine ⟨_, _, r, out ++ [c], rfl, by omega, by omega, by simp; omega, own_cast HO2.out (by simp) (by simp), ?_, HR1, HB2, (HL.out.keep H61.out HK.out)⟩
                unfold Hid; simp
          · have HS1 := Lib.hid s1
            clear s1
            go_wp2_with fail
            with_reducible refine HF.out.mono ?_
            rintro e w1 ⟨rfl, rfl⟩
            rw [HS1.out]
            go_wp2
            go_ret2
            exact told_none HB.out (HL.out.none (textS_bad c r HK.out H61.out))
end Go.Proofs.YteallnjbpikhhaaGreatDoor

/- Contracts of package qp: cutLine, textOf. -/
namespace Go.Proofs.YteallnjbpikhhaaGreatDoor
open Go Go.RowKit

def intsOfQ (l : List UInt8) : List Int := l.map fun b => (b.toNat : Int)
theorem intsOf_lenQ (l : List UInt8) : (intsOfQ l).length = l.length := by simp [intsOfQ]
theorem bytesOf_intsQ (l : List UInt8) : Lib.bytesOf (intsOfQ l) = l := by
  unfold Lib.bytesOf intsOfQ
  rw [List.map_map]
  conv => rhs; rw [← List.map_id l]
  apply List.map_congr_left
  intro b _
  apply toNat_eq
  have := b.toNat_lt
  simp
theorem sliceAt.intsQ {w : World} {ao : Option Addr} {l : List UInt8} (h : sliceAt w ao l) : Lib.BytesIn w ao l.length (intsOfQ l) := by
  intro hn
  rcases h with rfl | ⟨b, off, rfl, hb, hc⟩
  · simp at hn
  · refine ⟨b, off, rfl, fun i hi => ?_⟩
    rw [hc i hi]
    simp [byteV, intsOfQ, List.getD, hi]
theorem ints_byte (l : List UInt8) : ∀ x ∈ intsOfQ l, 0 ≤ x ∧ x < 256 := by
  intro x hx
  obtain ⟨b, _, rfl⟩ := List.mem_map.1 hx
  have := b.toNat_lt
  omega
theorem indexByte_feedQ : ∀ l : List UInt8, Lib.indexByte l 10 = if feedIQ l < l.length then (feedIQ l : Int) else -1
  | [] => rfl
  | c :: l => by
    have ih := indexByte_feedQ l
    unfold Lib.indexByte
    have e : feedIQ (c :: l) = if c == 10 then 0 else feedIQ l + 1 := by
      unfold feedIQ
      rw [List.findIdx_cons]
      cases c == 10 <;> rfl
    cases h : c == 10
    · have e' : feedIQ (c :: l) = feedIQ l + 1 := by rw [e, h]; rfl
      rw [e', List.length_cons, ih]
      simp only [Bool.false_eq_true, if_false]
      by_cases h1 : feedIQ l < l.length
      · rw [if_pos h1, if_neg (show ¬ ((feedIQ l : Int) == -1) = true by simp), if_pos (show feedIQ l + 1 < l.length + 1 by omega)]
        omega
      · rw [if_neg h1, if_neg (show ¬ feedIQ l + 1 < l.length + 1 by omega)]
        rfl
    · have e' : feedIQ (c :: l) = 0 := by rw [e, h]; rfl
      rw [e', List.length_cons, if_pos (show 0 < l.length + 1 by omega)]
      simp
theorem index_yesQ (ao : Option Addr) (cap : Nat) (l : List UInt8) (w : World) (hs : sliceAt w ao l) (h : feedIQ l < l.length) :
    Calls Tryz.prog 103 #[.slice ao l.length cap, .int .u8 10] w fun e w' => e = .returned (.int .i64 (feedIQ l : Int)) ∧ w = w' := by
  rcases hs with rfl | ⟨b, off, rfl, hb, hc⟩
  · simp at h
  · refine (Tryz.bytes_IndexByte_at ⟨b, off, none⟩ l.length cap (intsOfQ l) 10 w (intsOf_lenQ l) fun i hi => ?_).mono ?_
    · rw [Addr.add_lit, hc i hi]
      simp [byteV, intsOfQ, List.getD, hi]
    · rintro e w' ⟨rfl, rfl⟩
      refine ⟨ret_int ?_, rfl⟩
      rw [bytesOf_intsQ]
      exact (indexByte_feedQ l).trans (if_pos h)
theorem index_noQ (ao : Option Addr) (cap : Nat) (l : List UInt8) (w : World) (hs : sliceAt w ao l) (hne : l ≠ []) (h : ¬ feedIQ l < l.length) :
    Calls Tryz.prog 103 #[.slice ao l.length cap, .int .u8 10] w fun e w' => e = .returned (.int .i64 (-1)) ∧ w = w' := by
  rcases hs with rfl | ⟨b, off, rfl, hb, hc⟩
  · exact absurd rfl hne
  · refine (Tryz.bytes_IndexByte_at ⟨b, off, none⟩ l.length cap (intsOfQ l) 10 w (intsOf_lenQ l) fun i hi => ?_).mono ?_
    · rw [Addr.add_lit, hc i hi]
      simp [byteV, intsOfQ, List.getD, hi]
    · rintro e w' ⟨rfl, rfl⟩
      refine ⟨ret_int ?_, rfl⟩
      rw [bytesOf_intsQ]
      exact (indexByte_feedQ l).trans (if_neg h)

/-- What cutLine answers. -/
def Cut3 (w0 w : World) (l : List UInt8) (e : Ending) (w' : World) : Prop :=
  ∃ a1 c1 a2 c2 a3 c3, e = .returned (.tuple #[.slice a1 (lineL l).length c1, .slice a2 (endL l).length c2, .slice a3 (restL l).length c3]) ∧
    ((lineL l).length ≤ c1 ∧ c1 ≤ 2 ^ 63 - 1 ∧ sliceAt w0 a1 (lineL l)) ∧ ((endL l).length ≤ c2 ∧ c2 ≤ 2 ^ 63 - 1 ∧ sliceAt w0 a2 (endL l) ∧ (endL l = [] → a2 = none ∧ c2 = 0)) ∧ ((restL l).length ≤ c3 ∧ c3 ≤ 2 ^ 63 - 1 ∧ sliceAt w0 a3 (restL l)) ∧ ∃ n, w' = w.drewN n

theorem lineL_at {l : List UInt8} (h : feedIQ l < l.length) : lineL l = l.take (fromI l) ∧ (lineL l).length = fromI l := by
  have := fromI_le l
  unfold lineL
  rw [if_pos h]
  exact ⟨rfl, by rw [List.length_take]; omega⟩
theorem endL_at {l : List UInt8} (h : feedIQ l < l.length) : endL l = (l.drop (fromI l)).take (feedIQ l + 1 - fromI l) ∧ (endL l).length = feedIQ l + 1 - fromI l := by
  have := fromI_le l
  unfold endL
  rw [if_pos h]
  exact ⟨rfl, by rw [List.length_take, List.length_drop]; omega⟩
theorem restL_at' (l : List UInt8) : (restL l).length = l.length - (feedIQ l + 1) := by unfold restL; rw [List.length_drop]

theorem cut_ret {a1 a2 a3 : Option Addr} {c1 c2 c3 n1 n2 n3 m1 m2 m3 : Nat} (h1 : n1 = m1) (h2 : n2 = m2) (h3 : n3 = m3) : Ending.returned (.tuple #[.slice a1 n1 c1, .slice a2 n2 c2, .slice a3 n3 c3]) = .returned (.tuple #[.slice a1 m1 c1, .slice a2 m2 c2, .slice a3 m3 c3]) := by subst h1 h2 h3; rfl
set_option maxHeartbeats 1000000 in
theorem cutLine_any (w0 w : World) (ao : Option Addr) (cap : Nat) (l : List UInt8) (hb : Below w0.heap.size w0 w) (hs : sliceAt w0 ao l) (hne : l ≠ []) (hc : l.length ≤ cap) (hm : cap ≤ 2 ^ 63 - 1) :
    Calls Tryz.prog 79 #[.slice ao l.length cap] w (Cut3 w0 w l) := by
  have HS := Lib.hid hs
  have HB := Lib.hid hb
  by_cases h : feedIQ l < l.length
  · have HF := Lib.hid (index_yesQ ao cap l w (hs.below hb) h)
    obtain ⟨b, off, rfl, hbl, hc0⟩ := hs.cell 0 (by omega)
    have hfr := fromI_le l
    have HL1 := Lib.hid (lineL_at h)
    have HL2 := Lib.hid (endL_at h)
    have HL3 := Lib.hid (restL_at' l)
    have hprev : 0 < feedIQ l → w.cell? ⟨b, off + (feedIQ l - 1), none⟩ = some (.int .u8 ((l.getD (feedIQ l - 1) 0).toNat : Int)) := by
      intro h0
      obtain ⟨b', off', e, _, hc1⟩ := hs.cell (feedIQ l - 1) (by omega)
      cases e
      rw [hb.cell (p := ⟨b, off + (feedIQ l - 1), none⟩) hbl, hc1]
      simp [List.getD, show feedIQ l - 1 < l.length by omega]
    obtain ⟨x, hx⟩ : ∃ x, x = l.getD (feedIQ l - 1) 0 := ⟨_, rfl⟩
    rw [← hx] at hprev
    have hfd : fromI l = if 0 < feedIQ l ∧ x = 13 then feedIQ l - 1 else feedIQ l := by rw [hx]; rfl
    obtain ⟨F, hF⟩ : ∃ F, F = feedIQ l := ⟨_, rfl⟩
    obtain ⟨G, hG⟩ : ∃ G, G = fromI l := ⟨_, rfl⟩
    have HFG := Lib.hid (And.intro hF hG)
    rw [← hF] at h hfr HF HL2 HL3 hprev hfd
    rw [← hG] at hfr HL1 HL2 hfd
    clear hs hb hc0 hx hF hG
    have hg : (F = 0 ∧ G = 0) ∨ (∃ q, F = q + 1 ∧ x = 13 ∧ G = q) ∨ (∃ q, F = q + 1 ∧ x ≠ 13 ∧ G = q + 1) := by
      by_cases h0 : F = 0
      · exact .inl ⟨h0, by rw [hfd, h0]; rfl⟩
      · by_cases h13 : x = 13
        · exact .inr (.inl ⟨F - 1, by omega, h13, by rw [hfd, if_pos ⟨by omega, h13⟩]⟩)
        · exact .inr (.inr ⟨F - 1, by omega, h13, by rw [hfd, if_neg (fun h => h13 h.2)]; omega⟩)
    clear hfd
    rcases hg with ⟨rfl, rfl⟩ | ⟨q, rfl, rfl, rfl⟩ | ⟨q, rfl, h13, rfl⟩
    · have HA2 : Hid (restL l = l.drop (0 + 1)) := by have := HFG.out.1; unfold Hid restL; rw [← this]
      clear hprev
      by_cases hcp : cap = 0 + 1
      · subst hcp
        go_enter Tryz.func79, Tryz.ntmps79
        go_wp2_with fail
        with_reducible refine HF.out.mono ?_
        rintro e w1 ⟨rfl, rfl⟩
        go_wp2
        go_quiet (fail)
        go_wp2
        go_ret3
        obtain ⟨e1, f1⟩ := HL1.out
        obtain ⟨e2, f2⟩ := HL2.out
        have f3 := HL3.out
        refine ⟨_, _, _, _, _, _, cut_ret ?_ ?_ ?_, ⟨?_, ?_, ?_⟩, ⟨?_, ?_, ?_, fun h => absurd (congrArg List.length h) (by rw [f2, List.length_nil]; omega)⟩, ⟨?_, ?_, ?_⟩, _, rfl⟩
        any_goals omega
        · rw [e1]; exact HS.out.take _
        · rw [e2]; exact (HS.out.drop (k := 0)).take _
        · exact .inl (List.eq_nil_of_length_eq_zero (by omega))
      · have hcp2 : 0 + 1 < cap := by omega
        clear hcp
        go_enter Tryz.func79, Tryz.ntmps79
        go_wp2_with fail
        with_reducible refine HF.out.mono ?_
        rintro e w1 ⟨rfl, rfl⟩
        go_wp2
        go_quiet (fail)
        go_wp2
        go_ret3
        obtain ⟨e1, f1⟩ := HL1.out
        obtain ⟨e2, f2⟩ := HL2.out
        have f3 := HL3.out
        refine ⟨_, _, _, _, _, _, cut_ret ?_ ?_ ?_, ⟨?_, ?_, ?_⟩, ⟨?_, ?_, ?_, fun h => absurd (congrArg List.length h) (by rw [f2, List.length_nil]; omega)⟩, ⟨?_, ?_, ?_⟩, _, rfl⟩
        any_goals omega
        · rw [e1]; exact HS.out.take _
        · rw [e2]; exact (HS.out.drop (k := 0)).take _
        · rw [HA2.out]; exact HS.out.drop
    · have HA2 : Hid (restL l = l.drop (G + 1 + 1)) := by have := HFG.out.1; unfold Hid restL; rw [← this]
      have hp := hprev (by omega)
      clear hprev
      simp only [Nat.add_sub_cancel] at hp
      by_cases hcp : cap = G + 1 + 1
      · subst hcp
        go_enter Tryz.func79, Tryz.ntmps79
        go_wp2_with fail
        with_reducible refine HF.out.mono ?_
        rintro e w1 ⟨rfl, rfl⟩
        go_wp2
        go_quiet (fail)
        go_wp2
        go_ret3
        obtain ⟨e1, f1⟩ := HL1.out
        obtain ⟨e2, f2⟩ := HL2.out
        have f3 := HL3.out
        refine ⟨_, _, _, _, _, _, cut_ret ?_ ?_ ?_, ⟨?_, ?_, ?_⟩, ⟨?_, ?_, ?_, fun h => absurd (congrArg List.length h) (by rw [f2, List.length_nil]; omega)⟩, ⟨?_, ?_, ?_⟩, _, rfl⟩
        any_goals omega
        · rw [e1]; exact HS.out.take _
        · rw [e2]; exact (HS.out.drop (k := G)).take _
        · exact .inl (List.eq_nil_of_length_eq_zero (by omega))
      · have hcp2 : G + 1 + 1 < cap := by omega
        clear hcp
        go_enter Tryz.func79, Tryz.ntmps79
        go_wp2_with fail
        with_reducible refine HF.out.mono ?_
        rintro e w1 ⟨rfl, rfl⟩
        go_wp2
        go_quiet (fail)
        go_wp2
        go_ret3
        obtain ⟨e1, f1⟩ := HL1.out
        obtain ⟨e2, f2⟩ := HL2.out
        have f3 := HL3.out
        refine ⟨_, _, _, _, _, _, cut_ret ?_ ?_ ?_, ⟨?_, ?_, ?_⟩, ⟨?_, ?_, ?_, fun h => absurd (congrArg List.length h) (by rw [f2, List.length_nil]; omega)⟩, ⟨?_, ?_, ?_⟩, _, rfl⟩
        any_goals omega
        · rw [e1]; exact HS.out.take _
        · rw [e2]; exact (HS.out.drop (k := G)).take _
        · rw [HA2.out]; exact HS.out.drop
    · have HA2 : Hid (restL l = l.drop (q + 1 + 1)) := by have := HFG.out.1; unfold Hid restL; rw [← this]
      have hp := hprev (by omega)
      clear hprev
      simp only [Nat.add_sub_cancel] at hp
      have t13 : ((x.toNat : Int) == 13) = false := beq_no fun e => h13 (toNat_eq (by show x.toNat = 13; omega))
      clear h13
      by_cases hcp : cap = q + 1 + 1
      · subst hcp
        go_enter Tryz.func79, Tryz.ntmps79
        go_wp2_with fail
        with_reducible refine HF.out.mono ?_
        rintro e w1 ⟨rfl, rfl⟩
        go_wp2
        go_quiet (fail)
        go_wp2
        go_ret3
        obtain ⟨e1, f1⟩ := HL1.out
        obtain ⟨e2, f2⟩ := HL2.out
        have f3 := HL3.out
        refine ⟨_, _, _, _, _, _, cut_ret ?_ ?_ ?_, ⟨?_, ?_, ?_⟩, ⟨?_, ?_, ?_, fun h => absurd (congrArg List.length h) (by rw [f2, List.length_nil]; omega)⟩, ⟨?_, ?_, ?_⟩, _, rfl⟩
        any_goals omega
        · rw [e1]; exact HS.out.take _
        · rw [e2]; exact (HS.out.drop (k := q + 1)).take _
        · exact .inl (List.eq_nil_of_length_eq_zero (by omega))
      · have hcp2 : q + 1 + 1 < cap := by omega
        clear hcp
        go_enter Tryz.func79, Tryz.ntmps79
        go_wp2_with fail
        with_reducible refine HF.out.mono ?_
        rintro e w1 ⟨rfl, rfl⟩
        go_wp2
        go_quiet (fail)
        go_wp2
        go_ret3
        obtain ⟨e1, f1⟩ := HL1.out
        obtain ⟨e2, f2⟩ := HL2.out
        have f3 := HL3.out
        refine ⟨_, _, _, _, _, _, cut_ret ?_ ?_ ?_, ⟨?_, ?_, ?_⟩, ⟨?_, ?_, ?_, fun h => absurd (congrArg List.length h) (by rw [f2, List.length_nil]; omega)⟩, ⟨?_, ?_, ?_⟩, _, rfl⟩
        any_goals omega
        · rw [e1]; exact HS.out.take _
        · rw [e2]; exact (HS.out.drop (k := q + 1)).take _
        · rw [HA2.out]; exact HS.out.drop
  · have HF := Lib.hid (index_noQ ao cap l w (hs.below hb) hne h)
    have h1 : feedIQ l = l.length := by have := feedI_leQ l; omega
    have hl : lineL l = l ∧ endL l = [] ∧ restL l = [] := by
      unfold lineL endL restL
      rw [if_neg h, if_neg h, h1]
      simp
    have HL := Lib.hid hl
    clear hl h1 h hs hb
    go_enter Tryz.func79, Tryz.ntmps79
    go_wp2_with fail
    with_reducible refine HF.out.mono ?_
    rintro e w1 ⟨rfl, rfl⟩
    go_wp2
    go_ret3
    obtain ⟨e1, e2, e3⟩ := HL.out
    exact ⟨_, _, _, _, _, _, by rw [e1, e2, e3]; rfl, ⟨by rw [e1]; exact hc, hm, by rw [e1]; exact HS.out⟩, ⟨by rw [e2]; exact Nat.le_refl _, by omega, .inl e2, fun _ => ⟨rfl, rfl⟩⟩, ⟨by rw [e3]; exact Nat.le_refl _, by omega, .inl e3⟩, 0, rfl⟩
end Go.Proofs.YteallnjbpikhhaaGreatDoor

/- Contracts of package qp: textOf, Decode. -/
namespace Go.Proofs.YteallnjbpikhhaaGreatDoor
open Go Go.RowKit

theorem trimB_lib (l : List UInt8) : Lib.trimRightS l [32, 9] = trimB l := by
  unfold Lib.trimRightS trimB
  have : (fun c : UInt8 => [32, 9].contains c) = isBl := by
    funext c
    unfold isBl
    rw [Bool.eq_iff_iff]
    simp
  rw [this]
theorem trimB_prefix (l : List UInt8) : trimB l <+: l := by
  have h := List.dropWhile_suffix isBl (l := l.reverse)
  have := List.reverse_prefix.2 h
  rwa [List.reverse_reverse] at this
theorem txtL_prefix (l : List UInt8) : txtL l <+: l := by
  unfold txtL
  split
  · exact (List.dropLast_prefix _).trans (trimB_prefix l)
  · exact trimB_prefix l
theorem sliceAt.pre {w : World} {ao : Option Addr} {l p : List UInt8} (h : sliceAt w ao l) (hp : p <+: l) : sliceAt w ao p := by
  rw [List.prefix_iff_eq_take.1 hp]
  exact h.take _
theorem soft_lib (l : List UInt8) : Lib.hasSuffix (trimB l) [61] = softL l := by
  unfold Lib.hasSuffix softL
  rcases List.eq_nil_or_concat (trimB l) with h | ⟨t, x, h⟩
  · rw [h]; rfl
  · rw [h, List.concat_eq_append]
    rw [Bool.eq_iff_iff, List.isSuffixOf_iff_suffix]
    simp
    exact eq_comm
theorem txtL_len (l : List UInt8) : (txtL l).length = if softL l = true then (trimB l).length - 1 else (trimB l).length := by
  unfold txtL
  split
  · rw [List.length_dropLast]
  · rfl
theorem cut_text (ao : Option Addr) (cap d B : Nat) (l : List UInt8) (W : World) (hs : sliceAt W ao (trimB l)) (h1 : sliceAt W (some ⟨B, 0, none⟩) [61]) (hc : (trimB l).length ≤ cap) (hm : cap ≤ 2 ^ 63 - 1) :
    Calls Tryz.prog 104 #[.slice ao (trimB l).length cap, .slice (some ⟨B, 0, none⟩) 1 d] W fun e W' => e = .returned (.tuple #[.slice ao (txtL l).length cap, .bool (softL l)]) ∧ W = W' := by
  refine (Tryz.bytes_CutSuffix_all ao (some ⟨B, 0, none⟩) (trimB l).length cap 1 d (intsOfQ (trimB l)) (intsOfQ [61]) W (intsOf_lenQ _) rfl hc (by omega) hs.intsQ h1.intsQ).mono ?_
  rintro e w' ⟨rfl, rfl⟩
  refine ⟨?_, rfl⟩
  have e2 : Lib.hasSuffix (Lib.bytesOf (intsOfQ (trimB l))) (Lib.bytesOf (intsOfQ [61])) = softL l := by rw [bytesOf_intsQ, bytesOf_intsQ]; exact soft_lib l
  have e1 : Lib.trimSuffixV ao (trimB l).length cap (intsOfQ (trimB l)) (intsOfQ [61]) = .slice ao (txtL l).length cap := by
    rcases hs with h | ⟨b, off, rfl, _, _⟩
    · have h2 : softL l = false := by unfold softL; rw [h]; rfl
      have h3 := txtL_len l
      rw [h2, h] at h3
      have h4 : Lib.hasSuffix (Lib.bytesOf (intsOfQ (trimB l))) (Lib.bytesOf [61]) = false := by rw [bytesOf_intsQ, h]; rfl
      rw [h3, h]
      rcases ao with _ | ⟨b, o, _ | s⟩
      · rfl
      · show Lib.bytesTrimSuffix b o 0 cap (intsOfQ []) [61] = _
        unfold Lib.bytesTrimSuffix
        rw [h] at h4
        rw [h4]
        rfl
      · rfl
    · show Lib.bytesTrimSuffix b off (trimB l).length cap (intsOfQ (trimB l)) (intsOfQ [61]) = _
      unfold Lib.bytesTrimSuffix
      rw [e2, txtL_len]
      cases softL l <;> rfl
  rw [e1, e2]

set_option maxHeartbeats 400000 in
theorem textOf_any (ao : Option Addr) (cap : Nat) (l : List UInt8) (w : World) (hs : sliceAt w ao l) (hc : l.length ≤ cap) (hm : cap ≤ 2 ^ 63 - 1) :
    Calls Tryz.prog 80 #[.slice ao l.length cap] w fun e w' => e = .returned (.tuple #[.slice ao (txtL l).length cap, .bool (softL l)]) ∧ Below w.heap.size w w' := by
  have hcon := Tryz.bytes_TrimRight_blank ao l.length cap (intsOfQ l) w (intsOf_lenQ l) hc (by omega) hs.intsQ (ints_byte l)
  rw [bytesOf_intsQ, trimB_lib] at hcon
  have HF := Lib.hid hcon
  have HS := Lib.hid (hs.pre (trimB_prefix l))
  have hk : (trimB l).length ≤ l.length := (trimB_prefix l).length_le
  obtain ⟨q, hq⟩ : ∃ q, q = softL l := ⟨_, rfl⟩
  obtain ⟨n, hn⟩ : ∃ n, n = (txtL l).length := ⟨_, rfl⟩
  have HC := Lib.hid (fun (W : World) (B : Nat) (h1 : sliceAt W ao (trimB l)) (h2 : sliceAt W (some ⟨B, 0, none⟩) [61]) => cut_text ao cap 1 B l W h1 h2 (by omega) hm)
  rw [← hq, ← hn] at HC ⊢
  obtain ⟨k, hk2⟩ : ∃ k, k = (trimB l).length := ⟨_, rfl⟩
  rw [← hk2] at HC HF hk
  clear hcon hs hq hn hk2
  go_enter Tryz.func80, Tryz.ntmps80
  go_wp2_with fail
  with_reducible refine HF.out.mono ?_
  rintro e w1 ⟨rfl, hb1⟩
  have HB1 := Lib.hid hb1
  have HC1 := Lib.hid (HC.out (w1.alloc (.cells #[.int .u8 61] 5)) w1.heap.size (HS.out.below (hb1.alloc hb1.size _)) (sliceAt_new w1 5 (0, 0) #[.int .u8 61] [61] rfl))
  clear hb1
  go_wp2_with fail
  with_reducible refine HC1.out.mono ?_
  rintro e w2 ⟨rfl, rfl⟩
  go_wp2
  go_ret2
  exact ⟨rfl, HB1.out.alloc HB1.out.size _⟩
end Go.Proofs.YteallnjbpikhhaaGreatDoor

/- Contracts of package qp: Decode. -/
namespace Go.Proofs.YteallnjbpikhhaaGreatDoor
open Go Go.RowKit

theorem textS_len : ∀ (n : Nat) (t p : List UInt8), t.length ≤ n → textSQ t = some p → p.length ≤ t.length
  | _, [], p, _, h => by cases h; exact Nat.le_refl _
  | 0, c :: r, p, hn, _ => by simp at hn
  | n + 1, c :: r, p, hn, h => by
    by_cases h61 : c = 61
    · subst h61
      cases hx : hex2 r
      · rw [textS_noQ hx] at h; cases h
      · rw [textS_yes hx] at h
        obtain ⟨q, hq, rfl⟩ := Option.map_eq_some_iff.1 h
        have h2 := hex2_len hx
        have := textS_len n (r.drop 2) q (by simp at hn ⊢; omega) hq
        simp at this ⊢
        omega
    · cases hk : okB c
      · rw [textS_bad c r hk h61] at h; cases h
      · rw [textS_seen c r hk h61] at h
        obtain ⟨q, hq, rfl⟩ := Option.map_eq_some_iff.1 h
        have := textS_len n r q (by simp at hn; omega) hq
        simp
        omega
theorem parts_len (l : List UInt8) : (lineL l).length + (endL l).length + (restL l).length = l.length := by
  have h3 := restL_at' l
  have hf := feedI_leQ l
  by_cases h1 : feedIQ l < l.length
  · have e1 := (lineL_at h1).2
    have e2 := (endL_at h1).2
    have := fromI_le l
    omega
  · have e1 : lineL l = l := by unfold lineL; rw [if_neg h1]
    have e2 : endL l = [] := by unfold endL; rw [if_neg h1]
    rw [e1, e2, List.length_nil]
    omega
/-- What is still to tell. -/
def LeftQ (l r out : List UInt8) : Prop := decQ l = (decQ r).map (out ++ ·)
theorem LeftQ.refl (l : List UInt8) : LeftQ l l [] := by unfold LeftQ; simp
theorem LeftQ.step {l r out p : List UInt8} (h : LeftQ l r out) (h0 : r ≠ []) (ht : textSQ (txtL (lineL r)) = some p) : LeftQ l (restL r) (out ++ p ++ tailL r) := by
  unfold LeftQ at *
  rw [h, decQ_some h0 ht]
  simp [Function.comp_def]
theorem LeftQ.stop {l r out : List UInt8} (h : LeftQ l r out) (h0 : r ≠ []) (ht : textSQ (txtL (lineL r)) = none) : decQ l = none := by
  unfold LeftQ at h
  rw [h, decQ_none h0 ht]
  rfl
theorem LeftQ.done {l out : List UInt8} (h : LeftQ l [] out) : decQ l = some out := by
  unfold LeftQ at h
  rw [h, decQ_nil]
  simp
/-- What Decode answers. -/
def Decoded (w : World) (o : Option (List UInt8)) (e : Ending) (w' : World) : Prop :=
  Below w.heap.size w w' ∧ ∃ u, e = .returned (.tuple #[u, .bool o.isSome]) ∧ w'.ownsRow w.heap.size 5 1 u (o.getD []).length ((o.getD []).map byteV)
theorem decoded_none {w w' : World} {l : List UInt8} (hb : Below w.heap.size w w') (h : decQ l = none) : Decoded w (decQ l) (.returned (.tuple #[.slice none 0 0, .bool false])) w' := by
  rw [h]
  exact ⟨hb, _, rfl, World.ownsRow_nil _ _ _ _⟩
theorem decoded_some {w w' : World} {l out : List UInt8} {u : Value} (hb : Below w.heap.size w w') (h : LeftQ l [] out) (ho : w'.ownsRow w.heap.size 5 1 u out.length (out.map byteV)) : Decoded w (decQ l) (.returned (.tuple #[u, .bool true])) w' := by
  rw [h.done]
  exact ⟨hb, u, rfl, ho⟩

set_option maxHeartbeats 2000000 in
theorem decode_anyQ (v : Value) (l : List UInt8) (w : World) (hv : bytesArg w v l) (hl : l.length ≤ 1000000) : Calls Tryz.prog 51 #[v] w (Decoded w (decQ l)) := by
  obtain ⟨i0, hi, hz0, hz1, hz2⟩ := info_parts Tryz.infoB
  obtain ⟨ao, cap, rfl, hc, hm, hs⟩ := hv
  have HS : Hid (sliceAt w ao l) := hs
  clear hs
  unfold maxLen at hm
  go_enter Tryz.func51, Tryz.ntmps51
  go_wp2
  go_loopg [0, 4] l.length (fun g v o wr => ∃ (cp : Nat) (a : Option Addr) (r out : List UInt8), v = .slice a g cp ∧ g ≤ cp ∧ cp ≤ 2 ^ 63 - 1 ∧ out.length + g ≤ 1000000 ∧ wr.ownsRow w.heap.size 5 1 o out.length (out.map byteV) ∧ Hid (r.length = g) ∧ Hid (sliceAt w a r) ∧ Hid (Below w.heap.size w wr) ∧ Hid (LeftQ l r out))
  case atStart => exact ⟨cap, ao, l, [], rfl, hc, hm, by simp; omega, World.ownsRow_nil _ _ _ _, rfl, HS.out, Below.refl _ _, LeftQ.refl l⟩
  case round =>
    obtain ⟨cp, a, r, out, rfl, hgc, hcm, hol, hown, HN, HR, HB, HL⟩ := hrel
    have HO := Lib.hid hown
    clear hown
    by_cases h0 : r = []
    · subst h0
      obtain rfl : gk = 0 := HN.out.symm
      go_wp2
      go_ret2
      exact decoded_some HB.out HL.out HO.out
    · have hg : gk = r.length := HN.out.symm
      subst hg
      have hpos : 0 < r.length := List.length_pos_iff.2 h0
      have H0 := Lib.hid h0
      have hparts := parts_len r
      have hrl := restL_len r h0
      have HC := Lib.hid (cutLine_any w wr a cp r HB.out HR.out h0 hgc hcm)
      clear h0
      go_wp2_with fail
      with_reducible refine HC.out.mono ?_
      rintro e w1 ⟨a1, c1, a2, c2, a3, c3, rfl, ⟨p1, p2, s1⟩, ⟨q1, q2, s2, q4⟩, ⟨r1, r2, s3⟩, n, rfl⟩
      have HS1 := Lib.hid s1
      have HS2 := Lib.hid s2
      have HS3 := Lib.hid s3
      have HQ4 := Lib.hid q4
      have HB1 : Hid (Below w.heap.size w (wr.drewN n)) := HB.out.trans ((below_drewN' n).mono HB.out.size)
      have HO1 : Hid ((wr.drewN n).ownsRow w.heap.size 5 1 _ out.length (out.map byteV)) := ownsRow_below HO.out (below_drewN' n)
      obtain ⟨w1, hw1⟩ : ∃ w1, w1 = wr.drewN n := ⟨_, rfl⟩
      rw [← hw1] at HB1 HO1 ⊢
      clear s1 s2 s3 q4 hw1
      have HT := Lib.hid (textOf_any a1 c1 (lineL r) w1 (HS1.out.below HB1.out) p1 p2)
      go_wp2_with fail
      with_reducible refine HT.out.mono ?_
      rintro e w2 ⟨rfl, hb2⟩
      have htl : (txtL (lineL r)).length ≤ (lineL r).length := (txtL_prefix _).length_le
      have HB2 : Hid (Below w.heap.size w w2) := HB1.out.trans (hb2.mono HB1.out.size)
      have HO2 := Lib.hid (ownsRow_below HO1.out hb2)
      clear hb2
      have HA := Lib.hid (appendTold_any w w2 _ out (txtL (lineL r)) a1 c1 HB2.out HO2.out (HS1.out.pre (txtL_prefix _)) (by omega) (by unfold maxLen; omega) (by omega))
      go_wp2_with fail
      with_reducible refine HA.out.mono ?_
      rintro e w3 ⟨hb3, ht⟩
      have HB3 := Lib.hid hb3
      clear hb3
      obtain ⟨oo, hoo⟩ : ∃ oo, textSQ (txtL (lineL r)) = oo := ⟨_, rfl⟩
      rw [hoo] at ht
      have HOO := Lib.hid hoo
      clear hoo
      cases oo with
      | none =>
        obtain rfl : e = _ := ht
        go_wp2
        go_ret2
        exact decoded_none HB3.out (HL.out.stop H0.out HOO.out)
      | some p =>
        obtain ⟨u, rfl, hown3⟩ := ht
        have HO3 := Lib.hid hown3
        have hp := textS_len _ _ _ (Nat.le_refl _) HOO.out
        have HLS := Lib.hid (HL.out.step H0.out HOO.out)
        clear hown3
        cases hq : softL (lineL r)
        · have HTL : Hid (tailL r = endL r) := by unfold Hid tailL; rw [hq]; rfl
          by_cases he : endL r = []
          · obtain ⟨rfl, rfl⟩ := HQ4.out he
            have HE := Lib.hid he
            have e0 : (endL r).length = 0 := by rw [he]; rfl
            clear he
            go_wp2_with (at_builtin; refine wpList_append_own_none rfl _ _ 22 rfl w.heap.size 5 i0 1 Tryz.underlying22 hi _ _ _ rfl HO3.out (by rw [← e0]; rfl) ?_)
            go_wp2
            go_roundg (restL r).length
            case measure => omega
            case rel => exact ⟨_, _, restL r, out ++ p, rfl, r1, r2, by simp; omega, HO3.out, rfl, HS3.out, HB3.out, by have := HLS.out; rw [HTL.out, HE.out, List.append_nil] at this; exact this⟩
          · have HE := Lib.hid he
            have he' : 0 < (endL r).length := List.length_pos_iff.2 he
            obtain ⟨b2, off2, rfl, _, _⟩ := HS2.out.cell 0 he'
            have HN2 := Lib.hid ((HS2.out.below HB3.out).news)
            clear he
            go_wp2_with (at_builtin; refine wpList_append_own _ rfl _ _ 22 rfl w.heap.size 5 i0 (.int .u8 0) 1 1 Tryz.underlying22 hi hz0 hz1 hz2 rfl (by decide) _ _ _ rfl HO3.out ⟨b2, off2, none⟩ (endL r).length c2 ((endL r).map byteV) rfl (by simp) HN2.out (news_one _) (by unfold maxLen; simp; omega) (by simp; omega) HB3.out.size ?_)
            intro v4 w4 hown4 hgrow4 _
            have HO4 := Lib.hid hown4
            have HB4 : Hid (Below w.heap.size w w4) := HB3.out.grown hgrow4 HB3.out.size (fun q hq => (HO3.out.lt q hq).1)
            clear hown4 hgrow4
            go_wp2
            go_roundg (restL r).length
            case measure => omega
            case rel => exact ⟨_, _, restL r, out ++ p ++ endL r, rfl, r1, r2, by simp; omega, own_cast HO4.out (by simp; omega) (by simp), rfl, HS3.out, HB4.out, by have := HLS.out; rw [HTL.out] at this; exact this⟩
        · have HTL : Hid (tailL r = []) := by unfold Hid tailL; rw [hq]; rfl
          go_wp2
          go_roundg (restL r).length
          case measure => omega
          case rel => exact ⟨_, _, restL r, out ++ p, rfl, r1, r2, by simp; omega, HO3.out, rfl, HS3.out, HB3.out, by have := HLS.out; rw [HTL.out, List.append_nil] at this; exact this⟩
end Go.Proofs.YteallnjbpikhhaaGreatDoor
