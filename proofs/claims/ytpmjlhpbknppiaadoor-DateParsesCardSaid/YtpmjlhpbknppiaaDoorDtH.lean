/- Contracts of package date: the parts of a text between blanks and comments. -/
import Derived.Test.YtpmjlhpbknppiaaDoorDtG
import Derived.Test.YtpmjlhpbknppiaaDoorChars5
import Derived.Laws.OwnMore
import Derived.OwnWalk
namespace Go.Proofs.YtpmjlhpbknppiaaDoor
open Go Go.RowKit

def partB' (c : UInt8) : Bool := !blk c && c != 40
/-- What follows within a comment, so deep. -/
def cmt : Bool → Nat → List UInt8 → List UInt8
  | _, _, [] => []
  | true, d, _ :: r => cmt false d r
  | false, d, c :: r => if c = 92 then cmt true d r else if c = 40 then cmt false (d + 1) r else if c = 41 then (if d = 1 then r else cmt false (d - 1) r) else cmt false d r
def beh (d : Nat) (l : List UInt8) : List UInt8 := if d = 0 then (match l with
  | [] => []
  | c :: r => if c = 40 then cmt false 1 r else r) else cmt false d l
theorem cmt_len : ∀ (l : List UInt8) (e : Bool) (d : Nat), (cmt e d l).length ≤ l.length
  | [], e, d => by cases e <;> simp [cmt]
  | c :: r, true, d => by
    rw [cmt]
    exact Nat.le_trans (cmt_len r false d) (Nat.le_succ _)
  | c :: r, false, d => by
    rw [cmt]
    have h1 := cmt_len r true d
    have h2 := cmt_len r false (d + 1)
    have h3 := cmt_len r false (d - 1)
    have h4 := cmt_len r false d
    simp only [List.length_cons]
    split
    · omega
    · split
      · omega
      · split
        · split <;> omega
        · omega
theorem beh_len (l : List UInt8) (h : l ≠ []) : (beh 0 l).length < l.length := by
  cases l with
  | nil => exact absurd rfl h
  | cons c r =>
    simp only [beh, if_true, List.length_cons]
    have := cmt_len r false 1
    split <;> omega
def betL (n : Nat) (l : List UInt8) : List (List UInt8) := match n with
  | 0 => []
  | n + 1 => if l = [] then [] else (if l.takeWhile partB' = [] then [] else [l.takeWhile partB']) ++ betL n (beh 0 (l.drop (l.takeWhile partB').length))

theorem blk_of (c : UInt8) : blk c = decide (c.toNat = 32 ∨ c.toNat = 9) := by
  unfold blk
  by_cases h : c.toNat = 32 ∨ c.toNat = 9
  · rw [decide_eq_true h, decide_eq_true]
    omega
  · rw [decide_eq_false h, decide_eq_false]
    omega

set_option maxRecDepth 100000 in
set_option maxHeartbeats 2000000 in
theorem partEnd_any (s : ByteArray) (k0 : Nat) (hk0 : k0 ≤ s.size) (w : World) (hs : s.size ≤ 1000000000000) :
    Calls Tryd.prog 41 #[.string s, .int .i64 (k0 : Int)] w fun e w' => e = .returned (.int .i64 ((k0 + ((s.data.toList.drop k0).takeWhile partB').length : Nat) : Int)) ∧ w = w' := by
  have Hlen := Lib.hid (len_toList s)
  have HBy := Lib.hid (fun c w h => blank_yes c w h)
  have HBn := Lib.hid (fun c w h => blank_no c w h)
  go_enter Tryd.func41, Tryd.ntmps41
  go_wp2_with fail
  go_loopg [1] (s.size - k0) (fun q xi wr => ∃ k : Nat, k0 ≤ k ∧ k ≤ s.size ∧ q = s.size - k ∧ xi = .int .i64 (k : Int) ∧ w = wr ∧ Hid (((s.data.toList.drop k0).take (k - k0)).all partB' = true))
  case atStart => exact ⟨k0, Nat.le_refl _, hk0, rfl, rfl, rfl, by unfold Hid; simp⟩
  case round =>
    obtain ⟨k, hk1, hk, rfl, rfl, rfl, HE⟩ := hrel
    by_cases hlt : k < s.size
    · have hget : (s.data.toList.drop k0)[k - k0]? = some s[k] := by
        rw [List.getElem?_drop, show k0 + (k - k0) = k by omega]
        exact bytes_get s k hlt
      by_cases hbl : (s[k].toNat : Int) = 32 ∨ (s[k].toNat : Int) = 9
      · have HN : Hid ((s.data.toList.drop k0).takeWhile partB' = (s.data.toList.drop k0).take (k - k0)) := takeWhile_of _ _ HE.out (fun c hc => by
          rw [hget] at hc
          cases hc
          unfold partB'
          rw [blk_true hbl]
          rfl) (by rw [List.length_drop, Hlen.out]; omega)
        have HX := Lib.hid (HBy.out (s[k].toNat : Int) w hbl)
        clear hbl hget
        go_wp2_with fail
        with_reducible refine HX.out.mono ?_
        rintro e w1 ⟨rfl, rfl⟩
        go_wp2_with fail
        go_ret
        rw [HN.out, List.length_take, List.length_drop, Hlen.out, show k0 + min (k - k0) (s.size - k0) = k by omega]
        exact ⟨rfl, rfl⟩
      · have HX := Lib.hid (HBn.out (s[k].toNat : Int) w hbl)
        by_cases h40 : s[k].toNat = 40
        · have hne : ((s[k].toNat : Int) != 40) = false := bne_no (by omega)
          have HN : Hid ((s.data.toList.drop k0).takeWhile partB' = (s.data.toList.drop k0).take (k - k0)) := takeWhile_of _ _ HE.out (fun c hc => by
            rw [hget] at hc
            cases hc
            unfold partB'
            have h40' : s[k] = 40 := UInt8.toNat_inj.1 h40
            rw [h40']
            decide) (by rw [List.length_drop, Hlen.out]; omega)
          clear hbl hget h40
          go_wp2_with fail
          with_reducible refine HX.out.mono ?_
          rintro e w1 ⟨rfl, rfl⟩
          go_wp2_with fail
          go_ret
          rw [HN.out, List.length_take, List.length_drop, Hlen.out, show k0 + min (k - k0) (s.size - k0) = k by omega]
          exact ⟨rfl, rfl⟩
        · have hne : ((s[k].toNat : Int) != 40) = true := bne_yes (by omega)
          have HN : Hid (((s.data.toList.drop k0).take (k + 1 - k0)).all partB' = true) := by
            unfold Hid
            rw [show k + 1 - k0 = (k - k0) + 1 by omega, List.take_add_one, hget, List.all_append, HE.out]
            simp only [Option.toList_some, List.all_cons, List.all_nil, Bool.and_true, Bool.true_and]
            unfold partB'
            rw [blk_false hbl]
            have : s[k] ≠ 40 := fun e => h40 (congrArg UInt8.toNat e)
            simpa using this
          clear hbl hget h40
          go_wp2_with fail
          with_reducible refine HX.out.mono ?_
          rintro e w1 ⟨rfl, rfl⟩
          go_wp2_with fail
          go_roundg (s.size - (k + 1))
          case measure => omega
          case rel => exact ⟨k + 1, by omega, by omega, rfl, by first | rfl | (congr 1), rfl, HN.out⟩
    · obtain rfl : k = s.size := by omega
      have HN : Hid ((s.data.toList.drop k0).takeWhile partB' = (s.data.toList.drop k0).take (s.size - k0)) := takeWhile_of _ _ HE.out (fun c hc => by
        have := (List.getElem?_eq_some_iff.1 hc).1
        rw [List.length_drop, Hlen.out] at this
        omega) (by rw [List.length_drop, Hlen.out]; omega)
      go_wp2_with fail
      go_ret
      rw [HN.out, List.length_take, List.length_drop, Hlen.out, show k0 + min (s.size - k0) (s.size - k0) = s.size by omega]
      exact ⟨rfl, rfl⟩

theorem beh_at (s : ByteArray) {d k : Nat} (h : k < s.size) : beh d (s.data.toList.drop k) = beh d (s[k] :: s.data.toList.drop (k + 1)) := by rw [drop_cons s k h]
theorem beh_cmt {d : Nat} (hd : 0 < d) (l : List UInt8) : beh d l = cmt false d l := by unfold beh; rw [if_neg (by omega)]
theorem cmt_true (d : Nat) (s : ByteArray) (k : Nat) : cmt true d (s.data.toList.drop k) = cmt false d (s.data.toList.drop (k + 1)) := by
  by_cases h : k < s.size
  · rw [drop_cons s k h, cmt]
  · rw [List.drop_of_length_le (by rw [len_toList]; omega), List.drop_of_length_le (by rw [len_toList]; omega)]
    rfl

set_option maxRecDepth 100000 in
set_option maxHeartbeats 4000000 in
theorem behindBlank_any (s : ByteArray) (k0 : Nat) (hk0 : k0 ≤ s.size) (hb0 : ∀ h : k0 < s.size, blk s[k0] = true ∨ s[k0] = 40) (w : World) (hs : s.size ≤ 1000000000000) :
    Calls Tryd.prog 42 #[.string s, .int .i64 (k0 : Int)] w fun e w' => (∃ j : Nat, e = .returned (.int .i64 (j : Int)) ∧ j ≤ s.size ∧ s.data.toList.drop j = beh 0 (s.data.toList.drop k0)) ∧ w = w' := by
  obtain ⟨R, hR⟩ : ∃ R, R = beh 0 (s.data.toList.drop k0) := ⟨_, rfl⟩
  rw [← hR]
  have HR := Lib.hid hR
  have Hlen := Lib.hid (len_toList s)
  clear hR
  have HB0 := Lib.hid hb0
  clear hb0
  go_enter Tryd.func42, Tryd.ntmps42
  go_wp2_with fail
  go_loopg [1, 5] (s.size + 1 - k0) (fun q xi xo wr => ∃ k d : Nat, k0 ≤ k ∧ k ≤ s.size + 1 ∧ d ≤ k ∧ q = s.size + 1 - k ∧ xi = .int .i64 (k : Int) ∧ xo = .int .i64 (d : Int) ∧ w = wr ∧ Hid (d = 0 → k = k0) ∧ Hid (R = beh d (s.data.toList.drop k)))
  case atStart => exact ⟨k0, 0, Nat.le_refl _, by omega, by omega, rfl, rfl, rfl, rfl, fun _ => rfl, HR.out⟩
  case round =>
    obtain ⟨k, d, hk1, hk, hdk, rfl, rfl, rfl, rfl, HZ, HE⟩ := hrel
    by_cases hlt : k < s.size
    · have hc := s[k].toNat_lt
      have HE1 : Hid (R = beh d (s[k] :: s.data.toList.drop (k + 1))) := HE.out.trans (beh_at s hlt)
      by_cases hd : d = 0
      · subst hd
        have hkk := HZ.out rfl
        have hb1 := HB0.out (by rw [← hkk]; exact hlt)
        simp only [← hkk] at hb1
        by_cases h40 : s[k].toNat = 40
        · have e1 : ((s[k].toNat : Int) == 92) = false := beq_no (by omega)
          have e2 : ((s[k].toNat : Int) == 40) = true := beq_yes (by omega)
          have HN : Hid (R = beh 1 (s.data.toList.drop (k + 1))) := by
            unfold Hid
            rw [HE1.out, UInt8.toNat_inj.1 (show s[k].toNat = (40 : UInt8).toNat from h40)]
            rfl
          clear h40 hb1 hkk
          go_wp2_with fail
          go_roundg (s.size + 1 - (k + 1))
          case measure => omega
          case rel => exact ⟨k + 1, 1, by omega, by omega, by omega, rfl, by first | rfl | (congr 1), rfl, rfl, (fun h => absurd h (by omega)), HN.out⟩
        · have hb2 : blk s[k] = true := by
            rcases hb1 with h | h
            · exact h
            · exact absurd (congrArg UInt8.toNat h) h40
          rw [blk_of] at hb2
          have hb3 : s[k].toNat = 32 ∨ s[k].toNat = 9 := of_decide_eq_true hb2
          have e1 : ((s[k].toNat : Int) == 92) = false := beq_no (by omega)
          have e2 : ((s[k].toNat : Int) == 40) = false := beq_no (by omega)
          have e3 : ((s[k].toNat : Int) == 41) = false := beq_no (by omega)
          have HN : Hid (R = s.data.toList.drop (k + 1)) := by
            unfold Hid
            rw [HE1.out]
            unfold beh
            rw [if_pos rfl]
            exact if_neg (fun h => h40 (congrArg UInt8.toNat h))
          clear h40 hb1 hkk hb2 hb3
          go_wp2_with fail
          go_ret
          exact ⟨⟨k + 1, by congr 1, by omega, HN.out.symm⟩, rfl⟩
      · have hd1 : 1 ≤ d := by omega
        have eo : ((d : Int) == 0) = false := beq_no (by omega)
        have HE2 : Hid (R = cmt false d (s[k] :: s.data.toList.drop (k + 1))) := HE1.out.trans (beh_cmt hd1 _)
        by_cases h92 : s[k].toNat = 92
        · have e1 : ((s[k].toNat : Int) == 92) = true := beq_yes (by omega)
          have HN : Hid (R = beh d (s.data.toList.drop (k + 2))) := by
            unfold Hid
            rw [HE2.out, UInt8.toNat_inj.1 (show s[k].toNat = (92 : UInt8).toNat from h92), beh_cmt hd1, cmt, if_pos rfl, cmt_true]
          clear h92 hd
          go_wp2_with fail
          go_roundg (s.size + 1 - (k + 2))
          case measure => omega
          case rel => exact ⟨k + 2, d, by omega, by omega, by omega, rfl, by first | rfl | (congr 1), rfl, rfl, (fun h => absurd h (by omega)), HN.out⟩
        · have e1 : ((s[k].toNat : Int) == 92) = false := beq_no (by omega)
          have n92 : s[k] ≠ 92 := fun h => h92 (congrArg UInt8.toNat h)
          by_cases h40 : s[k].toNat = 40
          · have e2 : ((s[k].toNat : Int) == 40) = true := beq_yes (by omega)
            have eo2 : ((d : Int) + 1 == 0) = false := beq_no (by omega)
            have HN : Hid (R = beh (d + 1) (s.data.toList.drop (k + 1))) := by
              unfold Hid
              rw [HE2.out, UInt8.toNat_inj.1 (show s[k].toNat = (40 : UInt8).toNat from h40), beh_cmt (by omega), cmt, if_neg (by decide), if_pos rfl]
            clear h92 hd h40 n92
            go_wp2_with fail
            go_roundg (s.size + 1 - (k + 1))
            case measure => omega
            case rel => exact ⟨k + 1, d + 1, by omega, by omega, by omega, rfl, by first | rfl | (congr 1), by first | rfl | (congr 1), rfl, (fun h => absurd h (by omega)), HN.out⟩
          · have e2 : ((s[k].toNat : Int) == 40) = false := beq_no (by omega)
            have n40 : s[k] ≠ 40 := fun h => h40 (congrArg UInt8.toNat h)
            by_cases h41 : s[k].toNat = 41
            · have e3 : ((s[k].toNat : Int) == 41) = true := beq_yes (by omega)
              by_cases h1 : d = 1
              · subst h1
                have HN : Hid (R = s.data.toList.drop (k + 1)) := by
                  unfold Hid
                  rw [HE2.out, UInt8.toNat_inj.1 (show s[k].toNat = (41 : UInt8).toNat from h41), cmt, if_neg (by decide), if_neg (by decide), if_pos rfl, if_pos rfl]
                clear h92 hd h40 n92 n40 h41
                go_wp2_with fail
                go_ret
                exact ⟨⟨k + 1, by congr 1, by omega, HN.out.symm⟩, rfl⟩
              · have eo2 : ((d : Int) - 1 == 0) = false := beq_no (by omega)
                have HN : Hid (R = beh (d - 1) (s.data.toList.drop (k + 1))) := by
                  unfold Hid
                  rw [HE2.out, UInt8.toNat_inj.1 (show s[k].toNat = (41 : UInt8).toNat from h41), beh_cmt (by omega), cmt, if_neg (by decide), if_neg (by decide), if_pos rfl, if_neg h1]
                have hdc : ((d - 1 : Nat) : Int) = (d : Int) - 1 := by omega
                have HDC := Lib.hid hdc
                clear h92 hd h40 n92 n40 h41 hdc
                go_wp2_with fail
                go_roundg (s.size + 1 - (k + 1))
                case measure => omega
                case rel => exact ⟨k + 1, d - 1, by omega, by omega, by omega, rfl, by first | rfl | (congr 1), by rw [HDC.out], rfl, (fun h => absurd h (by omega)), HN.out⟩
            · have e3 : ((s[k].toNat : Int) == 41) = false := beq_no (by omega)
              have n41 : s[k] ≠ 41 := fun h => h41 (congrArg UInt8.toNat h)
              have HN : Hid (R = beh d (s.data.toList.drop (k + 1))) := by
                unfold Hid
                rw [HE2.out, beh_cmt hd1, cmt, if_neg n92, if_neg n40, if_neg n41]
              clear h92 hd h40 n92 n40 h41 n41
              go_wp2_with fail
              go_roundg (s.size + 1 - (k + 1))
              case measure => omega
              case rel => exact ⟨k + 1, d, by omega, by omega, by omega, rfl, by first | rfl | (congr 1), rfl, rfl, (fun h => absurd h (by omega)), HN.out⟩
    · have HN : Hid (s.data.toList.drop s.size = R) := by
        unfold Hid
        rw [HE.out, List.drop_of_length_le (by rw [Hlen.out]; exact Nat.le_refl _), List.drop_of_length_le (by rw [Hlen.out]; omega)]
        unfold beh
        split <;> rfl
      have hltI : decide ((k : Int) < (s.size : Int)) = false := decide_eq_false (by omega)
      go_wp2_with fail
      go_ret
      exact ⟨⟨s.size, rfl, Nat.le_refl _, HN.out⟩, rfl⟩
theorem ofWeek_any (s : ByteArray) (w : World) :
    Calls Tryd.prog 14 #[.string s] w fun e w' => e = .returned (.bool (decide (s.data.toList.length = 4 ∧ s.data.toList[3]? = some 44))) ∧ w = w' := by
  have Hlen := Lib.hid (len_toList s)
  by_cases h4 : s.size = 4
  · have h3 : 3 < s.size := by omega
    have e1 : ((s.size : Int) == 4) = true := beq_yes (by omega)
    have hg := bytes_get s 3 h3
    by_cases h44 : s[3].toNat = 44
    · have e2 : ((s[3].toNat : Int) == 44) = true := beq_yes (by omega)
      have HR : Hid (decide (s.data.toList.length = 4 ∧ s.data.toList[3]? = some 44) = true) := by
        unfold Hid
        rw [hg]
        exact decide_eq_true ⟨by rw [Hlen.out]; exact h4, congrArg some (UInt8.toNat_inj.1 h44)⟩
      clear hg h44
      go_enter Tryd.func14, Tryd.ntmps14
      go_wp2_with fail
      go_ret
      exact ⟨ret_bool HR.out.symm, rfl⟩
    · have e2 : ((s[3].toNat : Int) == 44) = false := beq_no (by omega)
      have HR : Hid (decide (s.data.toList.length = 4 ∧ s.data.toList[3]? = some 44) = false) := by
        unfold Hid
        rw [hg]
        exact decide_eq_false (fun h => h44 (congrArg UInt8.toNat (Option.some.inj h.2)))
      clear hg h44
      go_enter Tryd.func14, Tryd.ntmps14
      go_wp2_with fail
      go_ret
      exact ⟨ret_bool HR.out.symm, rfl⟩
  · have e1 : ((s.size : Int) == 4) = false := beq_no (by omega)
    have HR : Hid (decide (s.data.toList.length = 4 ∧ s.data.toList[3]? = some 44) = false) := by
      unfold Hid
      exact decide_eq_false (fun h => h4 (by rw [← Hlen.out]; exact h.1))
    clear h4
    go_enter Tryd.func14, Tryd.ntmps14
    go_wp2_with fail
    go_ret
    exact ⟨ret_bool HR.out.symm, rfl⟩
/-- The parts of a text. -/
def bet (l : List UInt8) : List (List UInt8) := betL l.length l
theorem after_len (l : List UInt8) (h : l ≠ []) : (beh 0 (l.drop (l.takeWhile partB').length)).length < l.length := by
  by_cases hp : l.takeWhile partB' = []
  · rw [hp]
    exact beh_len l h
  · have h0 : 0 < (l.takeWhile partB').length := List.length_pos_iff.2 hp
    have h1 : (l.takeWhile partB').length ≤ l.length := (List.takeWhile_sublist _).length_le
    have h2 : (beh 0 (l.drop (l.takeWhile partB').length)).length ≤ (l.drop (l.takeWhile partB').length).length := by
      by_cases hd : l.drop (l.takeWhile partB').length = []
      · rw [hd]; simp [beh]
      · exact Nat.le_of_lt (beh_len _ hd)
    rw [List.length_drop] at h2
    omega
theorem betL_same : ∀ (n m : Nat) (l : List UInt8), l.length ≤ n → l.length ≤ m → betL n l = betL m l
  | 0, m, l, h1, _ => by
    obtain rfl : l = [] := List.eq_nil_of_length_eq_zero (by omega)
    cases m <;> simp [betL]
  | n + 1, 0, l, _, h2 => by
    obtain rfl : l = [] := List.eq_nil_of_length_eq_zero (by omega)
    simp [betL]
  | n + 1, m + 1, l, h1, h2 => by
    rw [betL, betL]
    by_cases h : l = []
    · rw [if_pos h, if_pos h]
    · rw [if_neg h, if_neg h]
      have := after_len l h
      rw [betL_same n m _ (by omega) (by omega)]
theorem bet_step {l : List UInt8} (h : l ≠ []) : bet l = (if l.takeWhile partB' = [] then [] else [l.takeWhile partB']) ++ bet (beh 0 (l.drop (l.takeWhile partB').length)) := by
  unfold bet
  have hl := after_len l h
  obtain ⟨n, hn⟩ : ∃ n, l.length = n + 1 := ⟨l.length - 1, by have := List.length_pos_iff.2 h; omega⟩
  rw [hn, betL, if_neg h]
  congr 1
  exact betL_same _ _ _ (by omega) (Nat.le_refl _)
theorem bet_nil : bet [] = [] := rfl
theorem at_end (s : ByteArray) (k E : Nat) (hE : E = k + ((s.data.toList.drop k).takeWhile partB').length) (h : E < s.size) : blk s[E] = true ∨ s[E] = 40 := by
  obtain ⟨n, hn⟩ : ∃ n, n = ((s.data.toList.drop k).takeWhile partB').length := ⟨_, rfl⟩
  rw [← hn] at hE
  subst hE
  have hd : ((s.data.toList.drop k).dropWhile partB').head? = some s[k + n] := by
    have e : (s.data.toList.drop k).dropWhile partB' = (s.data.toList.drop k).drop n := by
      have h1 := List.takeWhile_append_dropWhile (p := partB') (l := s.data.toList.drop k)
      conv => rhs; rw [← h1]
      rw [hn, List.drop_left]
    rw [e, List.drop_drop, drop_cons s (k + n) h]
    rfl
  have := dropWhile_first partB' _ _ hd
  unfold partB' at this
  cases hb : blk s[k + n] with
  | true => exact .inl rfl
  | false =>
    rw [hb] at this
    right
    simpa using this
set_option maxRecDepth 100000 in
set_option maxHeartbeats 4000000 in
theorem between_any (s : ByteArray) (w : World) (hs : s.size ≤ 1000000000000) :
    Calls Tryd.prog 13 #[.string s] w fun e w' => ∃ v, e = .returned v ∧ w'.ownsRow w.heap.size 9 1 v (bet s.data.toList).length ((bet s.data.toList).map strV) ∧ Below w.heap.size w w' := by
  obtain ⟨i0, hi, hz0, hz1, hz2⟩ := info_parts Tryd.infoStr
  obtain ⟨R, hR⟩ : ∃ R, R = bet s.data.toList := ⟨_, rfl⟩
  rw [← hR]
  have HR := Lib.hid hR
  have HPe := Lib.hid (fun k hk w => partEnd_any s k hk w hs)
  have HBb := Lib.hid (fun k hk hb w => behindBlank_any s k hk hb w hs)
  have Hlen := Lib.hid (len_toList s)
  clear hR
  go_enter Tryd.func13, Tryd.ntmps13
  go_wp2_with fail
  go_loopg [3, 4] s.size (fun q o xi wr => ∃ (k : Nat) (ps : List (List UInt8)), k ≤ s.size ∧ q = s.size - k ∧ xi = .int .i64 (k : Int) ∧ ps.length ≤ k ∧ Hid (wr.ownsRow w.heap.size 9 1 o ps.length (ps.map strV)) ∧ Hid (Below w.heap.size w wr) ∧ Hid (R = ps ++ bet (s.data.toList.drop k)))
  case atStart => exact ⟨0, [], by omega, rfl, rfl, by simp, World.ownsRow_nil _ _ _ _, Below.refl _ _, HR.out⟩
  case round =>
    obtain ⟨k, ps, hk, rfl, rfl, hps, HO, HB, HE⟩ := hrel
    by_cases hlt : k < s.size
    · have hne : s.data.toList.drop k ≠ [] := by
        rw [drop_cons s k hlt]
        simp
      have hal := after_len _ hne
      have hst := bet_step hne
      have hX := HPe.out k hk wr
      have hat : ∀ E, E = k + ((s.data.toList.drop k).takeWhile partB').length → ∀ h : E < s.size, blk s[E] = true ∨ s[E] = 40 := fun E hE h => at_end s k E hE h
      have hpl : ((s.data.toList.drop k).takeWhile partB').length ≤ s.size - k := by
        have := (List.takeWhile_sublist (p := partB') (l := s.data.toList.drop k)).length_le
        rw [List.length_drop, Hlen.out] at this
        exact this
      obtain ⟨p, hp⟩ : ∃ p, p = (s.data.toList.drop k).takeWhile partB' := ⟨_, rfl⟩
      simp only [← hp] at hal hst hX hat hpl
      rw [hst] at HE
      rw [List.drop_drop] at hal HE
      obtain ⟨E, hE⟩ : ∃ E, E = k + p.length := ⟨_, rfl⟩
      simp only [← hE] at hal HE hX
      replace hat := hat E hE
      have hEs : E ≤ s.size := by omega
      have HX := Lib.hid hX
      have HAt := Lib.hid hat
      have hpt : (s.extract k E).data.toList = p := by
        rw [extract_toList, hE, show k + p.length - k = p.length by omega, hp]
        exact (List.prefix_iff_eq_take.1 (List.takeWhile_prefix _)).symm
      have HPt := Lib.hid hpt
      have HAl := Lib.hid hal
      clear hne hst hX hat hpt hal hp
      by_cases hEk : k < E
      · have hpn : ¬ p = [] := by
          intro e
          rw [e] at hE
          simp at hE
          omega
        rw [if_neg hpn] at HE
        clear hpn hE
        go_wp2_with fail
        with_reducible refine HX.out.mono ?_
        rintro e w1 ⟨rfl, rfl⟩
        go_wp2_with (at_builtin; refine wpList_append_own _ rfl _ _ 35 rfl w.heap.size 9 i0 (.string ⟨#[]⟩) 1 16 Tryd.underlying35 hi hz0 hz1 hz2 rfl (by decide) _ _ _ rfl (HO.out.alloc _) ⟨wr.heap.size, 0, none⟩ 1 1 [.string (s.extract k E)] rfl rfl ?c1 ?c2 ?c3 ?c4 ?c5 ?_)
        case c1 => exact cell_one_new wr _ _
        case c2 => intro u hu; simp at hu; subst hu; rfl
        case c3 => unfold maxLen; omega
        case c4 => omega
        case c5 => simp; have := HB.out.size; omega
        intro v' w1 hown1 hgrow1 _
        have HO1 := Lib.hid hown1
        have HB1 : Hid (Below w.heap.size w w1) := (HB.out.alloc (by have := HB.out.size; omega) _).grown hgrow1 (by have := HB.out.size; simp; omega) (fun q hq => (HO.out.lt q hq).1)
        clear hown1 hgrow1
        go_wp2_with fail
        with_reducible refine (HBb.out E hEs HAt.out w1).mono ?_
        rintro e w2 ⟨⟨j, rfl, hj, hjd⟩, rfl⟩
        have hjk : k < j := by
          have h1 := HAl.out
          rw [← hjd, List.length_drop, List.length_drop, Hlen.out] at h1
          omega
        have HJ := Lib.hid hjd
        clear hjd
        go_wp2_with fail
        go_roundg (s.size - j)
        case measure => omega
        case rel =>
          refine ⟨j, ps ++ [p], hj, rfl, by first | rfl | (congr 1), by simp; omega, ?_, HB1.out, ?_⟩
          · unfold Hid
            have h1 := HO1.out
            rw [← strV_bytes, HPt.out] at h1
            simpa using h1
          · unfold Hid
            rw [HE.out, HJ.out, List.append_assoc]
      · have hpn : p = [] := List.eq_nil_of_length_eq_zero (by omega)
        rw [if_pos hpn] at HE
        obtain rfl : E = k := by rw [hE, hpn]; simp
        have hEi : decide ((E : Int) < (E : Int)) = false := decide_eq_false (by omega)
        clear hpn hE
        go_wp2_with fail
        with_reducible refine HX.out.mono ?_
        rintro e w1 ⟨rfl, rfl⟩
        go_wp2_with fail
        with_reducible refine (HBb.out E hEs HAt.out wr).mono ?_
        rintro e w2 ⟨⟨j, rfl, hj, hjd⟩, rfl⟩
        have hjk : E < j := by
          have h1 := HAl.out
          rw [← hjd, List.length_drop, List.length_drop, Hlen.out] at h1
          omega
        have HJ := Lib.hid hjd
        clear hjd
        go_wp2_with fail
        go_roundg (s.size - j)
        case measure => omega
        case rel =>
          refine ⟨j, ps, hj, rfl, by first | rfl | (congr 1), by omega, HO.out, HB.out, ?_⟩
          unfold Hid
          rw [HE.out, HJ.out]
          rfl
    · obtain rfl : k = s.size := by omega
      have HN : Hid (R = ps) := by
        unfold Hid
        rw [HE.out, List.drop_of_length_le (by rw [Hlen.out]; exact Nat.le_refl _), bet_nil, List.append_nil]
      have hki : decide ((s.size : Int) < (s.size : Int)) = false := decide_eq_false (by omega)
      go_wp2_with fail
      go_ret
      rw [HN.out]
      exact ⟨_, rfl, HO.out, HB.out⟩
end Go.Proofs.YtpmjlhpbknppiaaDoor
