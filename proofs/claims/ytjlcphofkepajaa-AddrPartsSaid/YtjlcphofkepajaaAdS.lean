/- Statement AddrParts, for any texts. -/
import Derived.Test.YtjlcphofkepajaaAdR
namespace Go.Proofs.Ytjlcphofkepajaa
open Go Go.RowKit

theorem shut_of {l : List UInt8} (h : l.any opensB = false) : shutL l := by
  intro c hc
  have := (List.any_eq_false.1 h) c hc
  unfold opensB at this
  simp at this
  exact ⟨this.1, this.2.1, this.2.2⟩
theorem adr_get_left {la lb : List Adr} {i : Nat} (h : i < la.length) : (la ++ lb)[i]'(by simp; omega) = la[i] := List.getElem_append_left h
theorem adr_get_right {la lb : List Adr} {i m : Nat} (h2 : i < (la ++ lb).length) (hm : m < lb.length) (h : i = la.length + m) : (la ++ lb)[i] = lb[m] := by
  subst h
  rw [List.getElem_append_right (by omega)]
  simp

set_option maxRecDepth 100000 in
set_option maxHeartbeats 8000000 in
theorem parts_open (a b : ByteArray) (la lb : List Adr) (w : World) (ha : a.size ≤ 150) (hb : b.size ≤ 150) (hla : listA a.data.toList = some la) (hlb : listA b.data.toList = some lb) (hO : a.data.toList.any opensB = true) :
    Calls Try.prog 3 #[.string a, .string b] w fun e w' => e = .returned (.bool true) ∧ Below w.heap.size w w' := by
  have HAw := Lib.hid (awake_any10 w)
  have h1 : ¬ (150 : Int) < (a.size : Int) := by omega
  have h2 : ¬ (150 : Int) < (b.size : Int) := by omega
  have H1 := Lib.hid (fun W => list_some a la W (by omega) hla)
  have H2 := Lib.hid (fun W => list_some b lb W (by omega) hlb)
  have hcs : (a ++ ⟨#[44]⟩ ++ b).size ≤ 1000000000 := by simp only [ByteArray.size_append]; show a.size + 1 + b.size ≤ _; omega
  have HC := Lib.hid (fun W => list_any (a ++ ⟨#[44]⟩ ++ b) W hcs)
  have HO := Lib.hid hO
  clear hla hlb hO
  go_enter Try.func3, Try.ntmps3
  go_wp2_with fail
  with_reducible refine HAw.out.mono ?_
  rintro e w1 ⟨rfl, hb1⟩
  have HB1 := Lib.hid hb1
  clear hb1
  go_wp2_with fail
  with_reducible refine (H1.out _).mono ?_
  rintro e w2 ⟨v2, rfl, _, hb2⟩
  have HB2 := Lib.hid (HB1.out.trans (hb2.mono HB1.out.size))
  clear hb2
  go_wp2_with fail
  with_reducible refine (H2.out _).mono ?_
  rintro e w3 ⟨v3, rfl, _, hb3⟩
  have HB3 := Lib.hid (HB2.out.trans (hb3.mono HB2.out.size))
  clear hb3
  go_wp2_with fail
  with_reducible refine (HC.out _).mono ?_
  rintro e w4 ⟨v4, q4, rfl, _, hb4⟩
  have HB4 := Lib.hid (HB3.out.trans (hb4.mono HB3.out.size))
  clear hb4
  go_wp2_with fail
  go_loopg [12, 13] a.size (fun g v12 v13 wr => ∃ (j : Nat) (o : Bool), g = a.size - j ∧ j ≤ a.size ∧ v13 = .int .i64 (j : Int) ∧ v12 = .bool o ∧ Hid ((a.data.toList.take j).any opensB = o) ∧ w4 = wr)
  case atStart => exact ⟨0, false, by omega, by omega, rfl, rfl, rfl, rfl⟩
  case round =>
    obtain ⟨j, o, rfl, hj, rfl, rfl, HS, rfl⟩ := hrel
    by_cases hlt : j < a.size
    · have HT : Hid ((a.data.toList.take (j + 1)).any opensB = (o || opensB a[j])) := by
        unfold Hid
        rw [take_snoc a j hlt, opens_step o _ _ HS.out]
      obtain ⟨c, hc⟩ : ∃ c, c = a[j] := ⟨_, rfl⟩
      rw [← hc] at HT
      have HC1 := Lib.hid hc
      clear hc
      cases o with
      | true =>
        go_wp2_with fail
        go_roundg (a.size - (j + 1))
        case measure => omega
        case rel => exact ⟨j + 1, true, rfl, by omega, by go_num, rfl, HT.out, rfl⟩
      | false =>
        by_cases c40 : a[j].toNat = 40
        · have b1 : (((a[j].toNat : Nat) : Int) == 40) = true := beq_yes (by omega)
          have hq : opensB c = true := by rw [HC1.out, show a[j] = 40 from toNat_eq c40]; rfl
          rw [hq] at HT
          clear c40 hq
          go_wp2_with fail
          go_roundg (a.size - (j + 1))
          case measure => omega
          case rel => exact ⟨j + 1, true, rfl, by omega, by go_num, rfl, HT.out, rfl⟩
        · have b1 : (((a[j].toNat : Nat) : Int) == 40) = false := beq_no (by omega)
          by_cases c34 : a[j].toNat = 34
          · have b2 : (((a[j].toNat : Nat) : Int) == 34) = true := beq_yes (by omega)
            have hq : opensB c = true := by rw [HC1.out, show a[j] = 34 from toNat_eq c34]; rfl
            rw [hq] at HT
            clear c40 c34 hq
            go_wp2_with fail
            go_roundg (a.size - (j + 1))
            case measure => omega
            case rel => exact ⟨j + 1, true, rfl, by omega, by go_num, rfl, HT.out, rfl⟩
          · have b2 : (((a[j].toNat : Nat) : Int) == 34) = false := beq_no (by omega)
            by_cases c91 : a[j].toNat = 91
            · have b3 : (((a[j].toNat : Nat) : Int) == 91) = true := beq_yes (by omega)
              have hq : opensB c = true := by rw [HC1.out, show a[j] = 91 from toNat_eq c91]; rfl
              rw [hq] at HT
              clear c40 c34 c91 hq
              go_wp2_with fail
              go_roundg (a.size - (j + 1))
              case measure => omega
              case rel => exact ⟨j + 1, true, rfl, by omega, by go_num, rfl, HT.out, rfl⟩
            · have b3 : (((a[j].toNat : Nat) : Int) == 91) = false := beq_no (by omega)
              have hq : opensB c = false := by
                rw [HC1.out]
                unfold opensB
                simp only [Bool.or_eq_false_iff, beq_eq_false_iff_ne]
                exact ⟨fun e => c40 (by rw [e]; rfl), fun e => c34 (by rw [e]; rfl), fun e => c91 (by rw [e]; rfl)⟩
              rw [hq] at HT
              clear c40 c34 c91 hq
              go_wp2_with fail
              go_roundg (a.size - (j + 1))
              case measure => omega
              case rel => exact ⟨j + 1, false, rfl, by omega, by go_num, rfl, HT.out, rfl⟩
    · obtain rfl : o = true := by
        rw [← HS.out, ← HO.out, List.take_of_length_le (by simp; omega)]
      go_wp2_with fail
      go_ret
      exact ⟨rfl, HB4.out⟩
end Go.Proofs.Ytjlcphofkepajaa
