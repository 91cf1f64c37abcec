/- The law CharsJoins: contract. -/
import Derived.Test.YtefgggfakdbhdaaDoorChars8
namespace Go.Proofs.YtefgggfakdbhdaaDoor
open Go Go.RowKit

def jn (c : UInt8) : List UInt8 → Bool → List (List UInt8) → List UInt8
  | acc, _, [] => acc
  | acc, first, p :: ps => jn c ((if first then acc else acc ++ [c]) ++ p) false ps
theorem jn_le (c : UInt8) : ∀ ps acc f, acc.length ≤ (jn c acc f ps).length
  | [], acc, f => Nat.le_refl _
  | p :: ps, acc, f => by
    unfold jn
    have := jn_le c ps ((if f then acc else acc ++ [c]) ++ p) false
    refine Nat.le_trans ?_ this
    cases f <;> simp <;> omega
theorem jn_split (c : UInt8) : ∀ l cur acc f, jn c acc f (splitAux c l cur) = (if f then acc else acc ++ [c]) ++ cur ++ l
  | [], cur, acc, f => by simp [splitAux, jn]
  | b :: l, cur, acc, f => by
    unfold splitAux
    split
    · rename_i e
      subst e
      rw [jn, jn_split b l [] _ false]
      simp
    · rw [jn_split c l (cur ++ [b]) acc f]
      simp
theorem split_none (c : UInt8) : ∀ l cur, (∀ b ∈ cur, b ≠ c) → ∀ p ∈ splitAux c l cur, ∀ b ∈ p, b ≠ c
  | [], cur, h, p, hp, b, hb => by
    simp [splitAux] at hp
    subst hp
    exact h b hb
  | x :: l, cur, h, p, hp, b, hb => by
    unfold splitAux at hp
    split at hp
    · rcases List.mem_cons.1 hp with rfl | hp
      · exact h b hb
      · exact split_none c l [] (by simp) p hp b hb
    · rename_i hx
      refine split_none c l (cur ++ [x]) ?_ p hp b hb
      intro y hy
      rcases List.mem_append.1 hy with hy | hy
      · exact h y hy
      · simp at hy; subst hy; exact hx

theorem one_byte (w : World) (c : UInt8) :
    (convert 34 9 (.slice (some ⟨w.heap.size, 0, none⟩) 1 1)).run Tryd.prog (w.alloc (.cells #[.int .u8 (c.toNat : Int)] 5)) = .ok (.string ⟨#[c]⟩) (w.alloc (.cells #[.int .u8 (c.toNat : Int)] 5)) := by
  have h : rowAt (w.alloc (.cells #[.int .u8 (c.toNat : Int)] 5)) w.heap.size 5 ([c].map byteV) := ⟨_, 0, 0, heap_alloc_new w _, fun j _ h => by omega, rfl⟩
  exact run_string_of_row Tryd.underlying34 Tryd.underlying5 Tryd.underlying9 h rfl

theorem jn_step {c : UInt8} {ps : List (List UInt8)} {i : Nat} {acc : List UInt8} {s : List UInt8} (hi : i < ps.length) (h : jn c acc (decide (i = 0)) (ps.drop i) = s) :
    jn c ((if i = 0 then acc else acc ++ [c]) ++ ps[i]) (decide (i + 1 = 0)) (ps.drop (i + 1)) = s := by
  rw [List.drop_eq_getElem_cons hi, jn] at h
  rw [← h]
  simp

set_option maxRecDepth 100000 in
theorem charsJoins_any (s : ByteArray) (c : UInt8) (w : World) (hs : s.size ≤ 9223372036854775807) (ht : tab w) :
    Calls Tryd.prog 6 #[.string s, .int .u8 (c.toNat : Int)] w fun e w' => e = .returned (.bool true) ∧ Below w.heap.size w w' := by
  have HT := Lib.hid ht; clear ht
  by_cases h1 : 500 < s.size
  · go_enter Tryd.func6, Tryd.ntmps6
    go_wp2_with fail
    refine (awake_any _ HT.out).mono ?_
    rintro e w1 ⟨rfl, hb1⟩
    have HB1 := Lib.hid hb1; clear hb1
    go_wp2
    go_ret
    exact ⟨rfl, HB1.out⟩
  · have HJ : Hid (jn c [] true (splitS c s.data.toList) = s.data.toList) := by
      show jn c [] true (splitAux c s.data.toList []) = _
      rw [jn_split]
      simp
    have HN : Hid (∀ p ∈ splitS c s.data.toList, ∀ b ∈ p, b ≠ c) := split_none c _ [] (by simp)
    have hp1 : 1 ≤ (splitS c s.data.toList).length := (splitAux_length c _ _).1
    have hp2 : (splitS c s.data.toList).length ≤ s.size + 1 := by have := (splitAux_length c s.data.toList []).2; rw [len_toList] at this; exact this
    have HS := Lib.hid (fun w => split_any s c w (by omega))
    generalize splitS c s.data.toList = ps at HJ HN hp1 hp2 HS
    go_enter Tryd.func6, Tryd.ntmps6
    go_wp2_with fail
    refine (awake_any _ HT.out).mono ?_
    rintro e w1 ⟨rfl, hb1⟩
    have HB1 := Lib.hid hb1; clear hb1
    go_wp2_with fail
    refine (HS.out _).mono ?_
    rintro e w2 ⟨v, rfl, hown, hb2⟩
    obtain ⟨g, cap, rfl, hcap, hcm, hg1, hg2⟩ := ownsRow_slice hown hp1
    have HO := Lib.hid hown; clear hown
    have HB2 := Lib.hid (HB1.out.trans (hb2.mono HB1.out.size)); clear hb2 HB1
    generalize w1.heap.size = base at HO hg1
    go_wp2_with fail
    go_loopg [7, 8] ps.length (fun gk t i wr => ∃ (k : Nat) (T : ByteArray), k ≤ ps.length ∧ gk = ps.length - k ∧ i = .int .i64 k ∧ t = .string T ∧ T.size ≤ s.size ∧ Hid (jn c T.data.toList (decide (k = 0)) (ps.drop k) = s.data.toList) ∧ Hid (Below w.heap.size w wr) ∧ Hid (wr.ownsRow base 9 1 (.slice (some ⟨g, 0, none⟩) ps.length cap) ps.length (ps.map strV)))
    case atStart => exact ⟨0, ⟨#[]⟩, by omega, rfl, rfl, rfl, Nat.zero_le _, HJ.out, HB2.out, HO.out⟩
    case round =>
      clear HB2 HO HJ
      obtain ⟨k, T, hk, rfl, rfl, rfl, hT, HJ, HB, HO⟩ := hrel
      by_cases hlt : k < ps.length
      · obtain ⟨Q, hQ⟩ : ∃ Q : ByteArray, Q = ⟨ps[k].toArray⟩ := ⟨_, rfl⟩
        have HQ : Hid (Q.data.toList = ps[k]) := by show Q.data.toList = _; rw [hQ]
        have hcell : wr.cell? ⟨g, k, none⟩ = some (.string Q) := by
          rw [HO.out.cellAt k (by omega), hQ]
          simp [hlt, strV]
        have HQN : Hid (∀ j, (h : j < Q.size) → ¬ Q[j] = c) := fun j h => HN.out ps[k] (List.getElem_mem hlt) Q[j] (by rw [← HQ.out]; exact List.getElem_mem _)
        have HJ2 := Lib.hid (jn_step hlt HJ.out)
        have HL := Lib.hid (jn_le c (ps.drop (k + 1)) ((if k = 0 then T.data.toList else T.data.toList ++ [c]) ++ ps[k]) (decide (k + 1 = 0)))
        clear hQ
        have HLL : Hid (((if k = 0 then T.data.toList else T.data.toList ++ [c]) ++ ps[k]).length ≤ s.size) := by
          have := HL.out
          rw [HJ2.out, len_toList] at this
          exact this
        clear HL HJ
        by_cases h0 : k = 0
        case' neg =>
          have h0' : 0 < k := by omega
          have hone := one_byte wr c
          have hz : T.size + 1 + Q.size ≤ s.size := by
            have := HLL.out
            rw [if_neg h0, ← HQ.out] at this
            simp at this
            omega
          have HD : Hid ((T ++ ⟨#[c]⟩ ++ Q).data.toList = (if k = 0 then T.data.toList else T.data.toList ++ [c]) ++ ps[k]) := by
            show (T ++ ⟨#[c]⟩ ++ Q).data.toList = _
            rw [if_neg h0, ByteArray.data_append, Array.toList_append, ByteArray.data_append, Array.toList_append, HQ.out]
        case' pos =>
          have hz : T.size + Q.size ≤ s.size := by
            have := HLL.out
            rw [if_pos h0, ← HQ.out] at this
            simpa using this
          have HD : Hid ((T ++ Q).data.toList = (if k = 0 then T.data.toList else T.data.toList ++ [c]) ++ ps[k]) := by
            show (T ++ Q).data.toList = _
            rw [if_pos h0, ByteArray.data_append, Array.toList_append, HQ.out]
          have H0 : ¬ 0 < k := by omega
        all_goals
          clear h0
          go_wp2_with fail
          go_loopg [9] Q.size (fun gk v wx => ∃ j : Nat, j ≤ Q.size ∧ gk = Q.size - j ∧ v = .int .i64 j ∧ wx.cell? ⟨g, k, none⟩ = some (.string Q) ∧ Hid (Below w.heap.size w wx) ∧ Hid (wx.ownsRow base 9 1 (.slice (some ⟨g, 0, none⟩) ps.length cap) ps.length (ps.map strV)))
          case atStart => first
            | exact ⟨0, by omega, rfl, rfl, hcell, HB.out, HO.out⟩
            | exact ⟨0, by omega, rfl, rfl, by rw [World.cell?_alloc_old _ _ _ (by have := (HO.out.lt g rfl).2; show g ≠ _; omega)]; exact hcell, HB.out.alloc HB.out.size _, HO.out.alloc _⟩
          case round =>
            clear hcell
            have HBB := HB; have HOO := HO
            clear HB HO
            obtain ⟨j, hj, rfl, rfl, hcell, HB, HO⟩ := hrel
            by_cases hjl : j < Q.size
            · have hne : ((Q[j].toNat : Int) == (c.toNat : Int)) = false := beq_no (fun h => HQN.out j hjl (UInt8.toNat_inj.1 (by omega)))
              go_wp2_with fail
              go_roundg (Q.size - (j + 1))
              case measure => omega
              case rel => exact ⟨j + 1, by omega, rfl, by go_num, hcell, HB, HO⟩
            · go_wp2_with fail
              go_roundg (ps.length - (k + 1))
              case measure => omega
              case rel =>
                refine ⟨k + 1, _, by omega, rfl, by go_num, rfl, ?_, ?_, HB, HO⟩
                · have e := bytes_len s
                  have := HLL.out
                  rw [← HD.out, ← bytes_len] at this
                  exact this
                · have := HJ2.out
                  rw [← HD.out] at this
                  exact this
      · obtain rfl : k = ps.length := by omega
        have hj := HJ.out
        rw [List.drop_length, jn] at hj
        have hq : (T.toList == s.toList) = true := by rw [ByteArray.toList_eq, ByteArray.toList_eq, hj]; simp
        clear hj
        go_wp2_with fail
        go_ret
        exact ⟨ret_bool (decide_eq_true (by omega)), HB.out⟩
end Go.Proofs.YtefgggfakdbhdaaDoor
