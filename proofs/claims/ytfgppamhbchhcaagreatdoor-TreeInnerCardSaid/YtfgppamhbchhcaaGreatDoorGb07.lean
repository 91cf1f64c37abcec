/- Contracts of package header: named, begun, goesOn; of strings.Cut at a byte. -/
import Derived.Test.YtfgppamhbchhcaaGreatDoorGb02
import Derived.Test.YtfgppamhbchhcaaGreatDoorShelf2
import Derived.Test.YtfgppamhbchhcaaGreatDoorGb03
import Derived.Test.YtfgppamhbchhcaaGreatDoorGb04
import Derived.Test.YtfgppamhbchhcaaGreatDoorGb06
import Derived.LoopN
import Derived.Outline
import Derived.IntWalk
import Derived.BigQuiet
import Derived.Deep.QuietTactic
namespace Go.Proofs.YtfgppamhbchhcaaGreatDoor
open Go Go.RowKit

theorem namedB_nil {l : List UInt8} (h : l.length = 0) : namedB l = false := by
  have : l = [] := List.eq_nil_of_length_eq_zero h
  subst this
  rfl
theorem namedB_yes {l : List UInt8} (h : l.all nameB = true) (h0 : ¬ l.length = 0) : namedB l = true := by
  unfold namedB
  rw [h]
  cases l with
  | nil => simp at h0
  | cons c r => rfl
theorem namedB_no {l : List UInt8} (h : l.all nameB = false) : namedB l = false := by
  unfold namedB
  rw [h]
  rfl
theorem all_at_no {s : ByteArray} {p : UInt8 → Bool} {k : Nat} (h : k < s.size) (hd : p s[k] = false) : s.data.toList.all p = false := by
  rw [List.all_eq_false]
  refine ⟨s[k], ?_, by simp [hd]⟩
  have := bytes_get s k h
  exact List.mem_of_getElem? this
theorem all_take_snoc {s : ByteArray} {p : UInt8 → Bool} {k : Nat} (h : k < s.size) (ha : (s.data.toList.take k).all p = true) (hb : p s[k] = true) : (s.data.toList.take (k + 1)).all p = true := by
  rw [take_snoc s k h, List.all_append, ha]
  simp [hb]
set_option maxHeartbeats 1000000 in
theorem named_any (s : ByteArray) (w : World) (hl : s.size ≤ 9223372036854775807) :
    Calls Tryz.prog 53 #[.string s] w fun e w' => e = .returned (.bool (namedB s.data.toList)) ∧ w = w' := by
  have HL := Lib.hid (len_toList s)
  go_enter Tryz.func53, Tryz.ntmps53
  go_wp2
  go_loopg [3] s.size (fun q x3 wr => ∃ k : Nat, k ≤ s.size ∧ q = s.size - k ∧ x3 = .int .i64 k ∧ Hid ((s.data.toList.take k).all nameB = true) ∧ w = wr)
  case atStart => exact ⟨0, by omega, by omega, rfl, rfl, rfl⟩
  case round =>
    obtain ⟨k, hk, rfl, rfl, HA, rfl⟩ := hrel
    by_cases hlt : k < s.size
    · by_cases h1 : (s[k].toNat : Int) < 33
      · have HR : Hid (namedB s.data.toList = false) := namedB_no (all_at_no hlt (by unfold nameB; exact decide_eq_false (by omega)))
        go_wp2
        go_ret
        exact ⟨ret_bool HR.out.symm, rfl⟩
      · by_cases h2 : (s[k].toNat : Int) ≤ 126
        · have HR : Hid ((s.data.toList.take (k + 1)).all nameB = true) := all_take_snoc hlt HA.out (by unfold nameB; exact decide_eq_true (by omega))
          go_wp2
          go_roundg (s.size - (k + 1))
          case measure => omega
          case rel => exact ⟨k + 1, by omega, rfl, by go_num, HR, rfl⟩
        · have HR : Hid (namedB s.data.toList = false) := namedB_no (all_at_no hlt (by unfold nameB; exact decide_eq_false (by omega)))
          have h3 : (126 : Int) < s[k].toNat := by omega
          go_wp2
          go_ret
          exact ⟨ret_bool HR.out.symm, rfl⟩
    · obtain rfl : k = s.size := by omega
      have HA' : Hid (s.data.toList.all nameB = true) := by have := HA.out; rwa [take_all s _ hlt] at this
      by_cases h0 : s.size = 0
      · have HR : Hid (namedB s.data.toList = false) := namedB_nil (by rw [HL.out]; exact h0)
        have ht : s.toList = [] := (toList_nil_iff s).2 h0
        go_wp2
        go_ret
        exact ⟨ret_bool (by rw [HR.out]), rfl⟩
      · have HR : Hid (namedB s.data.toList = true) := namedB_yes HA'.out (by rw [HL.out]; exact h0)
        have ht : ¬ s.toList = [] := fun h => h0 ((toList_nil_iff s).1 h)
        go_wp2
        go_ret
        exact ⟨ret_bool (by rw [HR.out]; simpa using ht), rfl⟩

theorem indexByte_col : ∀ l : List UInt8, Lib.indexByte l 58 = if colI l < l.length then (colI l : Int) else -1
  | [] => rfl
  | c :: l => by
    have ih := indexByte_col l
    unfold Lib.indexByte
    have e : colI (c :: l) = if c == 58 then 0 else colI l + 1 := by
      unfold colI
      rw [List.findIdx_cons]
      cases c == 58 <;> rfl
    cases h : c == 58
    · have e' : colI (c :: l) = colI l + 1 := by rw [e, h]; rfl
      rw [e', List.length_cons, ih]
      simp only [Bool.false_eq_true, if_false]
      by_cases h1 : colI l < l.length
      · rw [if_pos h1, if_neg (show ¬ ((colI l : Int) == -1) = true by simp), if_pos (show colI l + 1 < l.length + 1 by omega)]
        omega
      · rw [if_neg h1, if_neg (show ¬ colI l + 1 < l.length + 1 by omega)]
        rfl
    · have e' : colI (c :: l) = 0 := by rw [e, h]; rfl
      rw [e', List.length_cons, if_pos (show 0 < l.length + 1 by omega)]
      simp
theorem index_yes (s : ByteArray) (w : World) (k : Nat) (hk : k = colI s.data.toList) (h : k < s.size) :
    Calls Tryz.prog 86 #[.string s, .string ⟨#[58]⟩] w fun e w' => e = .returned (.int .i64 k) ∧ w = w' := by
  refine (Tryz.stringslite_Index_one s 58 w).mono ?_
  rintro e w' ⟨rfl, rfl⟩
  refine ⟨?_, rfl⟩
  rw [indexByte_col, ← hk, if_pos (by rw [len_toList]; exact h)]
theorem index_no (s : ByteArray) (w : World) (h : ¬ colI s.data.toList < s.size) :
    Calls Tryz.prog 86 #[.string s, .string ⟨#[58]⟩] w fun e w' => e = .returned (.int .i64 (-1)) ∧ w = w' := by
  refine (Tryz.stringslite_Index_one s 58 w).mono ?_
  rintro e w' ⟨rfl, rfl⟩
  refine ⟨?_, rfl⟩
  rw [indexByte_col, if_neg (by rw [len_toList]; exact h)]
set_option maxHeartbeats 1000000 in
theorem cutIn_yes (s : ByteArray) (w : World) (hl : s.size ≤ 1048576) (k : Nat) (hk : k = colI s.data.toList) (h : k < s.size) :
    Calls Tryz.prog 65 #[.string s, .string ⟨#[58]⟩] w fun e w' => e = .returned (.tuple #[.string (s.extract 0 k), .string (s.extract (k + 1) s.size), .bool true]) ∧ Below w.heap.size w w' := by
  have HI := Lib.hid (fun W => index_yes s W k hk h)
  clear hk
  go_enter Tryz.func65, Tryz.ntmps65
  go_wp2_with fail
  with_reducible refine (HI.out _).mono ?_
  rintro e w1 ⟨rfl, rfl⟩
  have e1 : IntKind.i64.wrap ((k : Int) + 1) = (k : Int) + 1 := IntWalk.i64_in _ (by omega)
  have e2 : ((k : Int) + 1).toNat = k + 1 := by omega
  go_wp2_with fail
  go_quiet (fail)
  go_wp2
  exact bodyPost_ret (v := .tuple #[.string (s.extract 0 k), .string (s.extract (k + 1) s.size), .bool true]) (by simp [results, Tryz.results65, go_sem]) rfl ⟨rfl, below_drewN' _⟩
set_option maxHeartbeats 1000000 in
theorem cutIn_no (s : ByteArray) (w : World) (h : ¬ colI s.data.toList < s.size) :
    Calls Tryz.prog 65 #[.string s, .string ⟨#[58]⟩] w fun e w' => e = .returned (.tuple #[.string s, .string ⟨#[]⟩, .bool false]) ∧ Below w.heap.size w w' := by
  have HI := Lib.hid (fun W => index_no s W h)
  clear h
  go_enter Tryz.func65, Tryz.ntmps65
  go_wp2_with fail
  with_reducible refine (HI.out _).mono ?_
  rintro e w1 ⟨rfl, rfl⟩
  go_wp2
  exact bodyPost_ret (v := .tuple #[.string s, .string ⟨#[]⟩, .bool false]) (by simp [results, Tryz.results65, go_sem]) rfl ⟨rfl, Below.refl _ _⟩
set_option maxHeartbeats 1000000 in
theorem cut_yes (s : ByteArray) (w : World) (hl : s.size ≤ 1048576) (k : Nat) (hk : k = colI s.data.toList) (h : k < s.size) :
    Calls Tryz.prog 50 #[.string s, .string ⟨#[58]⟩] w fun e w' => e = .returned (.tuple #[.string (s.extract 0 k), .string (s.extract (k + 1) s.size), .bool true]) ∧ Below w.heap.size w w' := by
  have HI := Lib.hid (fun W => cutIn_yes s W hl k hk h)
  clear hk
  go_enter Tryz.func50, Tryz.ntmps50
  go_wp2_with fail
  with_reducible refine (HI.out _).mono ?_
  rintro e w1 ⟨rfl, hb⟩
  have HB := Lib.hid hb; clear hb
  go_wp2_with fail
  exact bodyPost_ret (v := .tuple #[.string (s.extract 0 k), .string (s.extract (k + 1) s.size), .bool true]) (by simp [results, Tryz.results50, go_sem]) rfl ⟨rfl, HB.out⟩
set_option maxHeartbeats 1000000 in
theorem cut_no (s : ByteArray) (w : World) (h : ¬ colI s.data.toList < s.size) :
    Calls Tryz.prog 50 #[.string s, .string ⟨#[58]⟩] w fun e w' => e = .returned (.tuple #[.string s, .string ⟨#[]⟩, .bool false]) ∧ Below w.heap.size w w' := by
  have HI := Lib.hid (fun W => cutIn_no s W h)
  clear h
  go_enter Tryz.func50, Tryz.ntmps50
  go_wp2_with fail
  with_reducible refine (HI.out _).mono ?_
  rintro e w1 ⟨rfl, hb⟩
  have HB := Lib.hid hb; clear hb
  go_wp2_with fail
  exact bodyPost_ret (v := .tuple #[.string s, .string ⟨#[]⟩, .bool false]) (by simp [results, Tryz.results50, go_sem]) rfl ⟨rfl, HB.out⟩
set_option maxHeartbeats 1000000 in
theorem goesOn_any (v : Value) (l : List UInt8) (x : Ln) (w : World) (hv : bytesArg w v l) (hx : x.f < l.length) :
    Calls Tryz.prog 38 #[v, lnV x] w fun e w' => e = .returned (.bool (onB l x)) ∧ Below w.heap.size w w' := by
  obtain ⟨ao, cap, rfl, hc, hm, hs⟩ := hv
  obtain ⟨b, off, rfl, hb, hcell⟩ := sliceAt.cell hs x.f hx
  have hB := Lib.hid (blank_any (l[x.f].toNat : Int))
  have HR : Hid (decide ((l[x.f].toNat : Int) = 32 ∨ (l[x.f].toNat : Int) = 9) = onB l x) := by
    unfold Hid onB blk
    rw [List.getD_eq_getElem?_getD, List.getElem?_eq_getElem hx]
    rfl
  obtain ⟨c, hcc⟩ : ∃ c, c = l[x.f] := ⟨_, rfl⟩
  rw [← hcc] at hB hcell HR
  unfold maxLen at hm
  clear hs hcc
  unfold lnV
  go_enter Tryz.func38, Tryz.ntmps38
  go_wp2_with fail
  with_reducible refine (hB.out _).mono ?_
  rintro e w1 ⟨rfl, rfl⟩
  rw [HR.out]
  go_wp2_with fail
  go_ret
  exact ⟨rfl, (Below.refl _ _).alloc (Nat.le_refl _) _⟩
end Go.Proofs.YtfgppamhbchhcaaGreatDoor
