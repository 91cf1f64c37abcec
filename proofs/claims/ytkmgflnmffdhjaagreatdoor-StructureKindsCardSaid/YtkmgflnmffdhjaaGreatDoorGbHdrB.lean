/- Contracts: Empty, of package lines and of the document. -/
import Derived.Test.YtkmgflnmffdhjaaGreatDoorGbLinesE
import Derived.Test.YtkmgflnmffdhjaaGreatDoorGbAppIn
import Derived.Test.YtkmgflnmffdhjaaGreatDoorShelf2
import Derived.Test.YtkmgflnmffdhjaaGreatDoorGbChars7
import Derived.LoopN
import Derived.Outline
import Derived.IntWalk
import Derived.BigQuiet
import Derived.Deep.QuietTactic
namespace Go.Proofs.YtkmgflnmffdhjaaGreatDoor
open Go Go.RowKit

/-- A slice of lines: what its cells hold. -/
def rowLn (W : World) (v : Value) (ls : List Ln) : Prop :=
  ∃ ao cap, v = .slice ao ls.length cap ∧ ls.length ≤ cap ∧ cap ≤ maxLen ∧ (ls = [] ∨ ∃ g, ao = some ⟨g, 0, none⟩ ∧ g < W.heap.size ∧
    ∀ i, (h : i < ls.length) → W.cell? ⟨g, i * 3, none⟩ = some (.int .i64 (ls[i].f : Int)) ∧ W.cell? ⟨g, i * 3 + 1, none⟩ = some (.int .i64 (ls[i].t : Int)) ∧ W.cell? ⟨g, i * 3 + 2, none⟩ = some (.int .i64 (ls[i].n : Int)))
theorem rowLn.below {W W' : World} {v : Value} {ls : List Ln} (h : rowLn W v ls) (hb : Below W.heap.size W W') : rowLn W' v ls := by
  obtain ⟨ao, cap, e, h1, h2, h3⟩ := h
  refine ⟨ao, cap, e, h1, h2, h3.imp id ?_⟩
  rintro ⟨g, e, hg, hc⟩
  refine ⟨g, e, Nat.lt_of_lt_of_le hg hb.size, fun i hi => ?_⟩
  obtain ⟨c0, c1, c2⟩ := hc i hi
  exact ⟨(hb.cell (p := ⟨g, i * 3, none⟩) hg).trans c0, (hb.cell (p := ⟨g, i * 3 + 1, none⟩) hg).trans c1, (hb.cell (p := ⟨g, i * 3 + 2, none⟩) hg).trans c2⟩
theorem lnCells_at (ls : List Ln) (i : Nat) (h : i < ls.length) : (lnCells ls)[i * 3]? = some (.int .i64 (ls[i].f : Int)) ∧ (lnCells ls)[i * 3 + 1]? = some (.int .i64 (ls[i].t : Int)) ∧ (lnCells ls)[i * 3 + 2]? = some (.int .i64 (ls[i].n : Int)) := by
  induction ls generalizing i with
  | nil => simp at h
  | cons x r ih =>
    have e : lnCells (x :: r) = lnC x ++ lnCells r := by simp [lnCells]
    rw [e]
    cases i with
    | zero => simp [lnC]
    | succ i =>
      have := ih i (by simpa using h)
      simp only [List.getElem_cons_succ]
      rw [List.getElem?_append_right (by simp [lnC]; omega), List.getElem?_append_right (by simp [lnC]; omega), List.getElem?_append_right (by simp [lnC]; omega)]
      simp only [lnC, List.length_cons, List.length_nil]
      rw [show (i + 1) * 3 - (0 + 1 + 1 + 1) = i * 3 by omega, show (i + 1) * 3 + 1 - (0 + 1 + 1 + 1) = i * 3 + 1 by omega, show (i + 1) * 3 + 2 - (0 + 1 + 1 + 1) = i * 3 + 2 by omega]
      exact this
theorem rowLn_owned {w : World} {base : Nat} {e : TypeId} {v : Value} {ls : List Ln} (h : w.ownsRow base e 3 v ls.length (lnCells ls)) : rowLn w v ls := by
  rcases h.2 with ⟨rfl, h0⟩ | ⟨g, cap, cur, rfl, _, hh, hc, hm, hs, ht⟩
  · obtain rfl : ls = [] := List.eq_nil_of_length_eq_zero h0
    exact ⟨none, 0, rfl, Nat.le_refl _, Nat.zero_le _, .inl rfl⟩
  · refine ⟨_, cap, rfl, hc, hm, .inr ⟨g, rfl, (Array.getElem?_eq_some_iff.1 hh).1, fun i hi => ?_⟩⟩
    obtain ⟨c0, c1, c2⟩ := lnCells_at ls i hi
    rw [← ht] at c0 c1 c2
    rw [List.getElem?_take, if_pos (by omega)] at c0 c1 c2
    simp only [World.cell?, hh]
    exact ⟨by simpa using c0, by simpa using c1, by simpa using c2⟩
theorem rowLn.at {W : World} {v : Value} {ls : List Ln} (h : rowLn W v ls) : ∃ ao cap, v = .slice ao ls.length cap ∧ ls.length ≤ cap ∧ cap ≤ maxLen ∧
    ∀ i, (h : i < ls.length) → ∃ g, ao = some ⟨g, 0, none⟩ ∧ g < W.heap.size ∧ W.cell? ⟨g, i * 3, none⟩ = some (.int .i64 (ls[i].f : Int)) ∧ W.cell? ⟨g, i * 3 + 1, none⟩ = some (.int .i64 (ls[i].t : Int)) ∧ W.cell? ⟨g, i * 3 + 2, none⟩ = some (.int .i64 (ls[i].n : Int)) := by
  obtain ⟨ao, cap, e, h1, h2, h3⟩ := h
  refine ⟨ao, cap, e, h1, h2, fun i hi => ?_⟩
  rcases h3 with rfl | ⟨g, e, hg, hc⟩
  · simp at hi
  · exact ⟨g, e, hg, hc i hi⟩

/-- Which line is the first without text. -/
def eI (ls : List Ln) : Nat := ls.findIdx (fun x => x.f == x.t)
def emptyS (ls : List Ln) : Int := if eI ls < ls.length then (eI ls : Int) else -1
theorem eI_step {ls : List Ln} {i : Nat} (h1 : i ≤ eI ls) (h : i < ls.length) (hne : ¬ ls[i].f = ls[i].t) : i + 1 ≤ eI ls := by
  rcases Nat.lt_or_ge i (eI ls) with h2 | h2
  · exact h2
  · have e : eI ls = i := by omega
    exfalso
    have h3 := List.findIdx_getElem (p := fun x : Ln => x.f == x.t) (xs := ls) (w := by show eI ls < _; omega)
    have h4 : (fun x : Ln => x.f == x.t) ls[i] = true := by
      have : ls.findIdx (fun x : Ln => x.f == x.t) = i := e
      simp only [this] at h3
      exact h3
    exact hne (by simpa using h4)
theorem eI_hit {ls : List Ln} {i : Nat} (h1 : i ≤ eI ls) (h : i < ls.length) (he : ls[i].f = ls[i].t) : emptyS ls = i := by
  have e : eI ls = i := by
    rcases Nat.lt_or_ge i (eI ls) with h2 | h2
    · have := List.not_of_lt_findIdx (p := fun x : Ln => x.f == x.t) h2
      simp [he] at this
    · omega
  unfold emptyS
  rw [e, if_pos h]
theorem eI_miss {ls : List Ln} (h1 : ls.length ≤ eI ls) : emptyS ls = -1 := by
  unfold emptyS
  rw [if_neg (by omega)]

set_option maxHeartbeats 1000000 in
theorem empty_any (v : Value) (ls : List Ln) (w : World) (hv : rowLn w v ls) :
    Calls Tryz.prog 77 #[v] w fun e w' => e = .returned (.int .i64 (emptyS ls)) ∧ Below w.heap.size w w' := by
  obtain ⟨ao, cap, rfl, hc, hm, hcell⟩ := hv.at
  have HC := Lib.hid hcell
  clear hv hcell
  unfold maxLen at hm
  go_enter Tryz.func77, Tryz.ntmps77
  go_wp2
  go_loopg [7] ls.length (fun q x7 wr => ∃ i : Nat, i ≤ ls.length ∧ q = ls.length - i ∧ x7 = .int .i64 i ∧ Hid (i ≤ eI ls) ∧ Hid (Below w.heap.size w wr))
  case atStart => exact ⟨0, by omega, by omega, rfl, Nat.zero_le _, Below.refl _ _⟩
  case round =>
    obtain ⟨i, hi, rfl, rfl, HE, HB⟩ := hrel
    by_cases hlt : i < ls.length
    · obtain ⟨g, rfl, hg, c0, c1, c2⟩ := HC.out i hlt
      have HS := Lib.hid (fun h => eI_step HE.out hlt h)
      have HT := Lib.hid (fun h => eI_hit HE.out hlt h)
      obtain ⟨x, hx⟩ : ∃ x, x = ls[i] := ⟨_, rfl⟩
      rw [← hx] at c0 c1 c2 HS HT
      replace c0 := (HB.out.cell (p := ⟨g, i * 3, none⟩) hg).trans c0
      replace c1 := (HB.out.cell (p := ⟨g, i * 3 + 1, none⟩) hg).trans c1
      replace c2 := (HB.out.cell (p := ⟨g, i * 3 + 2, none⟩) hg).trans c2
      have HBa : Hid (Below w.heap.size w (wr.alloc (.cells #[.int .i64 (x.f : Int), .int .i64 (x.t : Int), .int .i64 (x.n : Int)] 104))) := HB.out.alloc HB.out.size _
      clear hx
      by_cases heq : x.f = x.t
      · have HR := Lib.hid (HT.out heq)
        have hb : ((x.f : Int) == (x.t : Int)) = true := beq_yes (by omega)
        clear heq
        go_wp2
        go_ret
        exact ⟨ret_int HR.out.symm, HBa.out⟩
      · have HR := Lib.hid (HS.out heq)
        have hb : ((x.f : Int) == (x.t : Int)) = false := beq_no (by omega)
        go_wp2
        go_roundg (ls.length - (i + 1))
        case measure => omega
        case rel => exact ⟨i + 1, by omega, rfl, by go_num, HR.out, HBa.out⟩
    · obtain rfl : i = ls.length := by omega
      have HR := Lib.hid (eI_miss HE.out)
      go_wp2
      go_ret
      exact ⟨ret_int HR.out.symm, HB.out⟩

end Go.Proofs.YtkmgflnmffdhjaaGreatDoor

/- Contracts of package header: named, begun, goesOn; of strings.Cut at a byte. -/
namespace Go.Proofs.YtkmgflnmffdhjaaGreatDoor
open Go Go.RowKit

theorem namedB_nil {l : List UInt8} (h : l.length = 0) : namedB l = false := by
  have : l = [] := List.eq_nil_of_length_eq_zero h
  subst this
  rfl
theorem namedB_yes {l : List UInt8} (h : l.all nameB = true) (h0 : ¬ l.length = 0) : namedB l = true := by
  unfold namedB
  rw [h]
  cases l with
  | nil => simp at h0
  | cons c r => rfl
theorem namedB_no {l : List UInt8} (h : l.all nameB = false) : namedB l = false := by
  unfold namedB
  rw [h]
  rfl
theorem all_at_no {s : ByteArray} {p : UInt8 → Bool} {k : Nat} (h : k < s.size) (hd : p s[k] = false) : s.data.toList.all p = false := by
  rw [List.all_eq_false]
  refine ⟨s[k], ?_, by simp [hd]⟩
  have := bytes_get s k h
  exact List.mem_of_getElem? this
theorem all_take_snoc {s : ByteArray} {p : UInt8 → Bool} {k : Nat} (h : k < s.size) (ha : (s.data.toList.take k).all p = true) (hb : p s[k] = true) : (s.data.toList.take (k + 1)).all p = true := by
  rw [take_snoc s k h, List.all_append, ha]
  simp [hb]
set_option maxHeartbeats 1000000 in
theorem named_any (s : ByteArray) (w : World) (hl : s.size ≤ 9223372036854775807) :
    Calls Tryz.prog 80 #[.string s] w fun e w' => e = .returned (.bool (namedB s.data.toList)) ∧ w = w' := by
  have HL := Lib.hid (len_toList s)
  go_enter Tryz.func80, Tryz.ntmps80
  go_wp2
  go_loopg [3] s.size (fun q x3 wr => ∃ k : Nat, k ≤ s.size ∧ q = s.size - k ∧ x3 = .int .i64 k ∧ Hid ((s.data.toList.take k).all nameB = true) ∧ w = wr)
  case atStart => exact ⟨0, by omega, by omega, rfl, rfl, rfl⟩
  case round =>
    obtain ⟨k, hk, rfl, rfl, HA, rfl⟩ := hrel
    by_cases hlt : k < s.size
    · by_cases h1 : (s[k].toNat : Int) < 33
      · have HR : Hid (namedB s.data.toList = false) := namedB_no (all_at_no hlt (by unfold nameB; exact decide_eq_false (by omega)))
        go_wp2
        go_ret
        exact ⟨ret_bool HR.out.symm, rfl⟩
      · by_cases h2 : (s[k].toNat : Int) ≤ 126
        · have HR : Hid ((s.data.toList.take (k + 1)).all nameB = true) := all_take_snoc hlt HA.out (by unfold nameB; exact decide_eq_true (by omega))
          go_wp2
          go_roundg (s.size - (k + 1))
          case measure => omega
          case rel => exact ⟨k + 1, by omega, rfl, by go_num, HR, rfl⟩
        · have HR : Hid (namedB s.data.toList = false) := namedB_no (all_at_no hlt (by unfold nameB; exact decide_eq_false (by omega)))
          have h3 : (126 : Int) < s[k].toNat := by omega
          go_wp2
          go_ret
          exact ⟨ret_bool HR.out.symm, rfl⟩
    · obtain rfl : k = s.size := by omega
      have HA' : Hid (s.data.toList.all nameB = true) := by have := HA.out; rwa [take_all s _ hlt] at this
      by_cases h0 : s.size = 0
      · have HR : Hid (namedB s.data.toList = false) := namedB_nil (by rw [HL.out]; exact h0)
        have ht : s.toList = [] := (toList_nil_iff s).2 h0
        go_wp2
        go_ret
        exact ⟨ret_bool (by rw [HR.out]), rfl⟩
      · have HR : Hid (namedB s.data.toList = true) := namedB_yes HA'.out (by rw [HL.out]; exact h0)
        have ht : ¬ s.toList = [] := fun h => h0 ((toList_nil_iff s).1 h)
        go_wp2
        go_ret
        exact ⟨ret_bool (by rw [HR.out]; simpa using ht), rfl⟩

theorem indexByte_col : ∀ l : List UInt8, Lib.indexByte l 58 = if colI l < l.length then (colI l : Int) else -1
  | [] => rfl
  | c :: l => by
    have ih := indexByte_col l
    unfold Lib.indexByte
    have e : colI (c :: l) = if c == 58 then 0 else colI l + 1 := by
      unfold colI
      rw [List.findIdx_cons]
      cases c == 58 <;> rfl
    cases h : c == 58
    · have e' : colI (c :: l) = colI l + 1 := by rw [e, h]; rfl
      rw [e', List.length_cons, ih]
      simp only [Bool.false_eq_true, if_false]
      by_cases h1 : colI l < l.length
      · rw [if_pos h1, if_neg (show ¬ ((colI l : Int) == -1) = true by simp), if_pos (show colI l + 1 < l.length + 1 by omega)]
        omega
      · rw [if_neg h1, if_neg (show ¬ colI l + 1 < l.length + 1 by omega)]
        rfl
    · have e' : colI (c :: l) = 0 := by rw [e, h]; rfl
      rw [e', List.length_cons, if_pos (show 0 < l.length + 1 by omega)]
      simp
theorem index_yes (s : ByteArray) (w : World) (k : Nat) (hk : k = colI s.data.toList) (h : k < s.size) :
    Calls Tryz.prog 130 #[.string s, .string ⟨#[58]⟩] w fun e w' => e = .returned (.int .i64 k) ∧ w = w' := by
  refine (Tryz.stringslite_Index_one s 58 w).mono ?_
  rintro e w' ⟨rfl, rfl⟩
  refine ⟨?_, rfl⟩
  rw [indexByte_col, ← hk, if_pos (by rw [len_toList]; exact h)]
theorem index_no (s : ByteArray) (w : World) (h : ¬ colI s.data.toList < s.size) :
    Calls Tryz.prog 130 #[.string s, .string ⟨#[58]⟩] w fun e w' => e = .returned (.int .i64 (-1)) ∧ w = w' := by
  refine (Tryz.stringslite_Index_one s 58 w).mono ?_
  rintro e w' ⟨rfl, rfl⟩
  refine ⟨?_, rfl⟩
  rw [indexByte_col, if_neg (by rw [len_toList]; exact h)]
set_option maxHeartbeats 1000000 in
theorem cutIn_yes (s : ByteArray) (w : World) (hl : s.size ≤ 1048576) (k : Nat) (hk : k = colI s.data.toList) (h : k < s.size) :
    Calls Tryz.prog 100 #[.string s, .string ⟨#[58]⟩] w fun e w' => e = .returned (.tuple #[.string (s.extract 0 k), .string (s.extract (k + 1) s.size), .bool true]) ∧ Below w.heap.size w w' := by
  have HI := Lib.hid (fun W => index_yes s W k hk h)
  clear hk
  go_enter Tryz.func100, Tryz.ntmps100
  go_wp2_with fail
  with_reducible refine (HI.out _).mono ?_
  rintro e w1 ⟨rfl, rfl⟩
  have e1 : IntKind.i64.wrap ((k : Int) + 1) = (k : Int) + 1 := IntWalk.i64_in _ (by omega)
  have e2 : ((k : Int) + 1).toNat = k + 1 := by omega
  go_wp2_with fail
  go_quiet (fail)
  go_wp2
  exact bodyPost_ret (v := .tuple #[.string (s.extract 0 k), .string (s.extract (k + 1) s.size), .bool true]) (by simp [results, Tryz.results100, go_sem]) rfl ⟨rfl, below_drewN' _⟩
set_option maxHeartbeats 1000000 in
theorem cutIn_no (s : ByteArray) (w : World) (h : ¬ colI s.data.toList < s.size) :
    Calls Tryz.prog 100 #[.string s, .string ⟨#[58]⟩] w fun e w' => e = .returned (.tuple #[.string s, .string ⟨#[]⟩, .bool false]) ∧ Below w.heap.size w w' := by
  have HI := Lib.hid (fun W => index_no s W h)
  clear h
  go_enter Tryz.func100, Tryz.ntmps100
  go_wp2_with fail
  with_reducible refine (HI.out _).mono ?_
  rintro e w1 ⟨rfl, rfl⟩
  go_wp2
  exact bodyPost_ret (v := .tuple #[.string s, .string ⟨#[]⟩, .bool false]) (by simp [results, Tryz.results100, go_sem]) rfl ⟨rfl, Below.refl _ _⟩
set_option maxHeartbeats 1000000 in
theorem cut_yes (s : ByteArray) (w : World) (hl : s.size ≤ 1048576) (k : Nat) (hk : k = colI s.data.toList) (h : k < s.size) :
    Calls Tryz.prog 66 #[.string s, .string ⟨#[58]⟩] w fun e w' => e = .returned (.tuple #[.string (s.extract 0 k), .string (s.extract (k + 1) s.size), .bool true]) ∧ Below w.heap.size w w' := by
  have HI := Lib.hid (fun W => cutIn_yes s W hl k hk h)
  clear hk
  go_enter Tryz.func66, Tryz.ntmps66
  go_wp2_with fail
  with_reducible refine (HI.out _).mono ?_
  rintro e w1 ⟨rfl, hb⟩
  have HB := Lib.hid hb; clear hb
  go_wp2_with fail
  exact bodyPost_ret (v := .tuple #[.string (s.extract 0 k), .string (s.extract (k + 1) s.size), .bool true]) (by simp [results, Tryz.results66, go_sem]) rfl ⟨rfl, HB.out⟩
set_option maxHeartbeats 1000000 in
theorem cut_no (s : ByteArray) (w : World) (h : ¬ colI s.data.toList < s.size) :
    Calls Tryz.prog 66 #[.string s, .string ⟨#[58]⟩] w fun e w' => e = .returned (.tuple #[.string s, .string ⟨#[]⟩, .bool false]) ∧ Below w.heap.size w w' := by
  have HI := Lib.hid (fun W => cutIn_no s W h)
  clear h
  go_enter Tryz.func66, Tryz.ntmps66
  go_wp2_with fail
  with_reducible refine (HI.out _).mono ?_
  rintro e w1 ⟨rfl, hb⟩
  have HB := Lib.hid hb; clear hb
  go_wp2_with fail
  exact bodyPost_ret (v := .tuple #[.string s, .string ⟨#[]⟩, .bool false]) (by simp [results, Tryz.results66, go_sem]) rfl ⟨rfl, HB.out⟩
set_option maxHeartbeats 1000000 in
theorem goesOn_any (v : Value) (l : List UInt8) (x : Ln) (w : World) (hv : bytesArg w v l) (hx : x.f < l.length) :
    Calls Tryz.prog 42 #[v, lnV x] w fun e w' => e = .returned (.bool (onB l x)) ∧ Below w.heap.size w w' := by
  obtain ⟨ao, cap, rfl, hc, hm, hs⟩ := hv
  obtain ⟨b, off, rfl, hb, hcell⟩ := sliceAt.cell hs x.f hx
  have hB := Lib.hid (blank_any (l[x.f].toNat : Int))
  have HR : Hid (decide ((l[x.f].toNat : Int) = 32 ∨ (l[x.f].toNat : Int) = 9) = onB l x) := by
    unfold Hid onB blk
    rw [List.getD_eq_getElem?_getD, List.getElem?_eq_getElem hx]
    rfl
  obtain ⟨c, hcc⟩ : ∃ c, c = l[x.f] := ⟨_, rfl⟩
  rw [← hcc] at hB hcell HR
  unfold maxLen at hm
  clear hs hcc
  unfold lnV
  go_enter Tryz.func42, Tryz.ntmps42
  go_wp2_with fail
  with_reducible refine (hB.out _).mono ?_
  rintro e w1 ⟨rfl, rfl⟩
  rw [HR.out]
  go_wp2_with fail
  go_ret
  exact ⟨rfl, (Below.refl _ _).alloc (Nat.le_refl _) _⟩
end Go.Proofs.YtkmgflnmffdhjaaGreatDoor

/- Contracts of package header: begun. -/
namespace Go.Proofs.YtkmgflnmffdhjaaGreatDoor
open Go Go.RowKit

def fldV (x : Fld) : Value := .agg #[.string ⟨x.nm.toArray⟩, .int .i64 (x.f : Int), .int .i64 (x.b : Int), .int .i64 (x.t : Int)]
def fldC (x : Fld) : List Value := [.string ⟨x.nm.toArray⟩, .int .i64 (x.f : Int), .int .i64 (x.b : Int), .int .i64 (x.t : Int)]
def noFldV : Value := .agg #[.string ⟨#[]⟩, .int .i64 0, .int .i64 0, .int .i64 0]

theorem bcell {W w1 : World} (hb : Below W.heap.size W w1) : (∀ b o, b < W.heap.size → w1.cell? ⟨b, o, none⟩ = W.cell? ⟨b, o, none⟩) ∧ (∀ b o, b < W.heap.size → w1.frozen? ⟨b, o, none⟩ = W.frozen? ⟨b, o, none⟩) :=
  ⟨fun b o h => hb.cell (p := ⟨b, o, none⟩) h, fun b o h => hb.frozen (p := ⟨b, o, none⟩) h⟩
set_option maxHeartbeats 2000000 in
theorem begun_some (v : Value) (l : List UInt8) (x : Ln) (f : Fld) (w : World) (hv : bytesArg w v l) (h1 : x.f ≤ x.t) (h2 : x.t ≤ l.length) (hbig : l.length ≤ 1048576) (hf : begunS l x = some f) :
    Calls Tryz.prog 41 #[v, lnV x] w fun e w' => e = .returned (.tuple #[fldV f, .bool true]) ∧ Below w.heap.size w w' := by
  have HV := Lib.hid hv
  obtain ⟨ao, cap, rfl, hc, hm, hs⟩ := hv
  clear hs
  have HT := Lib.hid (fun W h => text_any (.slice ao l.length cap) l (x.f : Int) (x.t : Int) (x.n : Int) W h)
  rw [textS_nat l h1 h2] at HT
  have hlen := textOf_len (l := l) (x := x) h2
  unfold begunS at hf
  split at hf
  case isFalse => cases hf
  case isTrue hcd =>
    obtain ⟨hcol, hnm⟩ := hcd
    obtain rfl := Option.some.inj hf
    obtain ⟨S, hS⟩ : ∃ S : ByteArray, S = ⟨(partS l x.f x.t).toArray⟩ := ⟨_, rfl⟩
    have hSl : S.data.toList = textOf l x := by rw [hS]; rfl
    have hSs : S.size = x.t - x.f := by rw [← len_toList, hSl]; exact hlen
    obtain ⟨k, hk⟩ : ∃ k, k = colI (textOf l x) := ⟨_, rfl⟩
    have HC := Lib.hid (fun W => cut_yes S W (by omega) k (by rw [hSl]; exact hk) (by omega))
    obtain ⟨N, hN⟩ : ∃ N : ByteArray, N = ⟨(nameS (textOf l x)).toArray⟩ := ⟨_, rfl⟩
    obtain ⟨A, hA⟩ : ∃ A : ByteArray, A = S.extract 0 k := ⟨_, rfl⟩
    have hA1 : A.size = k := by rw [hA, extract_size' _ _ _ (by omega)]; rfl
    have hTR : ∀ W, Calls Tryz.prog 79 #[.string A, .string ⟨#[32, 9]⟩] W fun e w' => e = .returned (.string N) ∧ Below W.heap.size W w' := by
      intro W
      have := Tryz.strings_TrimRight_blank A W (by omega)
      rw [hN]
      have e : A.data.toList = (textOf l x).take (colI (textOf l x)) := by rw [hA, extract_toList, hSl, ← hk]; rfl
      rw [e] at this
      exact this
    have HTR := Lib.hid hTR
    have hNl : N.data.toList = nameS (textOf l x) := by rw [hN]
    have hNs : N.size ≤ 9223372036854775807 := by
      rw [← len_toList, hNl]
      unfold nameS Lib.trimRightS
      have h5 := (List.dropWhile_suffix (p := fun b => ([32, 9] : List UInt8).contains b) (l := ((textOf l x).take (colI (textOf l x))).reverse)).length_le
      simp only [List.length_reverse, List.length_take] at h5 ⊢
      omega
    have HNm := Lib.hid (fun W => named_any N W hNs)
    rw [hNl, hnm] at HNm
    rw [← hS] at HT
    rw [← hA] at HC
    have HF : Hid (fldV ⟨nameS (textOf l x), x.f, x.f + colI (textOf l x) + 1, x.n⟩ = .agg #[.string N, .int .i64 (x.f : Int), .int .i64 ((x.f : Int) + (A.size : Int) + 1), .int .i64 (x.n : Int)]) := by
      unfold Hid fldV
      rw [hA1, ← hk, hN, show ((x.f + k + 1 : Nat) : Int) = (x.f : Int) + (k : Int) + 1 by omega]
    have hA2 : A.size ≤ 1048576 := by omega
    obtain ⟨z, hz⟩ : ∃ z : ByteArray, z = S.extract (k + 1) S.size := ⟨_, rfl⟩
    rw [← hz] at HC
    rw [HF.out]
    clear hA hA1 hN hNl hNs hTR hS hSl hSs hk hcol hnm hlen hz
    unfold lnV
    go_enter Tryz.func41, Tryz.ntmps41
    go_wp2_with fail
    with_reducible refine (HT.out _ ?h1).mono ?_
    case h1 => exact bytesArg.below HV.out (((Below.refl _ _).alloc (Nat.le_refl _) _).alloc (by simp) _)
    rintro e w1 ⟨rfl, hb1⟩
    have HB1 := Lib.hid hb1; clear hb1
    go_wp2_with fail
    with_reducible refine (HC.out _).mono ?_
    rintro e w2 ⟨rfl, hb2⟩
    have HB2 := Lib.hid (HB1.out.trans (hb2.mono HB1.out.size)); clear hb2
    go_wp2_with fail
    with_reducible refine (HTR.out _).mono ?_
    rintro e w3 ⟨rfl, hb3⟩
    have HB3 := Lib.hid (HB2.out.trans (hb3.mono HB2.out.size)); clear hb3
    go_wp2_with fail
    with_reducible refine (HNm.out _).mono ?_
    rintro e w4 ⟨rfl, rfl⟩
    obtain ⟨hc, hf⟩ := bcell HB3.out
    have hz : w.heap.size + 1 < w3.heap.size := by have := HB3.out.size; simp at this; omega
    have HBa : Hid (Below w.heap.size w w3) := (((Below.refl _ _).alloc (Nat.le_refl _) _).alloc (by simp) _).trans (HB3.out.mono (by simp; omega))
    clear HB1 HB2 HB3 HC HTR HNm HT HV
    go_wp2_with fail
    refine bodyPost_ret (v := .tuple #[.agg #[.string N, .int .i64 (x.f : Int), .int .i64 ((x.f : Int) + (A.size : Int) + 1), .int .i64 (x.n : Int)], .bool true]) (by simp [results, Tryz.results41, go_sem, hc]) rfl ⟨rfl, ?_⟩
    exact ((((HBa.out.setCell (by simp) _).setCell (by simp) _).setCell (by simp) _).setCell (by simp) _)
set_option maxHeartbeats 2000000 in
theorem begun_noName (v : Value) (l : List UInt8) (x : Ln) (w : World) (hv : bytesArg w v l) (h1 : x.f ≤ x.t) (h2 : x.t ≤ l.length) (hbig : l.length ≤ 1048576) (hcol : colI (textOf l x) < (textOf l x).length) (hnm : namedB (nameS (textOf l x)) = false) :
    Calls Tryz.prog 41 #[v, lnV x] w fun e w' => e = .returned (.tuple #[noFldV, .bool false]) ∧ Below w.heap.size w w' := by
  have HV := Lib.hid hv
  obtain ⟨ao, cap, rfl, hc, hm, hs⟩ := hv
  clear hs
  have HT := Lib.hid (fun W h => text_any (.slice ao l.length cap) l (x.f : Int) (x.t : Int) (x.n : Int) W h)
  rw [textS_nat l h1 h2] at HT
  have hlen := textOf_len (l := l) (x := x) h2
  obtain ⟨S, hS⟩ : ∃ S : ByteArray, S = ⟨(partS l x.f x.t).toArray⟩ := ⟨_, rfl⟩
  have hSl : S.data.toList = textOf l x := by rw [hS]; rfl
  have hSs : S.size = x.t - x.f := by rw [← len_toList, hSl]; exact hlen
  obtain ⟨k, hk⟩ : ∃ k, k = colI (textOf l x) := ⟨_, rfl⟩
  have HC := Lib.hid (fun W => cut_yes S W (by omega) k (by rw [hSl]; exact hk) (by omega))
  obtain ⟨N, hN⟩ : ∃ N : ByteArray, N = ⟨(nameS (textOf l x)).toArray⟩ := ⟨_, rfl⟩
  obtain ⟨A, hA⟩ : ∃ A : ByteArray, A = S.extract 0 k := ⟨_, rfl⟩
  have hA1 : A.size = k := by rw [hA, extract_size' _ _ _ (by omega)]; rfl
  have hTR : ∀ W, Calls Tryz.prog 79 #[.string A, .string ⟨#[32, 9]⟩] W fun e w' => e = .returned (.string N) ∧ Below W.heap.size W w' := by
    intro W
    have := Tryz.strings_TrimRight_blank A W (by omega)
    rw [hN]
    have e : A.data.toList = (textOf l x).take (colI (textOf l x)) := by rw [hA, extract_toList, hSl, ← hk]; rfl
    rw [e] at this
    exact this
  have HTR := Lib.hid hTR
  have hNl : N.data.toList = nameS (textOf l x) := by rw [hN]
  have hNs : N.size ≤ 9223372036854775807 := by
    rw [← len_toList, hNl]
    unfold nameS Lib.trimRightS
    have h5 := (List.dropWhile_suffix (p := fun b => ([32, 9] : List UInt8).contains b) (l := ((textOf l x).take (colI (textOf l x))).reverse)).length_le
    simp only [List.length_reverse, List.length_take] at h5 ⊢
    omega
  have HNm := Lib.hid (fun W => named_any N W hNs)
  rw [hNl, hnm] at HNm
  rw [← hS] at HT
  rw [← hA] at HC
  have hA2 : A.size ≤ 1048576 := by omega
  obtain ⟨z, hz⟩ : ∃ z : ByteArray, z = S.extract (k + 1) S.size := ⟨_, rfl⟩
  rw [← hz] at HC
  clear hA hA1 hN hNl hNs hTR hS hSl hSs hk hcol hnm hlen hz
  unfold lnV
  go_enter Tryz.func41, Tryz.ntmps41
  go_wp2_with fail
  with_reducible refine (HT.out _ ?h1).mono ?_
  case h1 => exact bytesArg.below HV.out (((Below.refl _ _).alloc (Nat.le_refl _) _).alloc (by simp) _)
  rintro e w1 ⟨rfl, hb1⟩
  have HB1 := Lib.hid hb1; clear hb1
  go_wp2_with fail
  with_reducible refine (HC.out _).mono ?_
  rintro e w2 ⟨rfl, hb2⟩
  have HB2 := Lib.hid (HB1.out.trans (hb2.mono HB1.out.size)); clear hb2
  go_wp2_with fail
  with_reducible refine (HTR.out _).mono ?_
  rintro e w3 ⟨rfl, hb3⟩
  have HB3 := Lib.hid (HB2.out.trans (hb3.mono HB2.out.size)); clear hb3
  go_wp2_with fail
  with_reducible refine (HNm.out _).mono ?_
  rintro e w4 ⟨rfl, rfl⟩
  obtain ⟨hc, hf⟩ := bcell HB3.out
  have hz : w.heap.size + 1 < w3.heap.size := by have := HB3.out.size; simp at this; omega
  have HBa : Hid (Below w.heap.size w w3) := (((Below.refl _ _).alloc (Nat.le_refl _) _).alloc (by simp) _).trans (HB3.out.mono (by simp; omega))
  clear HB1 HB2 HB3 HC HTR HNm HT HV
  go_wp2_with fail
  refine bodyPost_ret (v := .tuple #[.agg #[.string ⟨#[]⟩, .int .i64 0, .int .i64 0, .int .i64 0], .bool false]) (by simp [results, Tryz.results41, go_sem, hc]) rfl ⟨rfl, ?_⟩
  exact ((((HBa.out.setCell (by simp) _).setCell (by simp) _).setCell (by simp) _).setCell (by simp) _)
set_option maxHeartbeats 2000000 in
theorem begun_noCol (v : Value) (l : List UInt8) (x : Ln) (w : World) (hv : bytesArg w v l) (h1 : x.f ≤ x.t) (h2 : x.t ≤ l.length) (hbig : l.length ≤ 1048576) (hcol : ¬ colI (textOf l x) < (textOf l x).length) :
    Calls Tryz.prog 41 #[v, lnV x] w fun e w' => e = .returned (.tuple #[noFldV, .bool false]) ∧ Below w.heap.size w w' := by
  have HV := Lib.hid hv
  obtain ⟨ao, cap, rfl, hc, hm, hs⟩ := hv
  clear hs
  have HT := Lib.hid (fun W h => text_any (.slice ao l.length cap) l (x.f : Int) (x.t : Int) (x.n : Int) W h)
  rw [textS_nat l h1 h2] at HT
  have hlen := textOf_len (l := l) (x := x) h2
  obtain ⟨S, hS⟩ : ∃ S : ByteArray, S = ⟨(partS l x.f x.t).toArray⟩ := ⟨_, rfl⟩
  have hSl : S.data.toList = textOf l x := by rw [hS]; rfl
  have hSs : S.size = x.t - x.f := by rw [← len_toList, hSl]; exact hlen
  have HC := Lib.hid (fun W => cut_no S W (by rw [hSl, ← len_toList, hSl]; exact hcol))
  obtain ⟨N, hN⟩ : ∃ N : ByteArray, N = ⟨(Lib.trimRightS S.data.toList [32, 9]).toArray⟩ := ⟨_, rfl⟩
  have HTR := Lib.hid (fun W => Tryz.strings_TrimRight_blank S W (by omega))
  rw [← hS] at HT
  rw [← hN] at HTR
  clear hN hS hSl hSs hcol hlen
  unfold lnV
  go_enter Tryz.func41, Tryz.ntmps41
  go_wp2_with fail
  with_reducible refine (HT.out _ ?h1).mono ?_
  case h1 => exact bytesArg.below HV.out (((Below.refl _ _).alloc (Nat.le_refl _) _).alloc (by simp) _)
  rintro e w1 ⟨rfl, hb1⟩
  have HB1 := Lib.hid hb1; clear hb1
  go_wp2_with fail
  with_reducible refine (HC.out _).mono ?_
  rintro e w2 ⟨rfl, hb2⟩
  have HB2 := Lib.hid (HB1.out.trans (hb2.mono HB1.out.size)); clear hb2
  go_wp2_with fail
  with_reducible refine (HTR.out _).mono ?_
  rintro e w3 ⟨rfl, hb3⟩
  have HB3 := Lib.hid (HB2.out.trans (hb3.mono HB2.out.size)); clear hb3
  obtain ⟨hc, hf⟩ := bcell HB3.out
  have hz : w.heap.size + 1 < w3.heap.size := by have := HB3.out.size; simp at this; omega
  have HBa : Hid (Below w.heap.size w w3) := (((Below.refl _ _).alloc (Nat.le_refl _) _).alloc (by simp) _).trans (HB3.out.mono (by simp; omega))
  clear HB1 HB2 HB3 HC HTR HT HV
  go_wp2_with fail
  refine bodyPost_ret (v := .tuple #[.agg #[.string ⟨#[]⟩, .int .i64 0, .int .i64 0, .int .i64 0], .bool false]) (by simp [results, Tryz.results41, go_sem, hc]) rfl ⟨rfl, ?_⟩
  exact ((((HBa.out.setCell (by simp) _).setCell (by simp) _).setCell (by simp) _).setCell (by simp) _)
theorem begun_none (v : Value) (l : List UInt8) (x : Ln) (w : World) (hv : bytesArg w v l) (h1 : x.f ≤ x.t) (h2 : x.t ≤ l.length) (hbig : l.length ≤ 1048576) (hf : begunS l x = none) :
    Calls Tryz.prog 41 #[v, lnV x] w fun e w' => e = .returned (.tuple #[noFldV, .bool false]) ∧ Below w.heap.size w w' := by
  unfold begunS at hf
  split at hf
  case isTrue => cases hf
  case isFalse hcd =>
    by_cases hcol : colI (textOf l x) < (textOf l x).length
    · exact begun_noName v l x w hv h1 h2 hbig hcol (by
        rcases Bool.eq_false_or_eq_true (namedB (nameS (textOf l x))) with h | h
        · exact absurd ⟨hcol, h⟩ hcd
        · exact h)
    · exact begun_noCol v l x w hv h1 h2 hbig hcol
end Go.Proofs.YtkmgflnmffdhjaaGreatDoor
