/- Contracts of package words: cut, taken; what the library does for it: IndexByte, CutPrefix, Cut at one byte, ContainsFunc of blanks. -/
import Derived.Test.YtolkjaebhhbilaaDoorWdK
import Derived.Test.YtolkjaebhhbilaaDoorWdN
import Derived.Test.YtolkjaebhhbilaaDoorShelf
import Derived.Test.YtolkjaebhhbilaaDoorChars3
import Derived.BigQuiet
import Derived.Outline
namespace Go.Proofs.YtolkjaebhhbilaaDoor
open Go Go.RowKit

def intsOf (l : List UInt8) : List Int := l.map fun b => (b.toNat : Int)
theorem intsOf_len (l : List UInt8) : (intsOf l).length = l.length := by simp [intsOf]
theorem bytesOf_ints (l : List UInt8) : Lib.bytesOf (intsOf l) = l := by
  unfold Lib.bytesOf intsOf
  rw [List.map_map]
  conv => rhs; rw [← List.map_id l]
  apply List.map_congr_left
  intro b _
  apply toNat_eq
  have := b.toNat_lt
  simp
theorem sliceAt.ints {w : World} {ao : Option Addr} {l : List UInt8} (h : sliceAt w ao l) : Lib.BytesIn w ao l.length (intsOf l) := by
  intro hn
  rcases h with rfl | ⟨b, off, rfl, hb, hc⟩
  · simp at hn
  · refine ⟨b, off, rfl, fun i hi => ?_⟩
    rw [hc i hi]
    simp [byteV, intsOf, List.getD, hi]
theorem sliceAt.addr {w : World} {b off : Nat} {l : List UInt8} (h : sliceAt w (some ⟨b, off, none⟩) l) : ∀ i, i < l.length → w.cell? ((⟨b, off, none⟩ : Addr).add i) = some (.int .u8 ((intsOf l).getD i 0)) := by
  intro i hi
  rcases h with rfl | ⟨b', off', e, hb, hc⟩
  · simp at hi
  · cases e
    rw [Addr.add_lit, hc i hi]
    simp [byteV, intsOf, List.getD, hi]

/-- A slice of bytes: nil, or at an address. -/
def nzArg (W : World) (v : Value) (l : List UInt8) : Prop := bytesArg W v l ∧ (v = .slice none 0 0 ∨ ∃ b off n cap, v = .slice (some ⟨b, off, none⟩) n cap)
theorem nzArg.below {W W' : World} {v : Value} {l : List UInt8} (h : nzArg W v l) (hb : Below W.heap.size W W') : nzArg W' v l := ⟨h.1.below hb, h.2⟩
theorem nzArg_nil (W : World) : nzArg W (.slice none 0 0) [] := ⟨⟨none, 0, rfl, Nat.le_refl _, Nat.zero_le _, .inl rfl⟩, .inl rfl⟩
theorem nzArg_some {W : World} {b off cap : Nat} {l : List UInt8} (h : sliceAt W (some ⟨b, off, none⟩) l) (h1 : l.length ≤ cap) (h2 : cap ≤ maxLen) : nzArg W (.slice (some ⟨b, off, none⟩) l.length cap) l :=
  ⟨h.arg h1 h2, .inr ⟨_, _, _, _, rfl⟩⟩
theorem nzArg.at {W : World} {v : Value} {l : List UInt8} (h : nzArg W v l) : (v = .slice none 0 0 ∧ l = []) ∨ ∃ b off cap, v = .slice (some ⟨b, off, none⟩) l.length cap ∧ l.length ≤ cap ∧ cap ≤ maxLen ∧ sliceAt W (some ⟨b, off, none⟩) l := by
  obtain ⟨⟨ao, cap, rfl, h1, h2, h3⟩, h4⟩ := h
  rcases h4 with h4 | ⟨b, off, n, c, h4⟩
  · obtain ⟨e1, e2, e3⟩ := Value.slice.inj h4
    subst e1 e3
    obtain rfl := List.eq_nil_of_length_eq_zero e2
    exact .inl ⟨rfl, rfl⟩
  · cases h4
    exact .inr ⟨b, off, cap, rfl, h1, h2, h3⟩
theorem nzArg_from {W : World} {b off cap k n : Nat} {l : List UInt8} (hn : l.length = n) (h : sliceAt W (some ⟨b, off, none⟩) l) (hk : k ≤ n) (h1 : n ≤ cap) (h2 : cap ≤ maxLen) : nzArg W (Lib.sliceFrom b off n cap k) (l.drop k) := by
  subst hn
  unfold Lib.sliceFrom
  have e : l.length - k = (l.drop k).length := by rw [List.length_drop]
  rw [e]
  split
  · next hc => exact nzArg_some (.inl (List.drop_eq_nil_of_le (by omega))) (by rw [List.length_drop]; omega) (by omega)
  · exact nzArg_some h.drop (by rw [List.length_drop]; omega) (by omega)

theorem index_any (v : Value) (l : List UInt8) (c : UInt8) (w : World) (hv : nzArg w v l) :
    Calls Tryd.prog 39 #[v, .int .u8 (c.toNat : Int)] w fun e w' => e = .returned (.int .i64 (if idxB c l < l.length then (idxB c l : Int) else -1)) ∧ w = w' := by
  rcases hv.at with ⟨rfl, rfl⟩ | ⟨b, off, cap, rfl, h1, h2, hs⟩
  · refine (Tryd.bytes_IndexByte_nil (c.toNat : Int) w).mono ?_
    rintro e w' ⟨rfl, rfl⟩
    exact ⟨rfl, rfl⟩
  · refine (Tryd.bytes_IndexByte_at ⟨b, off, none⟩ l.length cap (intsOf l) (c.toNat : Int) w (intsOf_len l) hs.addr).mono ?_
    rintro e w' ⟨rfl, rfl⟩
    refine ⟨ret_int ?_, rfl⟩
    rw [bytesOf_ints, ← indexByte_idx]
    congr 1
    apply toNat_eq
    have := c.toNat_lt
    simp
theorem prefix_is (pre l : List UInt8) : Lib.hasPrefix l pre = pre.isPrefixOf l := rfl
theorem cutPrefix_any (v : Value) (l pre : List UInt8) (B m : Nat) (w : World) (hv : nzArg w v l) (hm : pre.length = m) (hp : 0 < m) (hB : sliceAt w (some ⟨B, 0, none⟩) pre) :
    Calls Tryd.prog 27 #[v, .slice (some ⟨B, 0, none⟩) m m] w fun e w' => (∃ u, e = .returned (.tuple #[u, .bool (pre.isPrefixOf l)]) ∧ nzArg w u (if pre.isPrefixOf l then l.drop m else l)) ∧ w = w' := by
  subst hm
  rcases hv.at with ⟨rfl, rfl⟩ | ⟨b, off, cap, rfl, h1, h2, hs⟩
  · refine (Tryd.bytes_CutPrefix_all none (some ⟨B, 0, none⟩) 0 0 pre.length pre.length (intsOf []) (intsOf pre) w rfl (intsOf_len pre) (Nat.le_refl _) (Lib.BytesIn.nil w none _) hB.ints).mono ?_
    rintro e w' ⟨rfl, rfl⟩
    have e : pre.isPrefixOf [] = false := by
      cases pre with
      | nil => simp at hp
      | cons x t => rfl
    have e2 : Lib.hasPrefix (Lib.bytesOf (intsOf [])) (Lib.bytesOf (intsOf pre)) = pre.isPrefixOf [] := by rw [bytesOf_ints, bytesOf_ints]; rfl
    have e1 : Lib.trimPrefixV none 0 0 (intsOf []) (intsOf pre) = .slice none 0 0 := by cases pre <;> rfl
    rw [e2, e1, e]
    exact ⟨⟨_, rfl, hv⟩, rfl⟩
  · refine (Tryd.bytes_CutPrefix_all (some ⟨b, off, none⟩) (some ⟨B, 0, none⟩) l.length cap pre.length pre.length (intsOf l) (intsOf pre) w (intsOf_len l) (intsOf_len pre) h1 hs.ints hB.ints).mono ?_
    rintro e w' ⟨rfl, rfl⟩
    have e2 : Lib.hasPrefix (Lib.bytesOf (intsOf l)) (Lib.bytesOf (intsOf pre)) = pre.isPrefixOf l := by rw [bytesOf_ints, bytesOf_ints]; rfl
    have e1 : Lib.trimPrefixV (some ⟨b, off, none⟩) l.length cap (intsOf l) (intsOf pre) = Lib.bytesTrimPrefix b off l.length cap (intsOf l) (intsOf pre) := by
      cases pre with
      | nil => simp at hp
      | cons x t => rfl
    refine ⟨⟨_, by rw [e2], ?_⟩, rfl⟩
    rw [e1]
    unfold Lib.bytesTrimPrefix
    rw [e2, intsOf_len]
    cases hq : pre.isPrefixOf l with
    | false =>
      rw [if_neg (by decide), if_neg (by decide)]
      exact hv
    | true =>
      rw [if_pos rfl, if_pos rfl]
      have hle : pre.length ≤ l.length := (List.isPrefixOf_iff_prefix.1 hq).length_le
      exact nzArg_from rfl hs hle h1 h2

/-- Both parts; nothing, if there is no sign. -/
def cutP (l : List UInt8) : List UInt8 × List UInt8 := (cutQ l).getD ([], [])
theorem cutP_yes {l : List UInt8} (h : idxB 63 l < l.length) : cutP l = (l.take (idxB 63 l), l.drop (idxB 63 l + 1)) := by unfold cutP cutQ; rw [if_pos h]; rfl
theorem cutP_no {l : List UInt8} (h : ¬ idxB 63 l < l.length) : cutP l = ([], []) := by unfold cutP cutQ; rw [if_neg h]; rfl
def cutPost (l : List UInt8) (w : World) (e : Ending) (w' : World) : Prop := ∃ u1 u2, e = .returned (.tuple #[u1, u2]) ∧ nzArg w u1 (cutP l).1 ∧ nzArg w u2 (cutP l).2 ∧ Below w.heap.size w w'
set_option maxRecDepth 100000 in
theorem cut_any (v : Value) (l : List UInt8) (w : World) (hv : nzArg w v l) (hl : l.length ≤ 1000000) :
    Calls Tryd.prog 28 #[v] w (cutPost l w) := by
  have HI : Hid (Calls Tryd.prog 39 #[v, .int .u8 63] w fun e w' => e = .returned (.int .i64 (if idxB 63 l < l.length then (idxB 63 l : Int) else -1)) ∧ w = w') := index_any v l 63 w hv
  rcases hv.at with ⟨rfl, rfl⟩ | ⟨b, off, cap, rfl, h1, h2, hs⟩
  · have HV := Lib.hid hv
    have HI0 : Hid (Calls Tryd.prog 39 #[.slice none 0 0, .int .u8 63] w fun e w' => e = .returned (.int .i64 (-1)) ∧ w = w') := HI.out
    clear hv HI
    go_enter Tryd.func28, Tryd.ntmps28
    go_wp2_with fail
    with_reducible refine HI0.out.mono ?_
    rintro e w1 ⟨rfl, rfl⟩
    go_wp2_with fail
    go_ret2
    exact ⟨_, _, rfl, nzArg_nil w, nzArg_nil w, Below.refl _ _⟩
  · unfold maxLen at h2
    by_cases hi : idxB 63 l < l.length
    · rw [if_pos hi] at HI
      have HY := Lib.hid (cutP_yes hi)
      obtain ⟨i, hii⟩ : ∃ i, i = idxB 63 l := ⟨_, rfl⟩
      rw [← hii] at HI HY hi
      have HA : Hid (nzArg w (.slice (some ⟨b, off, none⟩) i i) (l.take i)) := by
        have e : i = (l.take i).length := by rw [List.length_take]; omega
        have := nzArg_some (cap := i) (hs.take i) (by omega) (by unfold maxLen; omega)
        rw [← e] at this
        exact this
      have HR : Hid (nzArg w (Lib.sliceFrom b off l.length cap (i + 1)) (l.drop (i + 1))) := nzArg_from rfl hs hi h1 (by unfold maxLen; omega)
      unfold Lib.sliceFrom at HR
      clear hii hs hv
      by_cases hcap : cap = i + 1
      · rw [if_pos hcap] at HR
        subst hcap
        go_enter Tryd.func28, Tryd.ntmps28
        go_wp2_with fail
        with_reducible refine HI.out.mono ?_
        rintro e w1 ⟨rfl, rfl⟩
        go_wp2_with fail
        go_quiet (fail)
        go_wp2
        go_ret2
        refine ⟨_, _, rfl, ?_, ?_, below_drewN' _⟩
        · rw [HY.out]
          exact HA.out
        · rw [HY.out]
          have e0 := HR.out
          try rw [show l.length - (i + 1) = 0 by omega] at e0
          simpa using e0
      · rw [if_neg hcap] at HR
        go_enter Tryd.func28, Tryd.ntmps28
        go_wp2_with fail
        with_reducible refine HI.out.mono ?_
        rintro e w1 ⟨rfl, rfl⟩
        go_wp2_with fail
        go_quiet (fail)
        go_wp2
        go_ret2
        refine ⟨_, _, rfl, ?_, ?_, below_drewN' _⟩
        · rw [HY.out]
          exact HA.out
        · rw [HY.out]
          have e0 := HR.out
          exact e0
    · rw [if_neg hi] at HI
      have HN := Lib.hid (cutP_no hi)
      clear hi hs hv
      go_enter Tryd.func28, Tryd.ntmps28
      go_wp2_with fail
      with_reducible refine HI.out.mono ?_
      rintro e w1 ⟨rfl, rfl⟩
      go_wp2_with fail
      go_ret2
      refine ⟨_, _, rfl, ?_, ?_, Below.refl _ _⟩
      · rw [HN.out]; exact nzArg_nil w
      · rw [HN.out]; exact nzArg_nil w

/-! ### How many bytes a word takes -/
theorem cont_start (c : UInt8) : Lib.runeStart (c.toNat : Int) = !contB c := by
  have hc := c.toNat_lt
  unfold Lib.runeStart contB
  rw [Bool.eq_iff_iff]
  simp
  omega
set_option maxRecDepth 100000 in
set_option maxHeartbeats 1000000 in
theorem taken_any (v : Value) (l : List UInt8) (w : World) (hv : bytesArg w v l) (hl : l.length ≤ 1000000) :
    Calls Tryd.prog 12 #[v] w fun e w' => e = .returned (.int .i64 (takenN l : Nat)) ∧ w = w' := by
  obtain ⟨ao, cap, rfl, hc, hm, hs⟩ := hv
  unfold maxLen at hm
  by_cases h45 : l.length ≤ 45
  · have h45i : (l.length : Int) ≤ 45 := by omega
    have HT : Hid (takenN l = l.length) := by unfold Hid takenN; rw [if_pos h45]
    clear hs
    go_enter Tryd.func12, Tryd.ntmps12
    go_wp2_with fail
    go_ret
    exact ⟨ret_int (by rw [HT.out]), rfl⟩
  · have h45i : ¬ (l.length : Int) ≤ 45 := by omega
    have HT : Hid (takenN l = if backL l 45 = 0 then 45 else backL l 45) := by unfold Hid takenN; rw [if_neg h45]
    rcases hs with rfl | ⟨b, off, rfl, hb, hcell⟩
    · simp at h45
    have HC := Lib.hid hcell
    have HRs := Lib.hid (fun (c : UInt8) W => Tryd.utf8_RuneStart (c.toNat : Int) W (by omega) (by have := c.toNat_lt; omega))
    clear hcell
    go_enter Tryd.func12, Tryd.ntmps12
    go_wp2_with fail
    go_loopg [3] 45 (fun g x3 wr => ∃ n : Nat, n ≤ 45 ∧ g = 0 + n ∧ x3 = .int .i64 (n : Int) ∧ Hid (backL l 45 = backL l n) ∧ w = wr)
    case atStart => exact ⟨45, Nat.le_refl _, by omega, rfl, rfl, rfl⟩
    case round =>
      obtain ⟨n, hn, rfl, rfl, HB, rfl⟩ := hrel
      by_cases h0 : 0 < n
      · obtain ⟨m, rfl⟩ : ∃ m, n = m + 1 := ⟨n - 1, by omega⟩
        have hlt : m + 1 < l.length := by omega
        have x0 := HC.out (m + 1) hlt
        obtain ⟨c, hcc⟩ : ∃ c, c = l[m + 1] := ⟨_, rfl⟩
        rw [← hcc] at x0
        have hx : w.cell? ⟨b, off + (m + 1), none⟩ = some (.int .u8 (c.toNat : Int)) := x0
        have hg : l.getD (m + 1) 0 = c := by rw [List.getD_eq_getElem?_getD, List.getElem?_eq_getElem hlt, hcc]; rfl
        have HR1 := Lib.hid (HRs.out c w)
        rw [cont_start c] at HR1
        cases hq : contB c with
        | true =>
          rw [hq] at HR1
          have HS : Hid (backL l (m + 1) = backL l m) := by
            unfold Hid
            rw [backL, hg, hq, if_pos rfl]
          clear x0 hg hcc hq
          go_wp2_with fail
          with_reducible refine HR1.out.mono ?_
          rintro e w' ⟨rfl, rfl⟩
          go_wp2_with fail
          go_roundg m
          case measure => omega
          case rel => exact ⟨m, by omega, by omega, by go_num, by unfold Hid; rw [HB.out, HS.out], rfl⟩
        | false =>
          rw [hq] at HR1
          have HS : Hid (backL l (m + 1) = m + 1) := by
            unfold Hid
            rw [backL, hg, hq, if_neg (by decide)]
          clear x0 hg hcc hq
          go_wp2_with fail
          with_reducible refine HR1.out.mono ?_
          rintro e w' ⟨rfl, rfl⟩
          go_wp2_with fail
          go_ret
          refine ⟨ret_int ?_, rfl⟩
          rw [HT.out, HB.out, HS.out, if_neg (by omega)]
          omega
      · obtain rfl : n = 0 := by omega
        have HS : Hid (backL l 0 = 0) := rfl
        go_wp2_with fail
        go_ret
        refine ⟨ret_int ?_, rfl⟩
        rw [HT.out, HB.out, HS.out, if_pos rfl]
        rfl

/-! ### Blanks among bytes -/
theorem blank_bool (c : UInt8) (w : World) : Calls Tryd.prog 18 #[.int .u8 (c.toNat : Int)] w fun e w' => e = .returned (.bool (blk c)) ∧ w = w' := blank_any (c.toNat : Int) w
set_option maxRecDepth 100000 in
set_option maxHeartbeats 1000000 in
theorem indexBlank_any (v : Value) (l : List UInt8) (w : World) (hv : bytesArg w v l) (hl : l.length ≤ 1000000) :
    Calls Tryd.prog 40 #[v, .func (.func 18) #[] #[]] w fun e w' => (∃ n : Int, e = .returned (.int .i64 n) ∧ (0 ≤ n ↔ l.any blk = true)) ∧ w = w' := by
  obtain ⟨ao, cap, rfl, hc, hm, hs⟩ := hv
  unfold maxLen at hm
  have HS := Lib.hid hs
  have HBk := Lib.hid blank_bool
  clear hs
  go_enter Tryd.func40, Tryd.ntmps40
  go_wp2_with fail
  go_loopg [5, 8] l.length (fun g x5 x8 wr => ∃ i : Nat, i ≤ l.length ∧ g = l.length - i ∧ x8 = .int .i64 (i : Int) ∧ Hid (l.any blk = (l.drop i).any blk) ∧ w = wr)
  case atStart => exact ⟨0, by omega, by omega, rfl, by unfold Hid; rw [List.drop_zero], rfl⟩
  case round =>
    obtain ⟨i, hi, rfl, rfl, HA, rfl⟩ := hrel
    by_cases hlt : i < l.length
    · rcases HS.out with e | ⟨b, off, rfl, hb, hcell⟩
      · rw [e] at hlt; simp at hlt
      have x0 := hcell i hlt
      obtain ⟨c, hcc⟩ : ∃ c, c = l[i] := ⟨_, rfl⟩
      rw [← hcc] at x0
      have hx : w.cell? ⟨b, off + i, none⟩ = some (.int .u8 (c.toNat : Int)) := x0
      have HD : Hid (l.drop i = c :: l.drop (i + 1)) := by unfold Hid; rw [List.drop_eq_getElem_cons hlt, hcc]
      have HB1 := Lib.hid (HBk.out c w)
      clear hcell x0 hcc
      cases hq : blk c with
      | true =>
        rw [hq] at HB1
        have HY : Hid (l.any blk = true) := by unfold Hid; rw [HA.out, HD.out, List.any_cons, hq]; rfl
        clear hq
        go_wp2_with fail
        with_reducible refine HB1.out.mono ?_
        rintro e w' ⟨rfl, rfl⟩
        go_wp2_with fail
        go_ret
        exact ⟨⟨(i : Int), rfl, by rw [HY.out]; simp⟩, rfl⟩
      | false =>
        rw [hq] at HB1
        have HY : Hid (l.any blk = (l.drop (i + 1)).any blk) := by unfold Hid; rw [HA.out, HD.out, List.any_cons, hq]; rfl
        clear hq
        go_wp2_with fail
        with_reducible refine HB1.out.mono ?_
        rintro e w' ⟨rfl, rfl⟩
        go_wp2_with fail
        go_roundg (l.length - (i + 1))
        case measure => omega
        case rel => exact ⟨i + 1, by omega, rfl, by go_num, HY, rfl⟩
    · have HY : Hid (l.any blk = false) := by unfold Hid; rw [HA.out, List.drop_eq_nil_of_le (by omega)]; rfl
      go_wp2_with fail
      go_ret
      exact ⟨⟨-1, rfl, by rw [HY.out]; simp⟩, rfl⟩
set_option maxRecDepth 100000 in
theorem containsBlank_any (v : Value) (l : List UInt8) (w : World) (hv : bytesArg w v l) (hl : l.length ≤ 1000000) :
    Calls Tryd.prog 29 #[v, .func (.func 18) #[] #[]] w fun e w' => e = .returned (.bool (l.any blk)) ∧ w = w' := by
  have HI := Lib.hid (indexBlank_any v l w hv hl)
  obtain ⟨q, hq⟩ : ∃ q, q = l.any blk := ⟨_, rfl⟩
  rw [← hq] at HI ⊢
  clear hv hq
  go_enter Tryd.func29, Tryd.ntmps29
  go_wp2_with fail
  with_reducible refine HI.out.mono ?_
  rintro e w' ⟨⟨n, rfl, hn⟩, rfl⟩
  go_wp2_with fail
  go_ret
  refine ⟨ret_bool ?_, rfl⟩
  have e : q = decide (0 ≤ n) := by rw [Bool.eq_iff_iff, decide_eq_true_iff]; exact hn.symm
  rw [e]

/-! ### What stands ahead of a star -/
set_option maxRecDepth 100000 in
set_option maxHeartbeats 1000000 in
theorem cutStar_any (v : Value) (l : List UInt8) (B : Nat) (w : World) (hv : nzArg w v l) (hl : l.length ≤ 1000000) (hB : w.cell? ⟨B, 0, none⟩ = some (.int .u8 42)) :
    Calls Tryd.prog 31 #[v, .slice (some ⟨B, 0, none⟩) 1 1] w fun e w' => (∃ u1 u2 x, e = .returned (.tuple #[u1, u2, x]) ∧ nzArg w u1 (l.take (idxB 42 l))) ∧ Below w.heap.size w w' := by
  rcases hv.at with ⟨rfl, rfl⟩ | ⟨b, off, cap, rfl, h1, h2, hs⟩
  · have HV := Lib.hid hv
    have HI := Lib.hid (Tryd.bytes_Index_one_nil B 0 1 42 w hB)
    clear hv hB
    go_enter Tryd.func31, Tryd.ntmps31
    go_wp2_with fail
    with_reducible refine HI.out.mono ?_
    rintro e w1 ⟨rfl, rfl⟩
    go_wp2_with fail
    refine bodyPost_ret (v := .tuple #[.slice none 0 0, .slice none 0 0, .bool false]) (by simp [results, Tryd.results31, go_sem]) rfl ?_
    exact ⟨⟨_, _, _, rfl, HV.out⟩, Below.refl _ _⟩
  · unfold maxLen at h2
    have hidx : Calls Tryd.prog 41 #[.slice (some ⟨b, off, none⟩) l.length cap, .slice (some ⟨B, 0, none⟩) 1 1] w fun e w' => e = .returned (.int .i64 (if idxB 42 l < l.length then (idxB 42 l : Int) else -1)) ∧ w = w' := by
      refine (Tryd.bytes_Index_one_at ⟨b, off, none⟩ l.length cap B 0 1 (intsOf l) 42 w (intsOf_len l) hs.addr hB).mono ?_
      rintro e w' ⟨rfl, rfl⟩
      refine ⟨ret_int ?_, rfl⟩
      rw [bytesOf_ints, ← indexByte_idx]
      congr 1
    have HI := Lib.hid hidx
    have hz := idxB_le 42 l
    have HA : Hid (nzArg w (.slice (some ⟨b, off, none⟩) (idxB 42 l) cap) (l.take (idxB 42 l))) := by
      have e : idxB 42 l = (l.take (idxB 42 l)).length := by rw [List.length_take]; omega
      have := nzArg_some (cap := cap) (hs.take (idxB 42 l)) (by rw [← e]; omega) (by unfold maxLen; omega)
      rw [← e] at this
      exact this
    obtain ⟨i, hii⟩ : ∃ i, i = idxB 42 l := ⟨_, rfl⟩
    rw [← hii] at HI HA hz ⊢
    clear hidx hs hv hB hii
    by_cases hi : i < l.length
    · rw [if_pos hi] at HI
      by_cases hcap : cap = i + 1
      · subst hcap
        go_enter Tryd.func31, Tryd.ntmps31
        go_wp2_with fail
        with_reducible refine HI.out.mono ?_
        rintro e w1 ⟨rfl, rfl⟩
        go_wp2_with fail
        go_quiet (fail)
        go_wp2
        refine bodyPost_ret (v := .tuple #[.slice (some ⟨b, off, none⟩) i (i + 1), .slice (some ⟨b, off, none⟩) 0 0, .bool true]) (by simp [results, Tryd.results31, go_sem]; try omega) rfl ?_
        exact ⟨⟨_, _, _, rfl, HA.out⟩, below_drewN' _⟩
      · go_enter Tryd.func31, Tryd.ntmps31
        go_wp2_with fail
        with_reducible refine HI.out.mono ?_
        rintro e w1 ⟨rfl, rfl⟩
        go_wp2_with fail
        go_quiet (fail)
        go_wp2
        refine bodyPost_ret (v := .tuple #[.slice (some ⟨b, off, none⟩) i cap, .slice (some ⟨b, off + (i + 1), none⟩) (l.length - (i + 1)) (cap - (i + 1)), .bool true]) (by simp [results, Tryd.results31, go_sem]) rfl ?_
        exact ⟨⟨_, _, _, rfl, HA.out⟩, below_drewN' _⟩
    · rw [if_neg hi] at HI
      obtain rfl : i = l.length := by omega
      clear hi
      go_enter Tryd.func31, Tryd.ntmps31
      go_wp2_with fail
      with_reducible refine HI.out.mono ?_
      rintro e w1 ⟨rfl, rfl⟩
      go_wp2_with fail
      refine bodyPost_ret (v := .tuple #[.slice (some ⟨b, off, none⟩) l.length cap, .slice none 0 0, .bool false]) (by simp [results, Tryd.results31, go_sem]) rfl ?_
      exact ⟨⟨_, _, _, rfl, HA.out⟩, Below.refl _ _⟩
end Go.Proofs.YtolkjaebhhbilaaDoor
