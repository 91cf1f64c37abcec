/- Slices of bytes, nil or at an address; what the library does with them: CutPrefix. (The same words as the words layer's own text has: where that is there, this one is left out.) -/
import Derived.Test.YtkmgflnmffdhjaaGreatDoorGbParC
import Derived.Test.YtkmgflnmffdhjaaGreatDoorShelf
import Derived.Test.YtkmgflnmffdhjaaGreatDoorGbAppIn
import Derived.Test.YtkmgflnmffdhjaaGreatDoorGbChars7
import Derived.BigQuiet
import Derived.Outline
import Derived.Test.YtkmgflnmffdhjaaGreatDoorGbEnE
import Derived.Lib.SlBytesConst
import Derived.Test.YtkmgflnmffdhjaaGreatDoorGbHdrD
import Derived.Deep.DeepCutAuto
import Derived.Deep.CutBlock
namespace Go.Proofs.YtkmgflnmffdhjaaGreatDoor
open Go Go.RowKit

/-- A slice of bytes: nil, or at an address. -/
def nzArg (W : World) (v : Value) (l : List UInt8) : Prop := bytesArg W v l ∧ (v = .slice none 0 0 ∨ ∃ b off n cap, v = .slice (some ⟨b, off, none⟩) n cap)
theorem nzArg.below {W W' : World} {v : Value} {l : List UInt8} (h : nzArg W v l) (hb : Below W.heap.size W W') : nzArg W' v l := ⟨h.1.below hb, h.2⟩
theorem nzArg_some {W : World} {b off cap : Nat} {l : List UInt8} (h : sliceAt W (some ⟨b, off, none⟩) l) (h1 : l.length ≤ cap) (h2 : cap ≤ maxLen) : nzArg W (.slice (some ⟨b, off, none⟩) l.length cap) l :=
  ⟨h.arg h1 h2, .inr ⟨_, _, _, _, rfl⟩⟩
theorem nzArg.at {W : World} {v : Value} {l : List UInt8} (h : nzArg W v l) : (v = .slice none 0 0 ∧ l = []) ∨ ∃ b off cap, v = .slice (some ⟨b, off, none⟩) l.length cap ∧ l.length ≤ cap ∧ cap ≤ maxLen ∧ sliceAt W (some ⟨b, off, none⟩) l := by
  obtain ⟨⟨ao, cap, rfl, h1, h2, h3⟩, h4⟩ := h
  rcases h4 with h4 | ⟨b, off, n, c, h4⟩
  · obtain ⟨e1, e2, e3⟩ := Value.slice.inj h4
    subst e1 e3
    obtain rfl := List.eq_nil_of_length_eq_zero e2
    exact .inl ⟨rfl, rfl⟩
  · cases h4
    exact .inr ⟨b, off, cap, rfl, h1, h2, h3⟩
theorem nzArg_from {W : World} {b off cap k n : Nat} {l : List UInt8} (hn : l.length = n) (h : sliceAt W (some ⟨b, off, none⟩) l) (hk : k ≤ n) (h1 : n ≤ cap) (h2 : cap ≤ maxLen) : nzArg W (Lib.sliceFrom b off n cap k) (l.drop k) := by
  subst hn
  unfold Lib.sliceFrom
  have e : l.length - k = (l.drop k).length := by rw [List.length_drop]
  rw [e]
  split
  · next hc => exact nzArg_some (.inl (List.drop_eq_nil_of_le (by omega))) (by rw [List.length_drop]; omega) (by omega)
  · exact nzArg_some h.drop (by rw [List.length_drop]; omega) (by omega)

theorem cutPre_any (v : Value) (l pre : List UInt8) (B m d : Nat) (w : World) (hv : nzArg w v l) (hm : pre.length = m) (hp : 0 < m) (hB : sliceAt w (some ⟨B, 0, none⟩) pre) :
    Calls Tryz.prog 117 #[v, .slice (some ⟨B, 0, none⟩) m d] w fun e w' => (∃ u, e = .returned (.tuple #[u, .bool (pre.isPrefixOf l)]) ∧ nzArg w u (if pre.isPrefixOf l then l.drop m else l)) ∧ w = w' := by
  subst hm
  rcases hv.at with ⟨rfl, rfl⟩ | ⟨b, off, cap, rfl, h1, h2, hs⟩
  · refine (Tryz.bytes_CutPrefix_all none (some ⟨B, 0, none⟩) 0 0 pre.length d (intsOf []) (intsOf pre) w rfl (intsOf_len pre) (Nat.le_refl _) (Lib.BytesIn.nil w none _) hB.ints).mono ?_
    rintro e w' ⟨rfl, rfl⟩
    have e : pre.isPrefixOf [] = false := by
      cases pre with
      | nil => simp at hp
      | cons x t => rfl
    have e2 : Lib.hasPrefix (Lib.bytesOf (intsOf [])) (Lib.bytesOf (intsOf pre)) = pre.isPrefixOf [] := by rw [bytesOf_ints, bytesOf_ints]; rfl
    have e1 : Lib.trimPrefixV none 0 0 (intsOf []) (intsOf pre) = .slice none 0 0 := by cases pre <;> rfl
    rw [e2, e1, e]
    exact ⟨⟨_, rfl, hv⟩, rfl⟩
  · refine (Tryz.bytes_CutPrefix_all (some ⟨b, off, none⟩) (some ⟨B, 0, none⟩) l.length cap pre.length d (intsOf l) (intsOf pre) w (intsOf_len l) (intsOf_len pre) h1 hs.ints hB.ints).mono ?_
    rintro e w' ⟨rfl, rfl⟩
    have e2 : Lib.hasPrefix (Lib.bytesOf (intsOf l)) (Lib.bytesOf (intsOf pre)) = pre.isPrefixOf l := by rw [bytesOf_ints, bytesOf_ints]; rfl
    have e1 : Lib.trimPrefixV (some ⟨b, off, none⟩) l.length cap (intsOf l) (intsOf pre) = Lib.bytesTrimPrefix b off l.length cap (intsOf l) (intsOf pre) := by
      cases pre with
      | nil => simp at hp
      | cons x t => rfl
    refine ⟨⟨_, by rw [e2], ?_⟩, rfl⟩
    rw [e1]
    unfold Lib.bytesTrimPrefix
    rw [e2, intsOf_len]
    cases hq : pre.isPrefixOf l with
    | false =>
      rw [if_neg (by decide), if_neg (by decide)]
      exact hv
    | true =>
      rw [if_pos rfl, if_pos rfl]
      have hle : pre.length ≤ l.length := (List.isPrefixOf_iff_prefix.1 hq).length_le
      exact nzArg_from rfl hs hle h1 h2

end Go.Proofs.YtkmgflnmffdhjaaGreatDoor

/- Contracts of package tree: lineKind. -/
namespace Go.Proofs.YtkmgflnmffdhjaaGreatDoor
open Go Go.RowKit

theorem seen_one (c : UInt8) (w : World) : Calls Tryz.prog 118 #[.int .u8 (c.toNat : Int)] w fun e w' => e = .returned (.bool (!blk c)) ∧ w = w' := by
  have HB := Lib.hid (blank_any (c.toNat : Int) w)
  obtain ⟨q, hq⟩ : ∃ q, q = blk c := ⟨_, rfl⟩
  have HQ : Hid (Calls Tryz.prog 81 #[.int .u8 (c.toNat : Int)] w fun e w' => e = .returned (.bool q) ∧ w = w') := by rw [hq]; exact HB.out
  rw [← hq]
  clear HB hq
  go_enter Tryz.func118, Tryz.ntmps118
  go_wp2_with fail
  with_reducible refine HQ.out.mono ?_
  rintro e w' ⟨rfl, rfl⟩
  go_wp2_with fail
  go_ret
  exact ⟨rfl, rfl⟩
set_option maxRecDepth 100000 in
set_option maxHeartbeats 1000000 in
theorem indexSeen_any (v : Value) (l : List UInt8) (w : World) (hv : bytesArg w v l) (hl : l.length ≤ 1000000) :
    Calls Tryz.prog 141 #[v, .func (.func 118) #[] #[]] w fun e w' => (∃ n : Int, e = .returned (.int .i64 n) ∧ (0 ≤ n ↔ l.all blk = false)) ∧ w = w' := by
  obtain ⟨ao, cap, rfl, hc, hm, hs⟩ := hv
  unfold maxLen at hm
  have HS := Lib.hid hs
  have HBk := Lib.hid seen_one
  clear hs
  go_enter Tryz.func141, Tryz.ntmps141
  go_wp2_with fail
  go_loopg [5, 8] l.length (fun g x5 x8 wr => ∃ i : Nat, i ≤ l.length ∧ g = l.length - i ∧ x8 = .int .i64 (i : Int) ∧ Hid (l.all blk = (l.drop i).all blk) ∧ w = wr)
  case atStart => exact ⟨0, by omega, by omega, rfl, by unfold Hid; rw [List.drop_zero], rfl⟩
  case round =>
    obtain ⟨i, hi, rfl, rfl, HA, rfl⟩ := hrel
    by_cases hlt : i < l.length
    · rcases HS.out with e | ⟨b, off, rfl, hb, hcell⟩
      · rw [e] at hlt; simp at hlt
      have x0 := hcell i hlt
      obtain ⟨c, hcc⟩ : ∃ c, c = l[i] := ⟨_, rfl⟩
      rw [← hcc] at x0
      have hx : w.cell? ⟨b, off + i, none⟩ = some (.int .u8 (c.toNat : Int)) := x0
      have HD : Hid (l.drop i = c :: l.drop (i + 1)) := by unfold Hid; rw [List.drop_eq_getElem_cons hlt, hcc]
      have HB1 := Lib.hid (HBk.out c w)
      clear hcell x0 hcc
      cases hq : blk c with
      | false =>
        rw [hq] at HB1
        have HY : Hid (l.all blk = false) := by unfold Hid; rw [HA.out, HD.out, List.all_cons, hq]; rfl
        clear hq
        go_wp2_with fail
        with_reducible refine HB1.out.mono ?_
        rintro e w' ⟨rfl, rfl⟩
        go_wp2_with fail
        go_ret
        exact ⟨⟨(i : Int), rfl, by rw [HY.out]; simp⟩, rfl⟩
      | true =>
        rw [hq] at HB1
        have HY : Hid (l.all blk = (l.drop (i + 1)).all blk) := by unfold Hid; rw [HA.out, HD.out, List.all_cons, hq]; rfl
        clear hq
        go_wp2_with fail
        with_reducible refine HB1.out.mono ?_
        rintro e w' ⟨rfl, rfl⟩
        go_wp2_with fail
        go_roundg (l.length - (i + 1))
        case measure => omega
        case rel => exact ⟨i + 1, by omega, rfl, by go_num, HY, rfl⟩
    · have HY : Hid (l.all blk = true) := by unfold Hid; rw [HA.out, List.drop_eq_nil_of_le (by omega)]; rfl
      go_wp2_with fail
      go_ret
      exact ⟨⟨-1, rfl, by rw [HY.out]; simp⟩, rfl⟩
set_option maxRecDepth 100000 in
theorem containsSeen_any (v : Value) (l : List UInt8) (w : World) (hv : bytesArg w v l) (hl : l.length ≤ 1000000) :
    Calls Tryz.prog 119 #[v, .func (.func 118) #[] #[]] w fun e w' => e = .returned (.bool (!l.all blk)) ∧ w = w' := by
  have HI := Lib.hid (indexSeen_any v l w hv hl)
  obtain ⟨q, hq⟩ : ∃ q, q = l.all blk := ⟨_, rfl⟩
  rw [← hq] at HI ⊢
  clear hv hq
  go_enter Tryz.func119, Tryz.ntmps119
  go_wp2_with fail
  with_reducible refine HI.out.mono ?_
  rintro e w' ⟨⟨n, rfl, hn⟩, rfl⟩
  go_wp2_with fail
  go_ret
  refine ⟨ret_bool ?_, rfl⟩
  have e : (!q) = decide (0 ≤ n) := by rw [Bool.eq_iff_iff, decide_eq_true_iff, hn]; cases q <;> simp
  rw [e]


set_option maxRecDepth 100000 in
set_option maxHeartbeats 2000000 in
theorem lineKind_any (v : Value) (t m0 : List UInt8) (B m d : Nat) (w : World) (hv : nzArg w v t) (hl : t.length ≤ 1000000) (hmm : m0.length = m) (hm : 0 < m) (hB : sliceAt w (some ⟨B, 0, none⟩) m0) :
    Calls Tryz.prog 83 #[v, .slice (some ⟨B, 0, none⟩) m d] w fun e w' => e = .returned (.int .i64 (lkS m0 t : Int)) ∧ Below w.heap.size w w' := by
  have HC := Lib.hid (cutPre_any v t m0 B m d w hv hmm hm hB)
  obtain ⟨p, hp⟩ : ∃ p, p = m0.isPrefixOf t := ⟨_, rfl⟩
  rw [← hp] at HC
  obtain ⟨t1, ht1⟩ : ∃ t1, t1 = if p = true then t.drop m else t := ⟨_, rfl⟩
  rw [← ht1] at HC
  obtain ⟨q, hq⟩ : ∃ q, q = [45, 45].isPrefixOf t1 := ⟨_, rfl⟩
  obtain ⟨t2, ht2⟩ : ∃ t2, t2 = if q = true then t1.drop 2 else t1 := ⟨_, rfl⟩
  obtain ⟨r, hr⟩ : ∃ r, r = t2.all blk := ⟨_, rfl⟩
  have hl1 : t1.length ≤ 1000000 := by rw [ht1]; split <;> (try rw [List.length_drop]) <;> omega
  have hl2 : t2.length ≤ 1000000 := by rw [ht2]; split <;> (try rw [List.length_drop]) <;> omega
  have HK : Hid (lkS m0 t = if p = true then (if q = true then (if r = true then 2 else 0) else if r = true then 1 else 0) else 0) := by
    unfold Hid lkS
    rw [← hp, hr, ht2, hq]
    cases p with
    | false => rfl
    | true =>
      rw [if_pos rfl] at ht1
      rw [if_pos rfl, if_pos rfl, ht1, hmm]
      split <;> rfl
  have HC2 : Hid (∀ u W B2, nzArg W u t1 → sliceAt W (some ⟨B2, 0, none⟩) [45, 45] → Calls Tryz.prog 117 #[u, .slice (some ⟨B2, 0, none⟩) 2 2] W fun e w' => (∃ u', e = .returned (.tuple #[u', .bool q]) ∧ nzArg W u' t2) ∧ W = w') := fun u W B2 h h2 => by
    have := cutPre_any u t1 [45, 45] B2 2 2 W h rfl (by decide) h2
    rw [← hq, ← ht2] at this
    exact this
  have HS : Hid (∀ u W, nzArg W u t2 → Calls Tryz.prog 119 #[u, .func (.func 118) #[] #[]] W fun e w' => e = .returned (.bool (!r)) ∧ W = w') := fun u W h => by
    rw [hr]
    exact containsSeen_any u t2 W h.1 hl2
  have HD : Hid (∀ o, Below w.heap.size w (w.alloc o)) := fun o => (Below.refl _ _).alloc (Nat.le_refl _) _
  have HN : Hid (∀ T fr, sliceAt (w.alloc (.cells #[.int .u8 45, .int .u8 45] T fr)) (some ⟨w.heap.size, 0, none⟩) [45, 45]) := fun T fr => sliceAt_new w T fr _ [45, 45] rfl
  have kc := fun (w : World) (C : Array Value) (n c : Nat) => Lib.run_convert_bytes_const (P := Tryz.prog) w 22 5 C n c Tryz.underlying22 Tryz.underlying5
  rw [HK.out]
  clear hp ht1 hq ht2 hr hB hv hl1 hl2 hl hmm hm HK
  go_enter Tryz.func83, Tryz.ntmps83
  go_wp2_with fail
  with_reducible refine HC.out.mono ?_
  rintro e w' ⟨⟨u1, rfl, hu1⟩, rfl⟩
  have HU1 := Lib.hid hu1
  clear hu1 HC
  go_wp2_with fail
  with_reducible refine (HC2.out _ _ _ ?h1 ?h2).mono ?_
  case h1 => exact HU1.out.below (HD.out _)
  case h2 => exact HN.out _ _
  rintro e w' ⟨⟨u2, rfl, hu2⟩, rfl⟩
  have HU2 := Lib.hid hu2
  clear hu2 HC2
  cases p with
  | false =>
    go_wp2_with fail
    go_ret
    exact ⟨rfl, HD.out _⟩
  | true =>
    cases r with
    | false =>
      go_wp2_with fail
      with_reducible refine (HS.out _ _ ?h3).mono ?_
      case h3 => exact HU2.out
      rintro e w' ⟨rfl, rfl⟩
      go_wp2_with fail
      go_ret
      exact ⟨by cases q <;> rfl, HD.out _⟩
    | true =>
      cases q with
      | true =>
        go_wp2_with fail
        with_reducible refine (HS.out _ _ ?h3).mono ?_
        case h3 => exact HU2.out
        rintro e w' ⟨rfl, rfl⟩
        go_wp2_with fail
        go_ret
        exact ⟨rfl, HD.out _⟩
      | false =>
        go_wp2_with fail
        with_reducible refine (HS.out _ _ ?h3).mono ?_
        case h3 => exact HU2.out
        rintro e w' ⟨rfl, rfl⟩
        go_wp2_with fail
        go_ret
        exact ⟨rfl, HD.out _⟩
end Go.Proofs.YtkmgflnmffdhjaaGreatDoor

/- Contracts of package tree: delimiters. -/
namespace Go.Proofs.YtkmgflnmffdhjaaGreatDoor
open Go Go.RowKit

def spC (s : Sp) : List Value := [.int .i64 (s.1 : Int), .int .i64 (s.2 : Int)]
def spCells (ss : List Sp) : List Value := ss.flatMap spC
theorem spCells_snoc (ss : List Sp) (s : Sp) : spCells (ss ++ [s]) = spCells ss ++ spC s := by simp [spCells]
theorem spC_one (s : Sp) : ∀ u ∈ spC s, u.oneCell' = true := by simp [spC, Value.oneCell']
/-- A slice of spans: what its cells hold. -/
def rowSp (W : World) (v : Value) (ss : List Sp) : Prop :=
  ∃ ao cap, v = .slice ao ss.length cap ∧ ss.length ≤ cap ∧ cap ≤ maxLen ∧ (ss = [] ∨ ∃ g, ao = some ⟨g, 0, none⟩ ∧ g < W.heap.size ∧
    ∀ i, (h : i < ss.length) → W.cell? ⟨g, i * 2, none⟩ = some (.int .i64 (ss[i].1 : Int)) ∧ W.cell? ⟨g, i * 2 + 1, none⟩ = some (.int .i64 (ss[i].2 : Int)))
theorem rowSp.below {W W' : World} {v : Value} {ss : List Sp} (h : rowSp W v ss) (hb : Below W.heap.size W W') : rowSp W' v ss := by
  obtain ⟨ao, cap, e, h1, h2, h3⟩ := h
  refine ⟨ao, cap, e, h1, h2, h3.imp id ?_⟩
  rintro ⟨g, e, hg, hc⟩
  refine ⟨g, e, Nat.lt_of_lt_of_le hg hb.size, fun i hi => ?_⟩
  obtain ⟨c0, c1⟩ := hc i hi
  exact ⟨(hb.cell (p := ⟨g, i * 2, none⟩) hg).trans c0, (hb.cell (p := ⟨g, i * 2 + 1, none⟩) hg).trans c1⟩
theorem spCells_at (ss : List Sp) (i : Nat) (h : i < ss.length) : (spCells ss)[i * 2]? = some (.int .i64 (ss[i].1 : Int)) ∧ (spCells ss)[i * 2 + 1]? = some (.int .i64 (ss[i].2 : Int)) := by
  induction ss generalizing i with
  | nil => simp at h
  | cons x r ih =>
    have e : spCells (x :: r) = spC x ++ spCells r := by simp [spCells]
    rw [e]
    cases i with
    | zero => simp [spC]
    | succ i =>
      have := ih i (by simpa using h)
      simp only [List.getElem_cons_succ]
      rw [List.getElem?_append_right (by simp [spC]; omega), List.getElem?_append_right (by simp [spC]; omega)]
      simp only [spC, List.length_cons, List.length_nil]
      rw [show (i + 1) * 2 - (0 + 1 + 1) = i * 2 by omega, show (i + 1) * 2 + 1 - (0 + 1 + 1) = i * 2 + 1 by omega]
      exact this
theorem rowSp_owned {w : World} {base : Nat} {e : TypeId} {v : Value} {ss : List Sp} (h : w.ownsRow base e 2 v ss.length (spCells ss)) : rowSp w v ss := by
  rcases h.2 with ⟨rfl, h0⟩ | ⟨g, cap, cur, rfl, _, hh, hc, hm, hs, ht⟩
  · obtain rfl : ss = [] := List.eq_nil_of_length_eq_zero h0
    exact ⟨none, 0, rfl, Nat.le_refl _, Nat.zero_le _, .inl rfl⟩
  · refine ⟨_, cap, rfl, hc, hm, .inr ⟨g, rfl, (Array.getElem?_eq_some_iff.1 hh).1, fun i hi => ?_⟩⟩
    obtain ⟨c0, c1⟩ := spCells_at ss i hi
    rw [← ht] at c0 c1
    rw [List.getElem?_take, if_pos (by omega)] at c0 c1
    simp only [World.cell?, hh]
    exact ⟨by simpa using c0, by simpa using c1⟩
theorem rowSp.at {W : World} {v : Value} {ss : List Sp} (h : rowSp W v ss) : ∃ ao cap, v = .slice ao ss.length cap ∧ ss.length ≤ cap ∧ cap ≤ maxLen ∧
    ∀ i, (h : i < ss.length) → ∃ g, ao = some ⟨g, 0, none⟩ ∧ g < W.heap.size ∧ W.cell? ⟨g, i * 2, none⟩ = some (.int .i64 (ss[i].1 : Int)) ∧ W.cell? ⟨g, i * 2 + 1, none⟩ = some (.int .i64 (ss[i].2 : Int)) := by
  obtain ⟨ao, cap, e, h1, h2, h3⟩ := h
  refine ⟨ao, cap, e, h1, h2, fun i hi => ?_⟩
  rcases h3 with rfl | ⟨g, e, hg, hc⟩
  · simp at hi
  · exact ⟨g, e, hg, hc i hi⟩

theorem linesS_in (l : List UInt8) : ∀ (q a b : Nat), b - a ≤ q → a ≤ b → b ≤ l.length → ∀ x ∈ linesS l a b, a ≤ x.f ∧ x.f < x.n ∧ x.f ≤ x.t ∧ x.t ≤ x.n ∧ x.n ≤ b
  | q, a, b, hq, hab, hb => by
    rcases Nat.lt_or_ge a b with h | h
    · have hF := firstS_bounds l h
      rw [linesS_step l h hb]
      intro x hx
      rcases List.mem_cons.1 hx with rfl | hx
      · omega
      · cases q with
        | zero => omega
        | succ q =>
          have := linesS_in l q (firstS l a b).n b (by omega) hF.2.2.2.2.1 hb x hx
          omega
    · rw [linesS_nil l (by omega)]
      intro x hx
      cases hx
theorem lkS_le (m0 t : List UInt8) : lkS m0 t = 0 ∨ lkS m0 t = 1 ∨ lkS m0 t = 2 := by
  unfold lkS
  split
  · split
    · split <;> simp
    · split <;> simp
  · simp
theorem Tryz.infoSp : (Tryz.prog.info? 25).map (fun i => (i.zero, i.size, i.bytes)) = some (some (.agg #[.int .i64 0, .int .i64 0]), 2, 16) := by kernel_rfl
def cutsPost (p : List Sp × Sp) (w : World) (e : Ending) (w' : World) : Prop :=
  ∃ u, e = .returned (.tuple #[u, .agg #[.int .i64 (p.2.1 : Int), .int .i64 (p.2.2 : Int)]]) ∧ w'.ownsRow w.heap.size 25 2 u p.1.length (spCells p.1) ∧ Below w.heap.size w w'
set_option maxRecDepth 100000 in
set_option maxHeartbeats 4000000 in
theorem delimiters_any (v : Value) (l : List UInt8) (h t : Nat) (b : ByteArray) (w : World) (hv : bytesArg w v l) (hht : h ≤ t) (htl : t ≤ l.length) (hbig : l.length ≤ 1000000) (hb : b.size ≤ 1000) :
    Calls Tryz.prog 44 #[v, .agg #[.int .i64 (h : Int), .int .i64 (t : Int)], .string b] w (cutsPost (cutsS l (45 :: 45 :: b.data.toList) t h (linesS l h t)) w) := by
  have HV := Lib.hid hv
  obtain ⟨ao, cap, rfl, hc, hm, hs⟩ := hv
  have HS0 : Hid (sliceAt w ao l) := hs
  obtain ⟨i0, hi0, hz0, hz1, hz2⟩ := info_parts Tryz.infoSp
  have HI0 := Lib.hid hi0
  have HZ0 := Lib.hid hz0
  have HZ1 := Lib.hid hz1
  have HZ2 := Lib.hid hz2
  clear hi0 hz0 hz1 hz2
  have HOf := Lib.hid (fun W (hW : bytesArg W (.slice ao l.length cap) l) => of_any (.slice ao l.length cap) l (h : Int) (t : Int) W hW (by omega))
  have HZ : Hid (linesZ l (h : Int) (t : Int) = linesS l h t) := by
    unfold Hid linesZ
    rw [withinB_yes (by omega), if_pos rfl]
    rfl
  rw [HZ.out] at HOf
  obtain ⟨ls, hls⟩ : ∃ ls, ls = linesS l h t := ⟨_, rfl⟩
  have HIn : Hid (∀ x ∈ ls, h ≤ x.f ∧ x.f < x.n ∧ x.f ≤ x.t ∧ x.t ≤ x.n ∧ x.n ≤ l.length) := fun x hx => by
    rw [hls] at hx
    have := linesS_in l _ h t (Nat.le_refl _) hht htl x hx
    omega
  have hln : ls.length ≤ 1000000 := by
    have := linesS_len l h t
    rw [← hls] at this
    omega
  rw [← hls] at HOf ⊢
  clear hls HZ
  obtain ⟨s, hsd⟩ : ∃ s : ByteArray, s = ⟨#[45, 45]⟩ ++ b := ⟨_, rfl⟩
  have hsl : s.data.toList = 45 :: 45 :: b.data.toList := by rw [hsd]; simp [ByteArray.data_append]
  have hsz : s.size ≤ 2000 := by rw [hsd, ByteArray.size_append]; show 2 + b.size ≤ 2000; omega
  have hs2 : s.size = 2 + b.size := by rw [hsd, ByteArray.size_append]; rfl
  have hsz0 : 2 ≤ s.size := by rw [hsd, ByteArray.size_append]; show 2 ≤ 2 + b.size; omega
  obtain ⟨m0, hm0⟩ : ∃ m0, m0 = s.data.toList := ⟨_, rfl⟩
  rw [← hsl, ← hm0]
  have hml : m0.length = s.size := by rw [hm0, len_toList]
  have hconv := fun W => conv_bytesArg (P := Tryz.prog) W 9 22 5 s (by unfold maxLen; omega) Tryz.underlying9 Tryz.underlying22 Tryz.underlying5
  rw [← hm0] at hconv
  have HCv := Lib.hid hconv
  have HSd := Lib.hid hsd
  clear hconv hsd hsl hm0 hs
  obtain ⟨W2, hW2⟩ : ∃ W2, W2 = (w.alloc (.cells #[.int .i64 (h : Int), .int .i64 (t : Int)] 25)).alloc (.cells #[.int .i64 0, .int .i64 0] 25) := ⟨_, rfl⟩
  obtain ⟨W3, c9, hrun, harg, hb3⟩ := HCv.out W2
  obtain ⟨M9, hM9⟩ : ∃ M9, M9 = W2.heap.size := ⟨_, rfl⟩
  rw [← hM9] at hrun harg
  have e0 : W2.heap[w.heap.size]? = some (.cells #[.int .i64 (h : Int), .int .i64 (t : Int)] 25 (0, 0)) := by rw [hW2]; exact heap_alloc2_old _ _ _
  have e1 : W2.heap[w.heap.size + 1]? = some (.cells #[.int .i64 0, .int .i64 0] 25 (0, 0)) := by rw [hW2]; exact heap_alloc2_new _ _ _
  have hB2 : Below w.heap.size w W2 := by rw [hW2]; exact ((Below.refl _ _).alloc (Nat.le_refl _) _).alloc (by simp) _
  have hz2 : w.heap.size + 2 = W2.heap.size := by rw [hW2]; simp
  rw [hW2, HSd.out] at hrun
  have HB3 : Hid (Below w.heap.size w W3) := hB2.trans (hb3.mono hB2.size)
  have hz3 : w.heap.size + 2 ≤ W3.heap.size := by have := hb3.size; omega
  have E0 : Hid (W3.heap[w.heap.size]? = some (.cells #[.int .i64 (h : Int), .int .i64 (t : Int)] 25 (0, 0))) := (hb3.block _ (by omega)).trans e0
  have E1 : Hid (W3.heap[w.heap.size + 1]? = some (.cells #[.int .i64 0, .int .i64 0] 25 (0, 0))) := (hb3.block _ (by omega)).trans e1
  have c0 : W3.cell? ⟨w.heap.size, 0, none⟩ = some (.int .i64 (h : Int)) := by simp [World.cell?, E0.out]
  have c1 : W3.cell? ⟨w.heap.size, 1, none⟩ = some (.int .i64 (t : Int)) := by simp [World.cell?, E0.out]
  obtain ⟨ap, cp, heq, hcp, hcm, hsl⟩ := harg
  obtain ⟨rfl, _, rfl⟩ := Value.slice.inj heq
  have HM : Hid (sliceAt W3 (some ⟨M9, 0, none⟩) m0) := hsl
  have HV3 : Hid (bytesArg W3 (.slice ao l.length cap) l) := bytesArg.below HV.out HB3.out
  have hM9z : M9 < W3.heap.size := by
    have := HCv.out W2
    have h9 := hb3.size
    rcases hsl with e | ⟨b', o', e, hlt, _⟩
    · rw [e] at hml; simp at hml; omega
    · cases e; exact hlt
  clear HCv HV hsl heq hcp hcm e0 e1 hb3 hW2 hM9 hB2 hz2
  go_enter Tryz.func44, Tryz.ntmps44
  go_wp2_with fail
  with_reducible refine (HOf.out _ ?h1).mono ?_
  case h1 => exact HV3.out
  rintro e w4 ⟨u, rfl, hrow, hb4⟩
  have HLn := Lib.hid (rowLn_owned hrow)
  have HB4 := Lib.hid (HB3.out.trans (hb4.mono HB3.out.size))
  have hz4 : w.heap.size + 2 ≤ w4.heap.size := Nat.le_trans hz3 hb4.size
  have E0' : Hid (w4.heap[w.heap.size]? = some (.cells #[.int .i64 (h : Int), .int .i64 (t : Int)] 25 (0, 0))) := (hb4.block _ (by omega)).trans E0.out
  have E1' : Hid (w4.heap[w.heap.size + 1]? = some (.cells #[.int .i64 0, .int .i64 0] 25 (0, 0))) := (hb4.block _ (by omega)).trans E1.out
  have HM4 : Hid (sliceAt w4 (some ⟨M9, 0, none⟩) m0) := HM.out.below hb4
  have HS4 : Hid (sliceAt w4 ao l) := HS0.out.below HB4.out
  clear hrow hb4 E0 E1 HM HV3 c0 c1 HOf HSd
  obtain ⟨lo, lc, rfl, hlc, hlm, hcell⟩ := HLn.out.at
  unfold maxLen at hlm
  have HC := Lib.hid hcell
  clear hcell HLn
  go_wp2_with fail
  go_loopg [8, 10, 23] ls.length (fun g x8 x10 x23 wr => ∃ (k fr : Nat) (cs : List Sp), k ≤ ls.length ∧ cs.length ≤ k ∧ g = ls.length - k ∧ x10 = .int .i64 (fr : Int) ∧ x23 = .int .i64 (k : Int) ∧ Hid (wr.ownsRow w4.heap.size 25 2 x8 cs.length (spCells cs)) ∧ Hid (Below w4.heap.size w4 wr) ∧
    Hid (cutsS l m0 t h ls = (cs ++ (cutsS l m0 t fr (ls.drop k)).1, (cutsS l m0 t fr (ls.drop k)).2)))
  case atStart => exact ⟨0, h, [], Nat.zero_le _, Nat.zero_le _, rfl, rfl, rfl, World.ownsRow_nil _ _ _ _, Below.refl _ _, by unfold Hid; rw [List.drop_zero]; rfl⟩
  case round =>
    obtain ⟨k, fr, cs, hk, hck, rfl, rfl, rfl, HO, HB, HQ⟩ := hrel
    by_cases hlt : k < ls.length
    · obtain ⟨g, rfl, hg, x0, x1, x2⟩ := HC.out k hlt
      obtain ⟨hx0, hx1, hx2, hx3, hx4⟩ := HIn.out ls[k] (List.getElem_mem hlt)
      have HDr : Hid (ls.drop k = ls[k] :: ls.drop (k + 1)) := List.drop_eq_getElem_cons hlt
      obtain ⟨x, hx⟩ : ∃ x, x = ls[k] := ⟨_, rfl⟩
      rw [← hx] at x0 x1 x2 hx0 hx1 hx2 hx3 hx4 HDr
      clear hx
      obtain ⟨xf, xt, xn⟩ := x
      simp only at x0 x1 x2 hx0 hx1 hx2 hx3 hx4
      replace x0 := (HB.out.cell (p := ⟨g, k * 3, none⟩) hg).trans x0
      replace x1 := (HB.out.cell (p := ⟨g, k * 3 + 1, none⟩) hg).trans x1
      replace x2 := (HB.out.cell (p := ⟨g, k * 3 + 2, none⟩) hg).trans x2
      have hB0 := HB.out.size
      obtain ⟨ob, off, rfl, hbl, _⟩ := sliceAt.cell HS4.out 0 (by omega)
      have hcf : ¬ cap = xf := by omega
      have HT : Hid (∀ W, Below w4.heap.size w4 W → nzArg W (.slice (some ⟨ob, off + xf, none⟩) (xt - xf) (cap - xf)) (textOf l ⟨xf, xt, xn⟩)) := fun W hb => by
        have hpl : (textOf l ⟨xf, xt, xn⟩).length = xt - xf := partS_len l (show xt ≤ l.length by omega)
        have h1 : sliceAt W (some ⟨ob, off + xf, none⟩) (textOf l ⟨xf, xt, xn⟩) := ((sliceAt.drop (k := xf) HS4.out).take _).below hb
        have := nzArg_some (cap := cap - xf) h1 (by omega) (by omega)
        rw [hpl] at this
        exact this
      have HTl : Hid ((textOf l ⟨xf, xt, xn⟩).length ≤ 1000000) := by
        have hpl : (textOf l ⟨xf, xt, xn⟩).length = xt - xf := partS_len l (show xt ≤ l.length by omega)
        unfold Hid; omega
      obtain ⟨X, hX⟩ : ∃ X, X = (wr.alloc (.cells #[.int .i64 (xf : Int), .int .i64 (xt : Int), .int .i64 (xn : Int)] 104)).alloc (.cells #[.int .i64 (fr : Int), .int .i64 (xn : Int)] 25) := ⟨_, rfl⟩
      have hXz : X.heap.size = wr.heap.size + 2 := by rw [hX]; simp
      have hBX : Below w4.heap.size w4 X := by rw [hX]; exact (HB.out.alloc hB0 _).alloc (by simp; omega) _
      have f0 : X.heap[wr.heap.size]? = some (.cells #[.int .i64 (xf : Int), .int .i64 (xt : Int), .int .i64 (xn : Int)] 104 (0, 0)) := by rw [hX]; exact heap_alloc2_old _ _ _
      have f1 : X.heap[wr.heap.size + 1]? = some (.cells #[.int .i64 (fr : Int), .int .i64 (xn : Int)] 25 (0, 0)) := by rw [hX]; exact heap_alloc2_new _ _ _
      have hOX : X.ownsRow w4.heap.size 25 2 u8 cs.length (spCells cs) := by rw [hX]; exact (HO.out.alloc _).alloc _
      have HK : Hid (Calls Tryz.prog 83 #[.slice (some ⟨ob, off + xf, none⟩) (xt - xf) (cap - xf), .slice (some ⟨M9, 0, none⟩) s.size c9] X fun e w' => e = .returned (.int .i64 (lkS m0 (textOf l ⟨xf, xt, xn⟩) : Int)) ∧ Below X.heap.size X w') :=
        lineKind_any _ _ m0 M9 s.size c9 X (HT.out X hBX) HTl.out hml (by omega) (HM4.out.below hBX)
      have HBX := Lib.hid hBX
      have F0 := Lib.hid f0
      have F1 := Lib.hid f1
      have HOX := Lib.hid hOX
      rw [hX, hs2] at HK
      clear HTl HT hBX f0 f1 hOX
      go_wp2_with fail
      with_reducible refine HK.out.mono ?_
      rintro e w5 ⟨rfl, hb5⟩
      rw [← hX] at hb5
      have y0 : w5.cell? ⟨wr.heap.size, 0, none⟩ = some (.int .i64 (xf : Int)) := by simp [World.cell?, (hb5.block _ (by omega)).trans F0.out]
      have y1 : w5.cell? ⟨wr.heap.size, 1, none⟩ = some (.int .i64 (xt : Int)) := by simp [World.cell?, (hb5.block _ (by omega)).trans F0.out]
      have y2 : w5.cell? ⟨wr.heap.size, 2, none⟩ = some (.int .i64 (xn : Int)) := by simp [World.cell?, (hb5.block _ (by omega)).trans F0.out]
      have z0 : w5.cell? ⟨wr.heap.size + 1, 0, none⟩ = some (.int .i64 (fr : Int)) := by simp [World.cell?, (hb5.block _ (by omega)).trans F1.out]
      have z1 : w5.cell? ⟨wr.heap.size + 1, 1, none⟩ = some (.int .i64 (xn : Int)) := by simp [World.cell?, (hb5.block _ (by omega)).trans F1.out]
      have HB5 := Lib.hid (HBX.out.trans (hb5.mono HBX.out.size))
      have HO5 := Lib.hid (ownsRow_below HOX.out hb5)
      have hz5 : w4.heap.size ≤ w5.heap.size := HB5.out.size
      have hzw : wr.heap.size + 2 ≤ w5.heap.size := by have := hb5.size; omega
      have E5 : Hid (w5.heap[w.heap.size + 1]? = some (.cells #[.int .i64 0, .int .i64 0] 25 (0, 0))) := (HB5.out.block _ (by omega)).trans E1'.out
      clear hb5 HK HBX F0 F1 HOX HB x0 x1 x2 hX
      rcases lkS_le m0 (textOf l ⟨xf, xt, xn⟩) with hk0 | hk0 | hk0
      · rw [hk0]
        have HQ' : Hid (cutsS l m0 t h ls = (cs ++ (cutsS l m0 t xt (ls.drop (k + 1))).1, (cutsS l m0 t xt (ls.drop (k + 1))).2)) := by
          unfold Hid
          rw [HQ.out, HDr.out, cutsS_other (by rw [hk0]; decide) (by rw [hk0]; decide)]
        clear hk0 HQ HDr
        go_wp2_with fail
        go_roundg (ls.length - (k + 1))
        case measure => omega
        case rel => exact ⟨k + 1, xt, cs, by omega, by omega, rfl, rfl, by go_num, HO5.out, HB5.out, HQ'⟩
      · rw [hk0]
        have HQ' : Hid (cutsS l m0 t h ls = ((cs ++ [(fr, xn)]) ++ (cutsS l m0 t xn (ls.drop (k + 1))).1, (cutsS l m0 t xn (ls.drop (k + 1))).2)) := by
          unfold Hid
          rw [HQ.out, HDr.out, cutsS_open hk0, List.append_assoc]
          rfl
        clear hk0 HQ HDr
        go_wp2_with (at_builtin; refine wpList_append_own _ rfl _ _ 27 rfl w4.heap.size 25 i0 (.agg #[.int .i64 0, .int .i64 0]) 2 16 Tryz.underlying27 HI0.out HZ0.out HZ1.out HZ2.out rfl (by decide) _ _ _ rfl (HO5.out.alloc _) ⟨w5.heap.size, 0, none⟩ 1 1 (spC (fr, xn)) rfl rfl ?c1 ?c2 ?c3 ?c4 ?c5 ?_)
        case c1 => exact cells_two_new w5 _ _ _
        case c2 => exact spC_one (fr, xn)
        case c3 => unfold maxLen; omega
        case c4 => omega
        case c5 => simp; omega
        intro v' w6 hown6 hgrow6 _
        have hA : Below w4.heap.size w4 (w5.alloc (.cells #[.int .i64 (fr : Int), .int .i64 (xn : Int)] 25)) := HB5.out.alloc hz5 _
        have HB6 : Hid (Below w4.heap.size w4 w6) := hA.grown hgrow6 hA.size (fun q hq => (HO5.out.lt q hq).1)
        have HO6 : Hid (w6.ownsRow w4.heap.size 25 2 v' (cs ++ [(fr, xn)]).length (spCells (cs ++ [(fr, xn)]))) := by
          unfold Hid
          rw [spCells_snoc, List.length_append]
          exact hown6
        have y2' : w6.cell? ⟨wr.heap.size, 2, none⟩ = some (.int .i64 (xn : Int)) := by
          have hne : u8.ownBlock ≠ some wr.heap.size := fun e => by have := (HO.out.lt _ e).2; omega
          have hb6 : w6.heap[wr.heap.size]? = (w5.alloc (.cells #[.int .i64 (fr : Int), .int .i64 (xn : Int)] 25)).heap[wr.heap.size]? := hgrow6.block _ (by simp; omega) (fun e => hne e.symm)
          rw [World.cell?_of_block (a := ⟨wr.heap.size, 2, none⟩) hb6]
          exact (((Below.refl _ _).alloc (Nat.le_refl _) _ : Below w5.heap.size w5 _).cell (p := ⟨wr.heap.size, 2, none⟩) (show wr.heap.size < w5.heap.size by omega)).trans y2
        clear hA hown6 hgrow6 HO5 HB5 HO E5 y0 y1 y2 z0 z1
        go_wp2_with fail
        go_roundg (ls.length - (k + 1))
        case measure => omega
        case rel => exact ⟨k + 1, xn, cs ++ [(fr, xn)], by omega, by simp; omega, rfl, rfl, by go_num, HO6.out, HB6.out, HQ'⟩
      · rw [hk0]
        have HE : Hid (cutsS l m0 t h ls = (cs, ((fr, xn) : Sp))) := by
          unfold Hid
          rw [HQ.out, HDr.out, cutsS_close hk0, List.append_nil]
        clear hk0 HQ HDr HO
        have q0 : w5.cell? ⟨w.heap.size + 1, 0, none⟩ = some (.int .i64 0) := by simp [World.cell?, E5.out]
        have q1 : w5.cell? ⟨w.heap.size + 1, 1, none⟩ = some (.int .i64 0) := by simp [World.cell?, E5.out]
        have q2 : w5.frozen? ⟨w.heap.size + 1, 0, none⟩ = false := by simp [World.frozen?, E5.out]
        have q3 : w5.frozen? ⟨w.heap.size + 1, 1, none⟩ = false := by simp [World.frozen?, E5.out]
        go_wp2_with fail
        go_region
        go_wp2
        (try simp only [Exit.inBlock, Exit.then])
        have r0 : (((w5.setCell ⟨w.heap.size + 1, 0, none⟩ (.int .i64 (fr : Int))).setCell ⟨w.heap.size + 1, 1, none⟩ (.int .i64 (xn : Int))).drew).cell? ⟨w.heap.size + 1, 0, none⟩ = some (.int .i64 (fr : Int)) := by
          exact (World.cell?_setCell_other _ _ _ _ (by simp)).trans (World.cell?_setCell_same _ _ _ q0)
        have r1 : (((w5.setCell ⟨w.heap.size + 1, 0, none⟩ (.int .i64 (fr : Int))).setCell ⟨w.heap.size + 1, 1, none⟩ (.int .i64 (xn : Int))).drew).cell? ⟨w.heap.size + 1, 1, none⟩ = some (.int .i64 (xn : Int)) := by
          exact World.cell?_setCell_same _ _ _ ((World.cell?_setCell_other _ _ _ _ (by simp)).trans q1)
        refine bodyPost_ret (v := .tuple #[u8, .agg #[.int .i64 (fr : Int), .int .i64 (xn : Int)]]) (by simp [results, Tryz.results44, go_sem, r0, r1]) rfl ?_
        have hlo : w.heap.size + 1 < w4.heap.size := by omega
        refine ⟨u8, by rw [HE.out], ?_, ?_⟩
        · rw [HE.out]
          exact own_base2 ((ownsRow_setCell_below (ownsRow_setCell_below HO5.out hlo _) hlo _).drew) (by omega)
        · exact (((HB4.out.trans (HB5.out.mono HB4.out.size)).setCell (p := ⟨w.heap.size + 1, 0, none⟩) (Nat.le_succ _) _).setCell (p := ⟨w.heap.size + 1, 1, none⟩) (Nat.le_succ _) _).drew
    · obtain rfl : k = ls.length := by omega
      have HE : Hid (cutsS l m0 t h ls = (cs, ((t, t) : Sp))) := by
        unfold Hid
        rw [HQ.out, List.drop_length, cutsS_nil, List.append_nil]
      have hB0 := HB.out.size
      have E5 : Hid (wr.heap[w.heap.size + 1]? = some (.cells #[.int .i64 0, .int .i64 0] 25 (0, 0))) := (HB.out.block _ (by omega)).trans E1'.out
      have q0 : wr.cell? ⟨w.heap.size + 1, 0, none⟩ = some (.int .i64 0) := by simp [World.cell?, E5.out]
      have q1 : wr.cell? ⟨w.heap.size + 1, 1, none⟩ = some (.int .i64 0) := by simp [World.cell?, E5.out]
      have q2 : wr.frozen? ⟨w.heap.size + 1, 0, none⟩ = false := by simp [World.frozen?, E5.out]
      have q3 : wr.frozen? ⟨w.heap.size + 1, 1, none⟩ = false := by simp [World.frozen?, E5.out]
      have e5 : wr.heap[w.heap.size]? = some (.cells #[.int .i64 (h : Int), .int .i64 (t : Int)] 25 (0, 0)) := (HB.out.block _ (by omega)).trans E0'.out
      have q5 : wr.cell? ⟨w.heap.size, 1, none⟩ = some (.int .i64 (t : Int)) := by simp [World.cell?, e5]
      clear e5
      go_wp2_with fail
      go_region
      go_wp2
      (try simp only [Exit.inBlock, Exit.then])
      have r0 : (((wr.setCell ⟨w.heap.size + 1, 0, none⟩ (.int .i64 (t : Int))).setCell ⟨w.heap.size + 1, 1, none⟩ (.int .i64 (t : Int))).drew).cell? ⟨w.heap.size + 1, 0, none⟩ = some (.int .i64 (t : Int)) := by
        exact (World.cell?_setCell_other _ _ _ _ (by simp)).trans (World.cell?_setCell_same _ _ _ q0)
      have r1 : (((wr.setCell ⟨w.heap.size + 1, 0, none⟩ (.int .i64 (t : Int))).setCell ⟨w.heap.size + 1, 1, none⟩ (.int .i64 (t : Int))).drew).cell? ⟨w.heap.size + 1, 1, none⟩ = some (.int .i64 (t : Int)) := by
        exact World.cell?_setCell_same _ _ _ ((World.cell?_setCell_other _ _ _ _ (by simp)).trans q1)
      refine bodyPost_ret (v := .tuple #[u8, .agg #[.int .i64 (t : Int), .int .i64 (t : Int)]]) (by simp [results, Tryz.results44, go_sem, r0, r1]) rfl ?_
      have hlo : w.heap.size + 1 < w4.heap.size := by omega
      refine ⟨u8, by rw [HE.out], ?_, ?_⟩
      · rw [HE.out]
        exact own_base2 ((ownsRow_setCell_below (ownsRow_setCell_below HO.out hlo _) hlo _).drew) (by omega)
      · exact (((HB4.out.trans (HB.out.mono HB4.out.size)).setCell (p := ⟨w.heap.size + 1, 0, none⟩) (Nat.le_succ _) _).setCell (p := ⟨w.heap.size + 1, 1, none⟩) (Nat.le_succ _) _).drew
end Go.Proofs.YtkmgflnmffdhjaaGreatDoor
