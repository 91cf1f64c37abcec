/- The tree of a message in plain words. No program. -/
import Derived.Test.YtfgppamhbchhcaaGreatDoorGb12
import Derived.Test.YtfgppamhbchhcaaGreatDoorGb23
import Derived.Test.YtfgppamhbchhcaaGreatDoorKit2
import Derived.Test.YtfgppamhbchhcaaGreatDoorShelf
import Derived.Test.YtfgppamhbchhcaaGreatDoorGb04
import Derived.Test.YtfgppamhbchhcaaGreatDoorGb03
import Derived.BigQuiet
import Derived.Outline
import Derived.Lib.SlBytesConst
namespace Go.Proofs.YtfgppamhbchhcaaGreatDoor
open Go Go.RowKit

abbrev Sp := Nat × Nat
/-- A part: its kind, its header, its body, its kids, their delimiters, its close delimiter. -/
inductive Tr where
  | mk (kind : Nat) (hd bd : Sp) (kids : List Tr) (cuts : List Sp) (e : Sp)
def Tr.kind : Tr → Nat | .mk k _ _ _ _ _ => k
def Tr.hd : Tr → Sp | .mk _ h _ _ _ _ => h
def Tr.bd : Tr → Sp | .mk _ _ b _ _ _ => b
def Tr.kids : Tr → List Tr | .mk _ _ _ k _ _ => k
def Tr.cuts : Tr → List Sp | .mk _ _ _ _ c _ => c
def Tr.e : Tr → Sp | .mk _ _ _ _ _ e => e

/-- What a line is: 0 no delimiter, 1 one, 2 a close one. -/
def lkS (m0 t : List UInt8) : Nat :=
  if m0.isPrefixOf t then
    (if [45, 45].isPrefixOf (t.drop m0.length) then (if ((t.drop m0.length).drop 2).all blk then 2 else 0) else if (t.drop m0.length).all blk then 1 else 0)
  else 0
/-- The delimiters, and the close one. -/
def cutsS (l m0 : List UInt8) (bt : Nat) : Nat → List Ln → List Sp × Sp
  | _, [] => ([], (bt, bt))
  | fr, x :: r =>
    if lkS m0 (textOf l x) = 2 then ([], (fr, x.n))
    else if lkS m0 (textOf l x) = 1 then ((fr, x.n) :: (cutsS l m0 bt x.n r).1, (cutsS l m0 bt x.n r).2)
    else cutsS l m0 bt x.t r
theorem cutsS_nil (l m0 : List UInt8) (bt fr : Nat) : cutsS l m0 bt fr [] = ([], (bt, bt)) := rfl
theorem cutsS_close {l m0 : List UInt8} {bt fr : Nat} {x : Ln} {r : List Ln} (h : lkS m0 (textOf l x) = 2) : cutsS l m0 bt fr (x :: r) = ([], (fr, x.n)) := by rw [cutsS, if_pos h]
theorem cutsS_open {l m0 : List UInt8} {bt fr : Nat} {x : Ln} {r : List Ln} (h : lkS m0 (textOf l x) = 1) : cutsS l m0 bt fr (x :: r) = ((fr, x.n) :: (cutsS l m0 bt x.n r).1, (cutsS l m0 bt x.n r).2) := by
  rw [cutsS, if_neg (by rw [h]; decide), if_pos h]
theorem cutsS_other {l m0 : List UInt8} {bt fr : Nat} {x : Ln} {r : List Ln} (h2 : ¬ lkS m0 (textOf l x) = 2) (h1 : ¬ lkS m0 (textOf l x) = 1) : cutsS l m0 bt fr (x :: r) = cutsS l m0 bt x.t r := by rw [cutsS, if_neg h2, if_neg h1]
/-- Where the kids stand. -/
def kidsS : List Sp → Sp → List Sp
  | [], _ => []
  | [c], e => [(c.2, e.1)]
  | c :: d :: r, e => (c.2, d.1) :: kidsS (d :: r) e
theorem kidsS_len : ∀ (cs : List Sp) (e : Sp), (kidsS cs e).length = cs.length
  | [], _ => rfl
  | [_], _ => rfl
  | _ :: d :: r, e => by simp [kidsS, kidsS_len (d :: r) e]
def bdyN : List UInt8 := [98, 111, 117, 110, 100, 97, 114, 121]
def mulN : List UInt8 := [109, 117, 108, 116, 105, 112, 97, 114, 116]
def msgN : List UInt8 := [109, 101, 115, 115, 97, 103, 101]
def rfcN : List UInt8 := [114, 102, 99, 56, 50, 50]
def digN : List UInt8 := [100, 105, 103, 101, 115, 116]
def txtN : List UInt8 := [116, 101, 120, 116]
def plnN : List UInt8 := [112, 108, 97, 105, 110]
def ctyN : List UInt8 := [99, 111, 110, 116, 101, 110, 116, 45, 116, 121, 112, 101]
def cteN : List UInt8 := [99, 111, 110, 116, 101, 110, 116, 45, 116, 114, 97, 110, 115, 102, 101, 114, 45, 101, 110, 99, 111, 100, 105, 110, 103]
def bdOK (b : List UInt8) : Bool := !b.isEmpty && decide (b.length ≤ 70)
def boundS (ps : List Prm) : Option (List UInt8) := match getP ps bdyN with
  | some b => if bdOK b = true then some b else none
  | none => none
def typeS (l : List UInt8) (fs : List Fld) (dig : Bool) : Val := match parseL (valueS l fs ctyN) true with
  | some v => v
  | none => if dig = true then ⟨msgN, rfcN, []⟩ else ⟨txtN, plnN, []⟩
def bareB (v : List UInt8) : Bool := v.isEmpty || v == [55, 98, 105, 116] || v == [56, 98, 105, 116] || v == [98, 105, 110, 97, 114, 121]
def bareS (l : List UInt8) (fs : List Fld) : Bool := bareB (foldS (valueS l fs cteN))
/-- What an entity is of: its kind, delimiters, close delimiter, where its kids stand. -/
structure Pd where
  kind : Nat
  cuts : List Sp
  e : Sp
  kids : List Sp
def noPd : Pd := ⟨0, [], (0, 0), []⟩
def pdS (l : List UInt8) (fs : List Fld) (h t : Nat) (k : Val) : Pd :=
  if k.type = mulN then
    (match boundS k.params with
    | some b => ⟨1, (cutsS l (45 :: 45 :: b) t h (linesS l h t)).1, (cutsS l (45 :: 45 :: b) t h (linesS l h t)).2, kidsS (cutsS l (45 :: 45 :: b) t h (linesS l h t)).1 (cutsS l (45 :: 45 :: b) t h (linesS l h t)).2⟩
    | none => noPd)
  else if k.type = msgN ∧ k.sub = rfcN ∧ bareS l fs = true then ⟨2, [], (0, 0), [(h, t)]⟩ else noPd
def digS (k : Val) : Bool := k.type == mulN && k.sub == digN
def leafT (f h t : Nat) : Tr := .mk 0 (f, h) (h, t) [] [] (0, 0)
def kidsRun (F : Sp → Nat → Tr × Nat) : List Sp → Nat → List Tr × Nat
  | [], c => ([], c)
  | s :: r, c => ((F s c).1 :: (kidsRun F r (F s c).2).1, (kidsRun F r (F s c).2).2)
def fsOf (l : List UInt8) (f t : Nat) : List Fld := fieldsL l ((linesS l f t).take (eI (linesS l f t)))
def hdOf (l : List UInt8) (f t : Nat) : Nat := behindN (linesS l f t) t
/-- An entity, so many levels above the last that may be, and how many parts there are behind it. -/
def entS (l : List UInt8) : Nat → Sp → Bool → Nat → Tr × Nat
  | 0, s, _, c => (leafT s.1 (hdOf l s.1 s.2) s.2, c)
  | d + 1, s, g, c =>
    let k := typeS l (fsOf l s.1 s.2) g
    let p := pdS l (fsOf l s.1 s.2) (hdOf l s.1 s.2) s.2 k
    if p.kids = [] ∨ 1000 < c + p.kids.length then (leafT s.1 (hdOf l s.1 s.2) s.2, c)
    else (.mk p.kind (s.1, hdOf l s.1 s.2) (hdOf l s.1 s.2, s.2) (kidsRun (fun s' c' => entS l d s' (digS k) c') p.kids (c + p.kids.length)).1 p.cuts p.e,
      (kidsRun (fun s' c' => entS l d s' (digS k) c') p.kids (c + p.kids.length)).2)
def treeS (l : List UInt8) : Tr := (entS l 32 (0, l.length) false 1).1
mutual
def countT : Tr → Nat
  | .mk _ _ _ ks _ _ => 1 + countK ks
def countK : List Tr → Nat
  | [] => 0
  | t :: r => countT t + countK r
end
mutual
def deepT : Tr → Nat
  | .mk _ _ _ ks _ _ => deepK ks
def deepK : List Tr → Nat
  | [] => 0
  | t :: r => max (1 + deepT t) (deepK r)
end
end Go.Proofs.YtfgppamhbchhcaaGreatDoor

/- Slices of bytes, nil or at an address; what the library does with them: CutPrefix. (The same words as the words layer's own text has: where that is there, this one is left out.) -/
namespace Go.Proofs.YtfgppamhbchhcaaGreatDoor
open Go Go.RowKit

/-- A slice of bytes: nil, or at an address. -/
def nzArg (W : World) (v : Value) (l : List UInt8) : Prop := bytesArg W v l ∧ (v = .slice none 0 0 ∨ ∃ b off n cap, v = .slice (some ⟨b, off, none⟩) n cap)
theorem nzArg.below {W W' : World} {v : Value} {l : List UInt8} (h : nzArg W v l) (hb : Below W.heap.size W W') : nzArg W' v l := ⟨h.1.below hb, h.2⟩
theorem nzArg_nil (W : World) : nzArg W (.slice none 0 0) [] := ⟨⟨none, 0, rfl, Nat.le_refl _, Nat.zero_le _, .inl rfl⟩, .inl rfl⟩
theorem nzArg_some {W : World} {b off cap : Nat} {l : List UInt8} (h : sliceAt W (some ⟨b, off, none⟩) l) (h1 : l.length ≤ cap) (h2 : cap ≤ maxLen) : nzArg W (.slice (some ⟨b, off, none⟩) l.length cap) l :=
  ⟨h.arg h1 h2, .inr ⟨_, _, _, _, rfl⟩⟩
theorem nzArg.at {W : World} {v : Value} {l : List UInt8} (h : nzArg W v l) : (v = .slice none 0 0 ∧ l = []) ∨ ∃ b off cap, v = .slice (some ⟨b, off, none⟩) l.length cap ∧ l.length ≤ cap ∧ cap ≤ maxLen ∧ sliceAt W (some ⟨b, off, none⟩) l := by
  obtain ⟨⟨ao, cap, rfl, h1, h2, h3⟩, h4⟩ := h
  rcases h4 with h4 | ⟨b, off, n, c, h4⟩
  · obtain ⟨e1, e2, e3⟩ := Value.slice.inj h4
    subst e1 e3
    obtain rfl := List.eq_nil_of_length_eq_zero e2
    exact .inl ⟨rfl, rfl⟩
  · cases h4
    exact .inr ⟨b, off, cap, rfl, h1, h2, h3⟩
theorem nzArg_from {W : World} {b off cap k n : Nat} {l : List UInt8} (hn : l.length = n) (h : sliceAt W (some ⟨b, off, none⟩) l) (hk : k ≤ n) (h1 : n ≤ cap) (h2 : cap ≤ maxLen) : nzArg W (Lib.sliceFrom b off n cap k) (l.drop k) := by
  subst hn
  unfold Lib.sliceFrom
  have e : l.length - k = (l.drop k).length := by rw [List.length_drop]
  rw [e]
  split
  · next hc => exact nzArg_some (.inl (List.drop_eq_nil_of_le (by omega))) (by rw [List.length_drop]; omega) (by omega)
  · exact nzArg_some h.drop (by rw [List.length_drop]; omega) (by omega)

theorem prefix_is (pre l : List UInt8) : Lib.hasPrefix l pre = pre.isPrefixOf l := rfl
theorem cutPre_any (v : Value) (l pre : List UInt8) (B m d : Nat) (w : World) (hv : nzArg w v l) (hm : pre.length = m) (hp : 0 < m) (hB : sliceAt w (some ⟨B, 0, none⟩) pre) :
    Calls Tryz.prog 80 #[v, .slice (some ⟨B, 0, none⟩) m d] w fun e w' => (∃ u, e = .returned (.tuple #[u, .bool (pre.isPrefixOf l)]) ∧ nzArg w u (if pre.isPrefixOf l then l.drop m else l)) ∧ w = w' := by
  subst hm
  rcases hv.at with ⟨rfl, rfl⟩ | ⟨b, off, cap, rfl, h1, h2, hs⟩
  · refine (Tryz.bytes_CutPrefix_all none (some ⟨B, 0, none⟩) 0 0 pre.length d (intsOf []) (intsOf pre) w rfl (intsOf_len pre) (Nat.le_refl _) (Lib.BytesIn.nil w none _) hB.ints).mono ?_
    rintro e w' ⟨rfl, rfl⟩
    have e : pre.isPrefixOf [] = false := by
      cases pre with
      | nil => simp at hp
      | cons x t => rfl
    have e2 : Lib.hasPrefix (Lib.bytesOf (intsOf [])) (Lib.bytesOf (intsOf pre)) = pre.isPrefixOf [] := by rw [bytesOf_ints, bytesOf_ints]; rfl
    have e1 : Lib.trimPrefixV none 0 0 (intsOf []) (intsOf pre) = .slice none 0 0 := by cases pre <;> rfl
    rw [e2, e1, e]
    exact ⟨⟨_, rfl, hv⟩, rfl⟩
  · refine (Tryz.bytes_CutPrefix_all (some ⟨b, off, none⟩) (some ⟨B, 0, none⟩) l.length cap pre.length d (intsOf l) (intsOf pre) w (intsOf_len l) (intsOf_len pre) h1 hs.ints hB.ints).mono ?_
    rintro e w' ⟨rfl, rfl⟩
    have e2 : Lib.hasPrefix (Lib.bytesOf (intsOf l)) (Lib.bytesOf (intsOf pre)) = pre.isPrefixOf l := by rw [bytesOf_ints, bytesOf_ints]; rfl
    have e1 : Lib.trimPrefixV (some ⟨b, off, none⟩) l.length cap (intsOf l) (intsOf pre) = Lib.bytesTrimPrefix b off l.length cap (intsOf l) (intsOf pre) := by
      cases pre with
      | nil => simp at hp
      | cons x t => rfl
    refine ⟨⟨_, by rw [e2], ?_⟩, rfl⟩
    rw [e1]
    unfold Lib.bytesTrimPrefix
    rw [e2, intsOf_len]
    cases hq : pre.isPrefixOf l with
    | false =>
      rw [if_neg (by decide), if_neg (by decide)]
      exact hv
    | true =>
      rw [if_pos rfl, if_pos rfl]
      have hle : pre.length ≤ l.length := (List.isPrefixOf_iff_prefix.1 hq).length_le
      exact nzArg_from rfl hs hle h1 h2

end Go.Proofs.YtfgppamhbchhcaaGreatDoor

/- Contracts of package tree: lineKind. -/
namespace Go.Proofs.YtfgppamhbchhcaaGreatDoor
open Go Go.RowKit

theorem seen_one (c : UInt8) (w : World) : Calls Tryz.prog 81 #[.int .u8 (c.toNat : Int)] w fun e w' => e = .returned (.bool (!blk c)) ∧ w = w' := by
  have HB := Lib.hid (blank_any (c.toNat : Int) w)
  obtain ⟨q, hq⟩ : ∃ q, q = blk c := ⟨_, rfl⟩
  have HQ : Hid (Calls Tryz.prog 54 #[.int .u8 (c.toNat : Int)] w fun e w' => e = .returned (.bool q) ∧ w = w') := by rw [hq]; exact HB.out
  rw [← hq]
  clear HB hq
  go_enter Tryz.func81, Tryz.ntmps81
  go_wp2_with fail
  with_reducible refine HQ.out.mono ?_
  rintro e w' ⟨rfl, rfl⟩
  go_wp2_with fail
  go_ret
  exact ⟨rfl, rfl⟩
set_option maxRecDepth 100000 in
set_option maxHeartbeats 1000000 in
theorem indexSeen_any (v : Value) (l : List UInt8) (w : World) (hv : bytesArg w v l) (hl : l.length ≤ 1000000) :
    Calls Tryz.prog 100 #[v, .func (.func 81) #[] #[]] w fun e w' => (∃ n : Int, e = .returned (.int .i64 n) ∧ (0 ≤ n ↔ l.all blk = false)) ∧ w = w' := by
  obtain ⟨ao, cap, rfl, hc, hm, hs⟩ := hv
  unfold maxLen at hm
  have HS := Lib.hid hs
  have HBk := Lib.hid seen_one
  clear hs
  go_enter Tryz.func100, Tryz.ntmps100
  go_wp2_with fail
  go_loopg [5, 8] l.length (fun g x5 x8 wr => ∃ i : Nat, i ≤ l.length ∧ g = l.length - i ∧ x8 = .int .i64 (i : Int) ∧ Hid (l.all blk = (l.drop i).all blk) ∧ w = wr)
  case atStart => exact ⟨0, by omega, by omega, rfl, by unfold Hid; rw [List.drop_zero], rfl⟩
  case round =>
    obtain ⟨i, hi, rfl, rfl, HA, rfl⟩ := hrel
    by_cases hlt : i < l.length
    · rcases HS.out with e | ⟨b, off, rfl, hb, hcell⟩
      · rw [e] at hlt; simp at hlt
      have x0 := hcell i hlt
      obtain ⟨c, hcc⟩ : ∃ c, c = l[i] := ⟨_, rfl⟩
      rw [← hcc] at x0
      have hx : w.cell? ⟨b, off + i, none⟩ = some (.int .u8 (c.toNat : Int)) := x0
      have HD : Hid (l.drop i = c :: l.drop (i + 1)) := by unfold Hid; rw [List.drop_eq_getElem_cons hlt, hcc]
      have HB1 := Lib.hid (HBk.out c w)
      clear hcell x0 hcc
      cases hq : blk c with
      | false =>
        rw [hq] at HB1
        have HY : Hid (l.all blk = false) := by unfold Hid; rw [HA.out, HD.out, List.all_cons, hq]; rfl
        clear hq
        go_wp2_with fail
        with_reducible refine HB1.out.mono ?_
        rintro e w' ⟨rfl, rfl⟩
        go_wp2_with fail
        go_ret
        exact ⟨⟨(i : Int), rfl, by rw [HY.out]; simp⟩, rfl⟩
      | true =>
        rw [hq] at HB1
        have HY : Hid (l.all blk = (l.drop (i + 1)).all blk) := by unfold Hid; rw [HA.out, HD.out, List.all_cons, hq]; rfl
        clear hq
        go_wp2_with fail
        with_reducible refine HB1.out.mono ?_
        rintro e w' ⟨rfl, rfl⟩
        go_wp2_with fail
        go_roundg (l.length - (i + 1))
        case measure => omega
        case rel => exact ⟨i + 1, by omega, rfl, by go_num, HY, rfl⟩
    · have HY : Hid (l.all blk = true) := by unfold Hid; rw [HA.out, List.drop_eq_nil_of_le (by omega)]; rfl
      go_wp2_with fail
      go_ret
      exact ⟨⟨-1, rfl, by rw [HY.out]; simp⟩, rfl⟩
set_option maxRecDepth 100000 in
theorem containsSeen_any (v : Value) (l : List UInt8) (w : World) (hv : bytesArg w v l) (hl : l.length ≤ 1000000) :
    Calls Tryz.prog 82 #[v, .func (.func 81) #[] #[]] w fun e w' => e = .returned (.bool (!l.all blk)) ∧ w = w' := by
  have HI := Lib.hid (indexSeen_any v l w hv hl)
  obtain ⟨q, hq⟩ : ∃ q, q = l.all blk := ⟨_, rfl⟩
  rw [← hq] at HI ⊢
  clear hv hq
  go_enter Tryz.func82, Tryz.ntmps82
  go_wp2_with fail
  with_reducible refine HI.out.mono ?_
  rintro e w' ⟨⟨n, rfl, hn⟩, rfl⟩
  go_wp2_with fail
  go_ret
  refine ⟨ret_bool ?_, rfl⟩
  have e : (!q) = decide (0 ≤ n) := by rw [Bool.eq_iff_iff, decide_eq_true_iff, hn]; cases q <;> simp
  rw [e]


set_option maxRecDepth 100000 in
set_option maxHeartbeats 2000000 in
theorem lineKind_any (v : Value) (t m0 : List UInt8) (B m d : Nat) (w : World) (hv : nzArg w v t) (hl : t.length ≤ 1000000) (hmm : m0.length = m) (hm : 0 < m) (hB : sliceAt w (some ⟨B, 0, none⟩) m0) :
    Calls Tryz.prog 62 #[v, .slice (some ⟨B, 0, none⟩) m d] w fun e w' => e = .returned (.int .i64 (lkS m0 t : Int)) ∧ Below w.heap.size w w' := by
  have HC := Lib.hid (cutPre_any v t m0 B m d w hv hmm hm hB)
  obtain ⟨p, hp⟩ : ∃ p, p = m0.isPrefixOf t := ⟨_, rfl⟩
  rw [← hp] at HC
  obtain ⟨t1, ht1⟩ : ∃ t1, t1 = if p = true then t.drop m else t := ⟨_, rfl⟩
  rw [← ht1] at HC
  obtain ⟨q, hq⟩ : ∃ q, q = [45, 45].isPrefixOf t1 := ⟨_, rfl⟩
  obtain ⟨t2, ht2⟩ : ∃ t2, t2 = if q = true then t1.drop 2 else t1 := ⟨_, rfl⟩
  obtain ⟨r, hr⟩ : ∃ r, r = t2.all blk := ⟨_, rfl⟩
  have hl1 : t1.length ≤ 1000000 := by rw [ht1]; split <;> (try rw [List.length_drop]) <;> omega
  have hl2 : t2.length ≤ 1000000 := by rw [ht2]; split <;> (try rw [List.length_drop]) <;> omega
  have HK : Hid (lkS m0 t = if p = true then (if q = true then (if r = true then 2 else 0) else if r = true then 1 else 0) else 0) := by
    unfold Hid lkS
    rw [← hp, hr, ht2, hq]
    cases p with
    | false => rfl
    | true =>
      rw [if_pos rfl] at ht1
      rw [if_pos rfl, if_pos rfl, ht1, hmm]
      split <;> rfl
  have HC2 : Hid (∀ u W B2, nzArg W u t1 → sliceAt W (some ⟨B2, 0, none⟩) [45, 45] → Calls Tryz.prog 80 #[u, .slice (some ⟨B2, 0, none⟩) 2 2] W fun e w' => (∃ u', e = .returned (.tuple #[u', .bool q]) ∧ nzArg W u' t2) ∧ W = w') := fun u W B2 h h2 => by
    have := cutPre_any u t1 [45, 45] B2 2 2 W h rfl (by decide) h2
    rw [← hq, ← ht2] at this
    exact this
  have HS : Hid (∀ u W, nzArg W u t2 → Calls Tryz.prog 82 #[u, .func (.func 81) #[] #[]] W fun e w' => e = .returned (.bool (!r)) ∧ W = w') := fun u W h => by
    rw [hr]
    exact containsSeen_any u t2 W h.1 hl2
  have HD : Hid (∀ o, Below w.heap.size w (w.alloc o)) := fun o => (Below.refl _ _).alloc (Nat.le_refl _) _
  have HN : Hid (∀ T fr, sliceAt (w.alloc (.cells #[.int .u8 45, .int .u8 45] T fr)) (some ⟨w.heap.size, 0, none⟩) [45, 45]) := fun T fr => sliceAt_new w T fr _ [45, 45] rfl
  have kc := fun (w : World) (C : Array Value) (n c : Nat) => Lib.run_convert_bytes_const (P := Tryz.prog) w 24 5 C n c Tryz.underlying24 Tryz.underlying5
  rw [HK.out]
  clear hp ht1 hq ht2 hr hB hv hl1 hl2 hl hmm hm HK
  go_enter Tryz.func62, Tryz.ntmps62
  go_wp2_with fail
  with_reducible refine HC.out.mono ?_
  rintro e w' ⟨⟨u1, rfl, hu1⟩, rfl⟩
  have HU1 := Lib.hid hu1
  clear hu1 HC
  go_wp2_with fail
  with_reducible refine (HC2.out _ _ _ ?h1 ?h2).mono ?_
  case h1 => exact HU1.out.below (HD.out _)
  case h2 => exact HN.out _ _
  rintro e w' ⟨⟨u2, rfl, hu2⟩, rfl⟩
  have HU2 := Lib.hid hu2
  clear hu2 HC2
  cases p with
  | false =>
    go_wp2_with fail
    go_ret
    exact ⟨rfl, HD.out _⟩
  | true =>
    cases r with
    | false =>
      go_wp2_with fail
      with_reducible refine (HS.out _ _ ?h3).mono ?_
      case h3 => exact HU2.out
      rintro e w' ⟨rfl, rfl⟩
      go_wp2_with fail
      go_ret
      exact ⟨by cases q <;> rfl, HD.out _⟩
    | true =>
      cases q with
      | true =>
        go_wp2_with fail
        with_reducible refine (HS.out _ _ ?h3).mono ?_
        case h3 => exact HU2.out
        rintro e w' ⟨rfl, rfl⟩
        go_wp2_with fail
        go_ret
        exact ⟨rfl, HD.out _⟩
      | false =>
        go_wp2_with fail
        with_reducible refine (HS.out _ _ ?h3).mono ?_
        case h3 => exact HU2.out
        rintro e w' ⟨rfl, rfl⟩
        go_wp2_with fail
        go_ret
        exact ⟨rfl, HD.out _⟩
end Go.Proofs.YtfgppamhbchhcaaGreatDoor
