/- FetchInner in plain words: a digest of one message, whatever that is. No program. -/
import Derived.Test.YtahmhakdpmcdoaaGreatDoorGbFeN
import Derived.Test.YtahmhakdpmcdoaaGreatDoorGbTrZ
namespace Go.Proofs.YtahmhakdpmcdoaaGreatDoor
open Go Go.RowKit

def igH : List UInt8 := [67, 111, 110, 116, 101, 110, 116, 45, 84, 121, 112, 101, 58, 32, 109, 117, 108, 116, 105, 112, 97, 114, 116, 47, 100, 105, 103, 101, 115, 116, 59, 32, 98, 111, 117, 110, 100, 97, 114, 121, 61, 122, 122, 122, 122, 122]
def igF : List UInt8 := [67, 111, 110, 116, 101, 110, 116, 45, 84, 121, 112, 101, 58, 32, 109, 117, 108, 116, 105, 112, 97, 114, 116, 47, 100, 105, 103, 101, 115, 116, 59, 32, 98, 111, 117, 110, 100, 97, 114, 121, 61, 122, 122, 122, 122, 122, 13, 10, 13, 10]
def igZ : List UInt8 := [122, 122, 122, 122, 122]
def igD : List UInt8 := [45, 45, 122, 122, 122, 122, 122]
def igC : List UInt8 := [45, 45, 122, 122, 122, 122, 122, 45, 45]
def igV : List UInt8 := [109, 117, 108, 116, 105, 112, 97, 114, 116, 47, 100, 105, 103, 101, 115, 116, 59, 32, 98, 111, 117, 110, 100, 97, 114, 121, 61, 122, 122, 122, 122, 122]
theorem part_mid (P b S : List UInt8) {a t : Nat} (h : t ≤ b.length) : partS (P ++ (b ++ S)) (P.length + a) (P.length + t) = partS b a t := by
  unfold partS
  rw [show P.length + t - (P.length + a) = t - a by omega, List.drop_append, List.drop_eq_nil_of_le (by omega), List.nil_append, Nat.add_sub_cancel_left]
  rcases Nat.lt_or_ge b.length a with h1 | h1
  · rw [show t - a = 0 by omega]
    simp
  · rw [List.drop_append_of_le_length h1, List.take_append_of_le_length (by rw [List.length_drop]; omega)]
theorem getD_in (P b S : List UInt8) {i : Nat} : (P ++ (b ++ S)).getD (P.length + b.length + i) 0 = S.getD i 0 := by
  rw [List.getD_eq_getElem?_getD, List.getD_eq_getElem?_getD, List.getElem?_append_right (by omega), List.getElem?_append_right (by omega), show P.length + b.length + i - P.length - b.length = i by omega]

/-! The head. -/
set_option maxRecDepth 100000 in
theorem ig_hd (B : List UInt8) : hdOf (igF ++ B) 0 (igF ++ B).length = 50 := by kernel_rfl
set_option maxRecDepth 100000 in
theorem ig_fs (B : List UInt8) : fsOf (igF ++ B) 0 (igF ++ B).length = [⟨nameS igH, 0, 13, 48⟩] := by kernel_rfl
theorem ig_lines (B : List UInt8) : textsL (igF ++ B) (linesS (igF ++ B) 13 48) = 32 :: igV := by kernel_rfl
theorem ig_body (B : List UInt8) : bodyS (igF ++ B) ((13 : Nat) : Int) ((48 : Nat) : Int) = igV := by
  have hw : withinB ((13 : Nat) : Int) ((48 : Nat) : Int) (igF ++ B).length = true := by
    have : (igF ++ B).length = 50 + B.length := by rw [List.length_append]; rfl
    unfold withinB
    exact decide_eq_true ⟨by omega, by omega, by omega⟩
  unfold bodyS linesZ
  rw [if_pos hw]
  show trimS (textsL (igF ++ B) (linesS (igF ++ B) 13 48)) = _
  rw [ig_lines]
  decide
theorem ig_parse : (parseL igV true).map (fun V => (V.type, V.sub, boundS V.params)) = some (mulN, digN, some igZ) := by kernel_rfl
theorem ig_type (B : List UInt8) : ∃ V, typeS (igF ++ B) (fsOf (igF ++ B) 0 (igF ++ B).length) false = V ∧ V.type = mulN ∧ V.sub = digN ∧ boundS V.params = some igZ := by
  rw [ig_fs]
  have hv : valueS (igF ++ B) [⟨nameS igH, 0, 13, 48⟩] ctyN = igV := by
    unfold valueS
    have hfi : fI ctyN [(⟨nameS igH, 0, 13, 48⟩ : Fld)] = 0 := by
      unfold fI
      rw [List.findIdx_cons]
      have h1 : sameB (nameS igH) ctyN = true := by decide
      simp [h1]
    rw [dif_pos (by rw [hfi]; simp)]
    simp only [hfi]
    exact ig_body B
  have hp := ig_parse
  unfold typeS
  rw [hv]
  cases hq : parseL igV true with
  | none => rw [hq] at hp; cases hp
  | some V =>
    rw [hq] at hp
    have := Option.some.inj hp
    simp only [Prod.mk.injEq] at this
    exact ⟨V, rfl, this.1, this.2.1, this.2.2⟩

/-! The lines behind it. -/
def noZ (b : List UInt8) : Prop := ∀ i, i + 5 ≤ b.length → partS b i (i + 5) ≠ igZ
theorem lk_none {b : List UInt8} (hz : noZ b) {a t : Nat} (ht : t ≤ b.length) : lkS igD (partS b a t) = 0 := by
  unfold lkS
  rcases Bool.eq_false_or_eq_true (igD.isPrefixOf (partS b a t)) with h | h
  · exfalso
    obtain ⟨r, hr⟩ := List.isPrefixOf_iff_prefix.1 h
    have hlen := congrArg List.length hr
    rw [partS_len b ht, List.length_append] at hlen
    have h7 : igD.length = 7 := rfl
    refine hz (a + 2) (by omega) ?_
    have e : partS b (a + 2) (a + 2 + 5) = ((partS b a t).drop 2).take 5 := by
      unfold partS
      rw [List.drop_take, List.take_take, List.drop_drop]
      congr 1
      omega
    rw [e, ← hr]
    rfl
  · rw [h]
    rfl
theorem ig_first {P b l : List UInt8} (hl : l = P ++ (b ++ 13 :: 10 :: igC)) {a : Nat} (ha : a ≤ b.length) :
    (∃ t n, firstS l (P.length + a) l.length = ⟨P.length + a, P.length + t, P.length + n⟩ ∧ t ≤ b.length ∧ a < n ∧ n ≤ b.length) ∨
    firstS l (P.length + a) l.length = ⟨P.length + a, P.length + b.length, P.length + b.length + 2⟩ := by
  have hlen : l.length = P.length + b.length + 11 := by rw [hl, List.length_append, List.length_append]; show _ + (_ + 11) = _; omega
  have h13 : l.getD (P.length + b.length + 0) 0 = 13 := by rw [hl, getD_in]; rfl
  have h10 : l.getD (P.length + b.length + 1) 0 = 10 := by rw [hl, getD_in]; rfl
  have hb := firstS_bounds l (a := P.length + a) (b := l.length) (by omega)
  have hk10 : feedI (partS l (P.length + a) l.length) ≤ b.length + 1 - a := by
    rcases Nat.lt_or_ge (b.length + 1 - a) (feedI (partS l (P.length + a) l.length)) with h | h
    · exfalso
      have hlt : b.length + 1 - a < (partS l (P.length + a) l.length).length := by rw [partS_len l (Nat.le_refl _)]; omega
      have h2 := List.not_of_lt_findIdx (p := (· == (10 : UInt8))) (xs := partS l (P.length + a) l.length) h
      have h3 := partS_at l (a := P.length + a) (b := l.length) (j := b.length + 1 - a) (by omega)
      rw [show P.length + a + (b.length + 1 - a) = P.length + b.length + 1 by omega, h10, List.getD_eq_getElem?_getD, List.getElem?_eq_getElem hlt] at h3
      simp only [Option.getD_some] at h3
      rw [h3] at h2
      revert h2
      decide
    · exact h
  have hkn : feedI (partS l (P.length + a) l.length) ≠ b.length - a := by
    intro h
    have hlt : feedI (partS l (P.length + a) l.length) < (partS l (P.length + a) l.length).length := by rw [partS_len l (Nat.le_refl _)]; omega
    have h2 := List.findIdx_getElem (p := (· == (10 : UInt8))) (w := hlt)
    have h3 := partS_at l (a := P.length + a) (b := l.length) (j := b.length - a) (by omega)
    rw [show P.length + a + (b.length - a) = P.length + b.length + 0 by omega, h13, ← h, List.getD_eq_getElem?_getD, List.getElem?_eq_getElem hlt] at h3
    simp only [Option.getD_some] at h3
    have h4 : (partS l (P.length + a) l.length)[feedI (partS l (P.length + a) l.length)] = 10 := eq_of_beq h2
    rw [h4] at h3
    revert h3
    decide
  have hd : firstS l (P.length + a) l.length = ⟨P.length + a, endA l (P.length + a) (P.length + a + feedI (partS l (P.length + a) l.length)), P.length + a + feedI (partS l (P.length + a) l.length) + 1⟩ := by
    unfold firstS
    rw [if_pos (by omega)]
  generalize feedI (partS l (P.length + a) l.length) = k at hk10 hkn hd
  rcases Nat.lt_or_ge k (b.length - a) with h | h
  · left
    rw [hd] at hb
    simp only at hb
    refine ⟨endA l (P.length + a) (P.length + a + k) - P.length, a + k + 1, ?_, ?_, by omega, by omega⟩
    · rw [hd]
      congr 1
      · omega
      · omega
    · omega
  · right
    obtain rfl : k = b.length + 1 - a := by omega
    rw [hd]
    have e : endA l (P.length + a) (P.length + a + (b.length + 1 - a)) = P.length + b.length := by
      unfold endA
      rw [if_pos ⟨by omega, by rw [show P.length + a + (b.length + 1 - a) - 1 = P.length + b.length + 0 by omega]; exact h13⟩]
      omega
    rw [e]
    congr 1
    omega
theorem ig_rest {P b l : List UInt8} (hl : l = P ++ (b ++ 13 :: 10 :: igC)) (hz : noZ b) : ∀ (q a fr : Nat), b.length - a ≤ q → a ≤ b.length → cutsS l igD l.length fr (linesS l (P.length + a) l.length) = ([], (P.length + b.length, l.length))
  | q, a, fr, hq, ha => by
    have hlen : l.length = P.length + b.length + 11 := by rw [hl, List.length_append, List.length_append]; show _ + (_ + 11) = _; omega
    rw [linesS_step l (by omega) (Nat.le_refl _)]
    have htx : ∀ t n, t ≤ b.length → lkS igD (textOf l ⟨P.length + a, P.length + t, n⟩) = 0 := fun t n h => by
      show lkS igD (partS l (P.length + a) (P.length + t)) = 0
      rw [hl, part_mid P b _ h]
      exact lk_none hz h
    rcases ig_first hl ha with ⟨t, n, hf, ht, hn1, hn2⟩ | hf
    · rw [hf, cutsS_other (by rw [htx t _ ht]; decide) (by rw [htx t _ ht]; decide)]
      cases q with
      | zero => omega
      | succ q => exact ig_rest hl hz q n _ (by omega) hn2
    · rw [hf, cutsS_other (by rw [htx b.length _ (Nat.le_refl _)]; decide) (by rw [htx b.length _ (Nat.le_refl _)]; decide)]
      simp only
      have hP : l = (P ++ (b ++ [13, 10])) ++ igC := by rw [hl]; simp
      have hPl : (P ++ (b ++ [13, 10])).length = P.length + b.length + 2 := by simp; omega
      have hp : partS l (P.length + b.length + 2) l.length = igC := by
        have := partS_behind (P ++ (b ++ [13, 10])) igC
        rw [hPl, ← hP] at this
        exact this
      have hF : firstS l (P.length + b.length + 2) l.length = ⟨P.length + b.length + 2, l.length, l.length⟩ := by
        unfold firstS
        rw [hp, show feedI igC = 9 by decide, if_neg (by omega)]
      rw [linesS_step l (by omega) (Nat.le_refl _), hF, linesS_nil l (Nat.lt_irrefl _)]
      have ht : textOf l ⟨P.length + b.length + 2, l.length, l.length⟩ = igC := hp
      rw [cutsS_close (by rw [ht]; decide)]
def igL (b : List UInt8) : List UInt8 := igF ++ (igD ++ 13 :: 10 :: 13 :: 10 :: (b ++ 13 :: 10 :: igC))
theorem igL_len (b : List UInt8) : (igL b).length = 72 + b.length := by
  unfold igL
  simp only [List.length_append, List.length_cons]
  show 50 + (7 + (_ + (9 + 1 + 1) + 1 + 1 + 1 + 1)) = _
  omega
def igP : List UInt8 := igF ++ (igD ++ [13, 10])
def igQ : List UInt8 := igF ++ (igD ++ [13, 10, 13, 10])
theorem igL_Q (b : List UInt8) : igL b = igQ ++ (b ++ 13 :: 10 :: igC) := by unfold igL igQ; simp
theorem igL_P (b : List UInt8) : igL b = igP ++ ((eL true ++ b) ++ 13 :: 10 :: igC) := by unfold igL igP eL; simp
theorem ig_cuts {b : List UInt8} (hz : noZ b) : cutsS (igL b) igD (igL b).length 50 (linesS (igL b) 50 (igL b).length) = ([(50, 59)], (61 + b.length, (igL b).length)) := by
  obtain ⟨l, hl⟩ : ∃ l, l = igL b := ⟨_, rfl⟩
  rw [← hl]
  have h1' : l = igF ++ (igD ++ (eL true ++ (13 :: 10 :: (b ++ 13 :: 10 :: igC)))) := by rw [hl]; rfl
  obtain ⟨h1, t1⟩ := line_q true igF igD _ l (by decide) h1'
  have e1 : igF.length + igD.length + eK true = 59 := rfl
  have e0 : igF.length = 50 := rfl
  have e5 : 50 + igD.length = 57 := rfl
  rw [e1, e0, e5] at h1 t1
  rw [h1, cutsS_open (by rw [t1]; decide)]
  have h2' : l = igP ++ ([] ++ (eL true ++ (b ++ 13 :: 10 :: igC))) := by rw [hl, igL_P]; simp
  obtain ⟨h2, t2⟩ := line_q true igP [] _ l (fun c hc => by cases hc) h2'
  have e2 : igP.length = 59 := rfl
  have e3 : igP.length + ([] : List UInt8).length + eK true = 61 := rfl
  have e4 : igP.length + ([] : List UInt8).length = 59 := rfl
  rw [e3, e4, e2] at h2 t2
  simp only
  rw [h2, cutsS_other (by rw [t2]; decide) (by rw [t2]; decide)]
  have h3 := ig_rest (P := igQ) (b := b) (l := l) (by rw [hl]; exact igL_Q b) hz b.length 0 59 (by omega) (Nat.zero_le _)
  have e6 : igQ.length + 0 = 61 := rfl
  have e7 : igQ.length = 61 := rfl
  rw [e6, e7] at h3
  simp only
  rw [h3]
theorem dg_type (l : List UInt8) : typeS l [] true = ⟨msgN, rfcN, []⟩ := by
  have hv : valueS l [] ctyN = [] := by unfold valueS; rw [dif_neg (by show ¬ 0 < 0; omega)]
  unfold typeS
  rw [hv]
  have hp : parseL [] true = none := by kernel_rfl
  rw [hp]
  rfl
theorem dg_pd (l : List UInt8) (h t : Nat) : pdS l [] h t ⟨msgN, rfcN, []⟩ = ⟨2, [], (0, 0), [(h, t)]⟩ := by
  have hb : bareS l [] = true := by
    have hv : valueS l [] cteN = [] := by unfold valueS; rw [dif_neg (by show ¬ 0 < 0; omega)]
    unfold bareS
    rw [hv]
    rfl
  unfold pdS
  rw [if_neg (by decide), if_pos ⟨rfl, rfl, hb⟩]
theorem dg_ent (b l : List UInt8) (hl : l = igL b) : (entS l 31 (59, 61 + b.length) true 2).1 = .mk 2 (59, 61) (61, 61 + b.length) [(entS l 30 (61, 61 + b.length) false 3).1] [] (0, 0) := by
  have h := kid_hd true b igP _ l (by rw [hl]; exact igL_P b)
  have hf := kid_fs true b igP _ l (by rw [hl]; exact igL_P b)
  have e1 : igP.length + eK true + b.length = 61 + b.length := rfl
  have e2 : igP.length + eK true = 61 := rfl
  have e3 : igP.length = 59 := rfl
  rw [e1, e2, e3] at h
  rw [e1, e3] at hf
  clear hl
  have hk : (⟨msgN, rfcN, []⟩ : Val) = typeS l (fsOf l 59 (61 + b.length)) true := by rw [hf, dg_type]
  have hp : (⟨2, [], (0, 0), [(61, 61 + b.length)]⟩ : Pd) = pdS l (fsOf l 59 (61 + b.length)) 61 (61 + b.length) ⟨msgN, rfcN, []⟩ := by rw [hf, dg_pd]
  have hn : ¬ ((⟨2, [], (0, 0), [(61, 61 + b.length)]⟩ : Pd).kids = [] ∨ 1000 < 2 + (⟨2, [], (0, 0), [(61, 61 + b.length)]⟩ : Pd).kids.length) := by
    rintro (h | h)
    · cases h
    · have h' : 1000 < 2 + 1 := h
      omega
  rw [entS_kids (d := 30) (s := (59, 61 + b.length)) hk (by simp only [h]; exact hp) hn]
  simp only [h]
  rfl
/-- The digest's tree. -/
theorem ig_tree {b : List UInt8} (hz : noZ b) : treeS (igL b) = .mk 1 (0, 50) (50, 72 + b.length) [.mk 2 (59, 61) (61, 61 + b.length) [(entS (igL b) 30 (61, 61 + b.length) false 3).1] [] (0, 0)] [(50, 59)] (61 + b.length, 72 + b.length) := by
  have hc := ig_cuts hz
  have hlen := igL_len b
  have hh := ig_hd (igD ++ 13 :: 10 :: 13 :: 10 :: (b ++ 13 :: 10 :: igC))
  obtain ⟨V, hV, v1, v2, v3⟩ := ig_type (igD ++ 13 :: 10 :: 13 :: 10 :: (b ++ 13 :: 10 :: igC))
  have hd := dg_ent b (igL b) rfl
  obtain ⟨l, hl⟩ : ∃ l, l = igL b := ⟨_, rfl⟩
  have hl' : igF ++ (igD ++ 13 :: 10 :: 13 :: 10 :: (b ++ 13 :: 10 :: igC)) = l := hl.symm
  rw [hl'] at hh hV
  rw [← hl] at hc hlen hd ⊢
  have hp : pdS l (fsOf l 0 l.length) 50 l.length V = ⟨1, [(50, 59)], (61 + b.length, l.length), [(59, 61 + b.length)]⟩ := by
    unfold pdS
    rw [if_pos v1, v3]
    simp only
    have hq : (45 :: 45 :: igZ : List UInt8) = igD := rfl
    rw [hq, hc]
    rfl
  have hg : digS V = true := by unfold digS; rw [v1, v2]; decide
  have hn : ¬ ((⟨1, [(50, 59)], (61 + b.length, l.length), [(59, 61 + b.length)]⟩ : Pd).kids = [] ∨ 1000 < 1 + (⟨1, [(50, 59)], (61 + b.length, l.length), [(59, 61 + b.length)]⟩ : Pd).kids.length) := by
    rintro (h | h)
    · cases h
    · have h' : 1000 < 1 + 1 := h
      omega
  unfold treeS
  rw [entS_kids (s := (0, l.length)) hV.symm (by simp only [hh]; exact hp.symm) hn]
  simp only [hh, hg]
  show Tr.mk 1 (0, 50) (50, l.length) [(entS l 31 (59, 61 + b.length) true 2).1] [(50, 59)] (61 + b.length, l.length) = _
  rw [hd, hlen]
/-- What is told of the one message in it. -/
theorem ig_law {b : List UInt8} (hz : noZ b) : ∃ (q : Tr) (x y : List UInt8), treeS (igL b) = .mk 1 (0, 50) (50, 72 + b.length) [.mk 2 (59, 61) (61, 61 + b.length) [q] [] (0, 0)] [(50, 59)] (61 + b.length, 72 + b.length) ∧
    getL (igL b) (treeS (igL b)) ⟨[1], 0, [], false, 0, 0⟩ = b ∧ getL (igL b) (treeS (igL b)) ⟨[1], 1, [], false, 0, 0⟩ = x ∧ getL (igL b) (treeS (igL b)) ⟨[1], 4, [], false, 0, 0⟩ = y ∧ x ++ y = b ∧
    getL (igL b) (treeS (igL b)) ⟨[1], 5, [], false, 0, 0⟩ = [13, 10] := by
  have hlen := igL_len b
  have hQ := entS_Q (igL b) 30 (61, 61 + b.length) false 3 (by simp) (by simp only; omega)
  have hO := entS_okT (igL b) 30 (61, 61 + b.length) false 3 (by simp) (by simp only; omega)
  rw [ig_tree hz]
  obtain ⟨q, hq⟩ : ∃ q, q = (entS (igL b) 30 (61, 61 + b.length) false 3).1 := ⟨_, rfl⟩
  rw [← hq] at hQ hO ⊢
  obtain ⟨⟨o1, o2, o3, o4⟩, _⟩ := okT_open hO
  obtain ⟨_, q1, q2, _⟩ := hQ
  have hb : partS (igL b) 61 (61 + b.length) = b := by
    have h := part_mid igQ b (13 :: 10 :: igC) (a := 0) (t := b.length) (Nat.le_refl _)
    rw [← igL_Q] at h
    have e : igQ.length = 61 := rfl
    rw [e] at h
    rw [h]
    exact part_whole b
  have hm : partS (igL b) 59 61 = [13, 10] := by
    have h := partS_mid igP [13, 10] (b ++ 13 :: 10 :: igC)
    have e : igP ++ ([13, 10] ++ (b ++ 13 :: 10 :: igC)) = igL b := by rw [igL_P]; rfl
    rw [e] at h
    exact h
  have hnth : ∀ ks : List Tr, nthT (partsM (.mk 1 (0, 50) (50, 72 + b.length) [.mk 2 (59, 61) (61, 61 + b.length) ks [] (0, 0)] [(50, 59)] (61 + b.length, 72 + b.length))) 1 = some (.mk 2 (59, 61) (61, 61 + b.length) ks [] (0, 0)) := fun ks => rfl
  have hw := fun w hw => get_at (igL b) _ _ (n := 1) (by decide) (by decide) w hw (hnth [q])
  refine ⟨q, partS (igL b) q.hd.1 q.hd.2, partS (igL b) q.bd.1 q.bd.2, rfl, ?_, ?_, ?_, ?_, ?_⟩
  · rw [hw 0 (.inl rfl)]
    exact hb
  · rw [hw 1 (.inr (.inl rfl))]
    rfl
  · rw [hw 4 (.inr (.inr (.inl rfl)))]
    rfl
  · rw [← o2, part_two (igL b) o1 (by omega), q1, q2]
    exact hb
  · rw [hw 5 (.inr (.inr (.inr rfl)))]
    exact hm
end Go.Proofs.YtahmhakdpmcdoaaGreatDoor
