/- TreeLeaves in plain words: a message of one field without a type is one leaf. No program. -/
import Derived.Test.YtfgppamhbchhcaaGreatDoorGbTrJ
namespace Go.Proofs.YtfgppamhbchhcaaGreatDoor
open Go Go.RowKit

/-- The first line of these bytes, if they go on by CR LF. -/
theorem firstS_crlf (p r s : List UInt8) (hr : ∀ c ∈ r, c ≠ 10 ∧ c ≠ 13) : firstS (p ++ (r ++ 13 :: 10 :: s)) p.length (p ++ (r ++ 13 :: 10 :: s)).length = ⟨p.length, p.length + r.length, p.length + r.length + 2⟩ := by
  unfold firstS
  rw [partS_behind]
  have e : r ++ 13 :: 10 :: s = (r ++ [13]) ++ 10 :: s := by simp
  have hf : feedI (r ++ 13 :: 10 :: s) = r.length + 1 := by
    rw [e, feedI_here (by
      intro c hc
      rcases List.mem_append.1 hc with h | h
      · exact (hr c h).1
      · rw [List.mem_singleton.1 h]; decide)]
    simp
  rw [hf, if_pos (by simp)]
  have hend : endA (p ++ (r ++ 13 :: 10 :: s)) p.length (p.length + (r.length + 1)) = p.length + r.length := by
    unfold endA
    rw [if_pos]
    · omega
    · refine ⟨by omega, ?_⟩
      rw [show p.length + (r.length + 1) - 1 = p.length + r.length by omega, List.getD_eq_getElem?_getD, List.getElem?_append_right (by omega), show p.length + r.length - p.length = r.length by omega,
        List.getElem?_append_right (by omega), Nat.sub_self]
      rfl
  rw [hend]
  congr 1
def sbjN : List UInt8 := [115, 117, 98, 106, 101, 99, 116]
def sbjH : List UInt8 := [115, 117, 98, 106, 101, 99, 116, 58, 32]
def prB (c : UInt8) : Bool := decide (32 < c.toNat ∧ c.toNat < 127)
theorem leaf_lines (h b : List UInt8) (hh : ∀ c ∈ h, c ≠ 10 ∧ c ≠ 13) (h0 : h ≠ []) : ∃ ls, linesS (h ++ 13 :: 10 :: 13 :: 10 :: b) 0 (h ++ 13 :: 10 :: 13 :: 10 :: b).length = ⟨0, h.length, h.length + 2⟩ :: ⟨h.length + 2, h.length + 2, h.length + 4⟩ :: ls := by
  have hl : 0 < h.length := by cases h with | nil => exact absurd rfl h0 | cons _ _ => simp
  rw [linesS_step _ (by simp; omega) (Nat.le_refl _)]
  have h1 := firstS_crlf [] h (13 :: 10 :: b) hh
  simp only [List.nil_append, List.length_nil, Nat.zero_add] at h1
  rw [h1]
  have e : h ++ 13 :: 10 :: 13 :: 10 :: b = (h ++ [13, 10]) ++ ([] ++ 13 :: 10 :: b) := by simp
  have el : (h ++ [13, 10]).length = h.length + 2 := by simp
  rw [linesS_step _ (by simp) (Nat.le_refl _)]
  have h2 := firstS_crlf (h ++ [13, 10]) [] b (fun c hc => by cases hc)
  rw [← e, el] at h2
  simp only [List.length_nil, Nat.add_zero] at h2
  simp only
  rw [h2]
  exact ⟨_, rfl⟩
theorem leaf_tree (hs b : List UInt8) (hh : hs.all prB = true) : treeS (sbjH ++ hs ++ 13 :: 10 :: 13 :: 10 :: b) = leafT 0 (9 + hs.length + 4) (9 + hs.length + 4 + b.length) := by
  obtain ⟨h, hd⟩ : ∃ h, h = sbjH ++ hs := ⟨_, rfl⟩
  have hlen : h.length = 9 + hs.length := by rw [hd]; simp [sbjH]; omega
  have hne : h ≠ [] := by intro e; rw [e] at hlen; simp at hlen; omega
  have hhp : ∀ c ∈ h, c ≠ 10 ∧ c ≠ 13 := by
    intro c hc
    rw [hd] at hc
    rcases List.mem_append.1 hc with hc | hc
    · have hk : ∀ c ∈ sbjH, c ≠ 10 ∧ c ≠ 13 := by decide
      exact hk c hc
    · have := List.all_eq_true.1 hh c hc
      unfold prB at this
      have := of_decide_eq_true this
      refine ⟨?_, ?_⟩ <;> (intro e; subst e; revert this; decide)
  obtain ⟨ls, hls⟩ := leaf_lines h b hhp hne
  rw [← hd]
  obtain ⟨l, hl⟩ : ∃ l, l = h ++ 13 :: 10 :: 13 :: 10 :: b := ⟨_, rfl⟩
  have hll : l.length = 9 + hs.length + 4 + b.length := by rw [hl]; simp; omega
  rw [← hl] at hls ⊢
  have hei : eI (linesS l 0 l.length) = 1 := by
    rw [hls]
    unfold eI
    rw [List.findIdx_cons]
    have h1 : ((0 : Nat) == h.length) = false := by rw [beq_eq_false_iff_ne]; omega
    simp only [h1, cond_false]
    rw [List.findIdx_cons]
    simp
  have hho : hdOf l 0 l.length = 9 + hs.length + 4 := by
    unfold hdOf behindN
    rw [dif_pos (by rw [hei, hls]; simp)]
    simp only [hei]
    simp only [hls]
    simp
    omega
  have hfs : fsOf l 0 l.length = [⟨sbjN, 0, 8, h.length + 2⟩] := by
    unfold fsOf
    rw [hei, hls]
    show (begunS l ⟨0, h.length, h.length + 2⟩).toList = _
    have ht : textOf l ⟨0, h.length, h.length + 2⟩ = h := by
      unfold textOf partS
      rw [hl]
      simp
    have hc : colI (textOf l ⟨0, h.length, h.length + 2⟩) = 7 := by
      rw [ht, hd]
      rfl
    have hn : nameS (textOf l ⟨0, h.length, h.length + 2⟩) = sbjN := by
      unfold nameS
      rw [hc, ht, hd]
      rfl
    unfold begunS
    rw [hn, hc, ht, if_pos ⟨by omega, by decide⟩]
    rfl
  have hty : typeS l (fsOf l 0 l.length) false = ⟨txtN, plnN, []⟩ := by
    have hv : valueS l (fsOf l 0 l.length) ctyN = [] := by
      unfold valueS
      rw [dif_neg]
      rw [hfs]
      have : fI ctyN [(⟨sbjN, 0, 8, h.length + 2⟩ : Fld)] = 1 := by
        unfold fI
        rw [List.findIdx_cons]
        have h1 : sameB sbjN ctyN = false := by decide
        simp [h1]
      rw [this]
      simp
    unfold typeS
    rw [hv]
    rfl
  have hpd : (pdS l (fsOf l 0 l.length) (hdOf l 0 l.length) l.length (typeS l (fsOf l 0 l.length) false)).kids = [] := by
    rw [hty]
    unfold pdS
    rw [if_neg (by decide), if_neg (by rintro ⟨h1, _⟩; revert h1; decide)]
    rfl
  have := entS_leaf (l := l) (d := 31) (s := (0, l.length)) (g := false) (c := 1) (.inl hpd)
  unfold treeS
  rw [this]
  simp only
  rw [hho, hll]
end Go.Proofs.YtfgppamhbchhcaaGreatDoor

/- TreeDeep in plain words: the tree of a message within messages. No program. -/
namespace Go.Proofs.YtfgppamhbchhcaaGreatDoor
open Go Go.RowKit

/-- The first line of these bytes, if they go on by a feed alone. -/
theorem firstS_lf (p r s : List UInt8) (hr : ∀ c ∈ r, c ≠ 10 ∧ c ≠ 13) : firstS (p ++ (r ++ 10 :: s)) p.length (p ++ (r ++ 10 :: s)).length = ⟨p.length, p.length + r.length, p.length + r.length + 1⟩ := by
  unfold firstS
  rw [partS_behind]
  have hf : feedI (r ++ 10 :: s) = r.length := feedI_here fun c hc => (hr c hc).1
  rw [hf, if_pos (by simp)]
  have hend : endA (p ++ (r ++ 10 :: s)) p.length (p.length + r.length) = p.length + r.length := by
    unfold endA
    rw [if_neg]
    rintro ⟨h1, h2⟩
    have hlt : r.length - 1 < r.length := by omega
    rw [show p.length + r.length - 1 = p.length + (r.length - 1) by omega, List.getD_eq_getElem?_getD, List.getElem?_append_right (by omega), Nat.add_sub_cancel_left, List.getElem?_append_left hlt, List.getElem?_eq_getElem hlt] at h2
    exact (hr _ (List.getElem_mem hlt)).2 h2
  rw [hend]
/-- The lines of a header of one line, an empty line behind it. -/
theorem head_lines (p h s : List UInt8) (hh : ∀ c ∈ h, c ≠ 10 ∧ c ≠ 13) : ∃ ls, linesS (p ++ (h ++ 10 :: 10 :: s)) p.length (p ++ (h ++ 10 :: 10 :: s)).length = ⟨p.length, p.length + h.length, p.length + h.length + 1⟩ :: ⟨p.length + h.length + 1, p.length + h.length + 1, p.length + h.length + 2⟩ :: ls := by
  rw [linesS_step _ (by simp; omega) (Nat.le_refl _), firstS_lf p h (10 :: s) hh]
  have e : p ++ (h ++ 10 :: 10 :: s) = (p ++ h ++ [10]) ++ ([] ++ 10 :: s) := by simp
  have el : (p ++ h ++ [10]).length = p.length + h.length + 1 := by simp; omega
  rw [linesS_step _ (by simp; omega) (Nat.le_refl _)]
  have h2 := firstS_lf (p ++ h ++ [10]) [] s (fun c hc => by cases hc)
  rw [← e, el] at h2
  simp only [List.length_nil, Nat.add_zero] at h2
  simp only
  rw [h2]
  exact ⟨_, rfl⟩
theorem head_text (p h s : List UInt8) : textOf (p ++ (h ++ 10 :: 10 :: s)) ⟨p.length, p.length + h.length, p.length + h.length + 1⟩ = h := partS_mid p h _
theorem head_ei {ls xs : List Ln} {a b c : Nat} (hab : a < b) (h : xs = ⟨a, b, c⟩ :: ⟨c, c, c + 1⟩ :: ls) : eI xs = 1 := by
  rw [h]
  unfold eI
  rw [List.findIdx_cons]
  have h1 : (a == b) = false := by rw [beq_eq_false_iff_ne]; omega
  simp only [h1, cond_false]
  rw [List.findIdx_cons]
  simp
theorem head_hd (p h s : List UInt8) (hh : ∀ c ∈ h, c ≠ 10 ∧ c ≠ 13) (h0 : 0 < h.length) : hdOf (p ++ (h ++ 10 :: 10 :: s)) p.length (p ++ (h ++ 10 :: 10 :: s)).length = p.length + h.length + 2 := by
  obtain ⟨ls, hls⟩ := head_lines p h s hh
  have hei := head_ei (by omega) hls
  unfold hdOf behindN
  rw [dif_pos (by rw [hei, hls]; simp)]
  simp only [hei]
  simp only [hls]
  simp
theorem head_fs (p h s : List UInt8) (hh : ∀ c ∈ h, c ≠ 10 ∧ c ≠ 13) (hc : colI h < h.length) (hn : namedB (nameS h) = true) :
    fsOf (p ++ (h ++ 10 :: 10 :: s)) p.length (p ++ (h ++ 10 :: 10 :: s)).length = [⟨nameS h, p.length, p.length + colI h + 1, p.length + h.length + 1⟩] := by
  obtain ⟨ls, hls⟩ := head_lines p h s hh
  have hei := head_ei (by omega) hls
  unfold fsOf
  rw [hei, hls]
  show (begunS _ _).toList = _
  unfold begunS
  rw [head_text, if_pos ⟨hc, hn⟩]
  rfl
def msH : List UInt8 := [67, 111, 110, 116, 101, 110, 116, 45, 84, 121, 112, 101, 58, 32, 109, 101, 115, 115, 97, 103, 101, 47, 114, 102, 99, 56, 50, 50]
def msV : List UInt8 := [32, 109, 101, 115, 115, 97, 103, 101, 47, 114, 102, 99, 56, 50, 50]
def xyH : List UInt8 := [120, 58, 32, 121]
theorem msH_ok : ∀ c ∈ msH, c ≠ 10 ∧ c ≠ 13 := by decide
theorem xyH_ok : ∀ c ∈ xyH, c ≠ 10 ∧ c ≠ 13 := by decide
theorem ms_fs (p s : List UInt8) : fsOf (p ++ (msH ++ 10 :: 10 :: s)) p.length (p ++ (msH ++ 10 :: 10 :: s)).length = [⟨nameS msH, p.length, p.length + 13, p.length + 29⟩] :=
  head_fs p msH s msH_ok (by decide) (by decide)
theorem xy_fs (p s : List UInt8) : fsOf (p ++ (xyH ++ 10 :: 10 :: s)) p.length (p ++ (xyH ++ 10 :: 10 :: s)).length = [⟨nameS xyH, p.length, p.length + 2, p.length + 5⟩] :=
  head_fs p xyH s xyH_ok (by decide) (by decide)
/-- A line that a part is, but for the feed that ends it. -/
theorem firstS_part {l r : List UInt8} {a b : Nat} (h : partS l a b = r ++ [10]) (hr : ∀ c ∈ r, c ≠ 10 ∧ c ≠ 13) (hb : b = a + r.length + 1) : firstS l a b = ⟨a, a + r.length, b⟩ := by
  subst hb
  unfold firstS
  have hf : feedI (partS l a (a + r.length + 1)) = r.length := by
    rw [h]
    exact feedI_here fun c hc => (hr c hc).1
  rw [hf, if_pos (by omega)]
  have hend : endA l a (a + r.length) = a + r.length := by
    unfold endA
    rw [if_neg]
    rintro ⟨h1, h2⟩
    have hlt : r.length - 1 < r.length := by omega
    have h3 := partS_at l (a := a) (b := a + r.length + 1) (j := r.length - 1) (by omega)
    rw [h, List.getD_eq_getElem?_getD, List.getElem?_append_left hlt, List.getElem?_eq_getElem hlt] at h3
    rw [show a + r.length - 1 = a + (r.length - 1) by omega, ← h3] at h2
    exact (hr _ (List.getElem_mem hlt)).2 h2
  rw [hend]
theorem bodyS_line {l r : List UInt8} {a b : Nat} (h : partS l a b = r ++ [10]) (hr : ∀ c ∈ r, c ≠ 10 ∧ c ≠ 13) (hb : b = a + r.length + 1) (hl : b ≤ l.length) : bodyS l (a : Int) (b : Int) = trimS r := by
  have hw : withinB (a : Int) (b : Int) l.length = true := by unfold withinB; simp; omega
  have h1 : linesS l a b = [⟨a, a + r.length, b⟩] := by
    rw [linesS_step l (by omega) hl, firstS_part h hr hb, linesS_nil l (Nat.lt_irrefl _)]
  unfold bodyS linesZ
  rw [if_pos hw]
  show trimS (textsL l (linesS l a b)) = _
  rw [h1]
  unfold textsL
  simp only [List.map_cons, List.map_nil, List.flatten_cons, List.flatten_nil, List.append_nil]
  congr 1
  show partS l a (a + r.length) = r
  have h2 : partS l a (a + r.length) = (partS l a b).take r.length := by
    unfold partS
    rw [List.take_take]
    congr 1
    omega
  rw [h2, h, List.take_left]
theorem ms_text (p s : List UInt8) : partS (p ++ (msH ++ 10 :: 10 :: s)) (p.length + 13) (p.length + 29) = msV ++ [10] := by
  have e : p ++ (msH ++ 10 :: 10 :: s) = (p ++ msH.take 13) ++ ((msV ++ [10]) ++ 10 :: s) := by
    have : msH = msH.take 13 ++ msV := by decide
    rw [List.append_assoc]
    congr 1
  have el : (p ++ msH.take 13).length = p.length + 13 := by rw [List.length_append]; rfl
  have h := partS_mid (p ++ msH.take 13) (msV ++ [10]) (10 :: s)
  rw [← e, el] at h
  exact h
theorem ms_body (p s : List UInt8) : bodyS (p ++ (msH ++ 10 :: 10 :: s)) ((p.length + 13 : Nat) : Int) ((p.length + 29 : Nat) : Int) = msgN ++ 47 :: rfcN := by
  rw [bodyS_line (ms_text p s) (by decide) (by rfl) (by simp [msH])]
  decide
theorem ms_type (p s : List UInt8) (t : List Fld) (g : Bool) (ht : t = [⟨nameS msH, p.length, p.length + 13, p.length + 29⟩]) : typeS (p ++ (msH ++ 10 :: 10 :: s)) t g = ⟨msgN, rfcN, []⟩ := by
  subst ht
  have hv : valueS (p ++ (msH ++ 10 :: 10 :: s)) [⟨nameS msH, p.length, p.length + 13, p.length + 29⟩] ctyN = msgN ++ 47 :: rfcN := by
    unfold valueS
    have hfi : fI ctyN [(⟨nameS msH, p.length, p.length + 13, p.length + 29⟩ : Fld)] = 0 := by
      unfold fI
      rw [List.findIdx_cons]
      have h1 : sameB (nameS msH) ctyN = true := by decide
      simp [h1]
    rw [dif_pos (by rw [hfi]; simp)]
    simp only [hfi]
    exact ms_body p s
  have hp : parseL (msgN ++ 47 :: rfcN) true = some ⟨msgN, rfcN, []⟩ := by kernel_rfl
  unfold typeS
  rw [hv, hp]
theorem one_none (l : List UInt8) (f : Fld) (nm : List UInt8) (h : sameB f.nm nm = false) : valueS l [f] nm = [] := by
  unfold valueS
  have hfi : fI nm [f] = 1 := by
    unfold fI
    rw [List.findIdx_cons]
    simp [h]
  rw [dif_neg (by rw [hfi]; simp)]
/-- So many headers of a message, and what stands behind them. -/
def nestL (t : List UInt8) : Nat → List UInt8
  | 0 => t
  | k + 1 => msH ++ 10 :: 10 :: nestL t k
/-- The tree of so many messages, the entity at p, so many levels above the last that may be. -/
def chT (L : Nat) : Nat → Nat → Nat → Tr
  | 0, _, p => leafT p (p + 6) L
  | _ + 1, 0, p => leafT p (p + 30) L
  | k + 1, d + 1, p => .mk 2 (p, p + 30) (p + 30, L) [chT L k d (p + 30)] [] (0, 0)
theorem ms_pd (p s : List UInt8) (fs : List Fld) (h t : Nat) (hf : fs = [⟨nameS msH, p.length, p.length + 13, p.length + 29⟩]) : pdS (p ++ (msH ++ 10 :: 10 :: s)) fs h t ⟨msgN, rfcN, []⟩ = ⟨2, [], (0, 0), [(h, t)]⟩ := by
  subst hf
  have hb : bareS (p ++ (msH ++ 10 :: 10 :: s)) [⟨nameS msH, p.length, p.length + 13, p.length + 29⟩] = true := by
    unfold bareS
    rw [one_none _ _ cteN (by show sameB (nameS msH) cteN = false; decide)]
    rfl
  unfold pdS
  rw [if_neg (by decide), if_pos ⟨rfl, rfl, hb⟩]
theorem xy_pd (p s : List UInt8) (h t : Nat) (g : Bool) (hg : g = false) : (pdS (p ++ (xyH ++ 10 :: 10 :: s)) [⟨nameS xyH, p.length, p.length + 2, p.length + 5⟩] h t (typeS (p ++ (xyH ++ 10 :: 10 :: s)) [⟨nameS xyH, p.length, p.length + 2, p.length + 5⟩] g)).kids = [] := by
  subst hg
  have hty : typeS (p ++ (xyH ++ 10 :: 10 :: s)) [⟨nameS xyH, p.length, p.length + 2, p.length + 5⟩] false = ⟨txtN, plnN, []⟩ := by
    unfold typeS
    rw [one_none _ _ ctyN (by show sameB (nameS xyH) ctyN = false; decide)]
    rfl
  rw [hty]
  unfold pdS
  rw [if_neg (by decide), if_neg (by rintro ⟨h1, _⟩; revert h1; decide)]
  rfl
theorem ms_ent (p s l : List UInt8) (d c : Nat) (hl : l = p ++ (msH ++ 10 :: 10 :: s)) (hc : c + 1 ≤ 1000) :
    entS l (d + 1) (p.length, l.length) false c = (.mk 2 (p.length, p.length + 30) (p.length + 30, l.length) [(entS l d (p.length + 30, l.length) false (c + 1)).1] [] (0, 0), (entS l d (p.length + 30, l.length) false (c + 1)).2) := by
  have hh : hdOf l p.length l.length = p.length + 30 := by rw [hl]; exact head_hd p msH s msH_ok (by decide)
  have hfs : fsOf l p.length l.length = [⟨nameS msH, p.length, p.length + 13, p.length + 29⟩] := by rw [hl]; exact ms_fs p s
  have hty : ∀ fs, fs = [(⟨nameS msH, p.length, p.length + 13, p.length + 29⟩ : Fld)] → typeS l fs false = ⟨msgN, rfcN, []⟩ := fun fs h => by rw [hl]; exact ms_type p s fs false h
  have hpd : ∀ fs h t, fs = [(⟨nameS msH, p.length, p.length + 13, p.length + 29⟩ : Fld)] → pdS l fs h t ⟨msgN, rfcN, []⟩ = ⟨2, [], (0, 0), [(h, t)]⟩ := fun fs h t e => by rw [hl]; exact ms_pd p s fs h t e
  clear hl
  have hk := (hty _ hfs).symm
  have hp := (hpd _ (hdOf l p.length l.length) l.length hfs).symm
  rw [hh] at hp
  have hn : ¬ ((⟨2, [], (0, 0), [(p.length + 30, l.length)]⟩ : Pd).kids = [] ∨ 1000 < c + (⟨2, [], (0, 0), [(p.length + 30, l.length)]⟩ : Pd).kids.length) := by
    rintro (h | h)
    · cases h
    · have h' : 1000 < c + 1 := h
      omega
  rw [entS_kids (s := (p.length, l.length)) hk (by simp only [hh]; exact hp) hn]
  simp only [hh]
  rfl
theorem nest_ent (e : List UInt8) : ∀ (k d c : Nat) (p l : List UInt8), c + k ≤ 1000 → l = p ++ nestL (xyH ++ 10 :: 10 :: e) k → (entS l d (p.length, l.length) false c).1 = chT l.length k d p.length
  | 0, d, c, p, l, hc, hl => by
    subst hl
    show (entS (p ++ (xyH ++ 10 :: 10 :: e)) d (p.length, (p ++ (xyH ++ 10 :: 10 :: e)).length) false c).1 = leafT p.length (p.length + 6) (p ++ (xyH ++ 10 :: 10 :: e)).length
    have hh : hdOf (p ++ (xyH ++ 10 :: 10 :: e)) p.length (p ++ (xyH ++ 10 :: 10 :: e)).length = p.length + 6 := head_hd p xyH e xyH_ok (by decide)
    cases d with
    | zero =>
      show leafT _ (hdOf _ _ _) _ = _
      rw [hh]
    | succ d =>
      rw [entS_leaf (.inl (by simp only; rw [xy_fs]; exact xy_pd p e _ _ false rfl))]
      simp only
      rw [hh]
  | k + 1, d, c, p, l, hc, hl => by
    have hl' : l = p ++ (msH ++ 10 :: 10 :: nestL (xyH ++ 10 :: 10 :: e) k) := hl
    have e1 : l = (p ++ msH ++ [10, 10]) ++ nestL (xyH ++ 10 :: 10 :: e) k := by rw [hl']; simp
    have e2 : (p ++ msH ++ [10, 10]).length = p.length + 30 := by simp [msH]
    cases d with
    | zero =>
      have hh : hdOf l p.length l.length = p.length + 30 := by rw [hl']; exact head_hd p msH _ msH_ok (by decide)
      show leafT _ (hdOf _ _ _) _ = leafT _ _ _
      rw [hh]
    | succ d =>
      have ih := fun c' h' => nest_ent e k d c' (p ++ msH ++ [10, 10]) l h' e1
      rw [e2] at ih
      rw [ms_ent p _ l d c hl' (by omega)]
      show Tr.mk 2 _ _ _ [] (0, 0) = Tr.mk 2 _ _ _ [] (0, 0)
      rw [ih (c + 1) (by omega)]
theorem nest_tree (e : List UInt8) (k : Nat) (hk : k ≤ 900) (l : List UInt8) (hl : l = nestL (xyH ++ 10 :: 10 :: e) k) : treeS l = chT l.length k 32 0 :=
  nest_ent e k 32 1 [] l (by omega) (by rw [hl]; rfl)
theorem nest_len (t : List UInt8) : ∀ k, (nestL t k).length = 30 * k + t.length
  | 0 => by simp [nestL]
  | k + 1 => by simp [nestL, nest_len t k, msH]; omega
end Go.Proofs.YtfgppamhbchhcaaGreatDoor

/- A tree farther behind: what stands ahead of a message turns nothing but the places. No program. -/
namespace Go.Proofs.YtfgppamhbchhcaaGreatDoor
open Go Go.RowKit

theorem getD_shift (p l : List UInt8) (i : Nat) : (p ++ l).getD (p.length + i) 0 = l.getD i 0 := by
  rw [List.getD_eq_getElem?_getD, List.getD_eq_getElem?_getD, List.getElem?_append_right (by omega), Nat.add_sub_cancel_left]
def shL (n : Nat) (x : Ln) : Ln := ⟨n + x.f, n + x.t, n + x.n⟩
def shF (n : Nat) (x : Fld) : Fld := ⟨x.nm, n + x.f, n + x.b, n + x.t⟩
def shP (n : Nat) (s : Sp) : Sp := (n + s.1, n + s.2)
theorem endA_shift (p l : List UInt8) (a i : Nat) : endA (p ++ l) (p.length + a) (p.length + i) = p.length + endA l a i := by
  unfold endA
  by_cases h : a < i
  · have e : p.length + i - 1 = p.length + (i - 1) := by omega
    rw [e, getD_shift]
    by_cases h2 : l.getD (i - 1) 0 = 13
    · rw [if_pos ⟨by omega, h2⟩, if_pos ⟨h, h2⟩]
    · rw [if_neg (fun h3 => h2 h3.2), if_neg (fun h3 => h2 h3.2)]
  · rw [if_neg (fun h3 => by omega), if_neg (fun h3 => h h3.1)]
theorem scanL_shift (p l : List UInt8) : ∀ (k a i : Nat), scanL (p ++ l) k (p.length + a) (p.length + i) = (scanL l k a i).map (shL p.length)
  | 0, a, i => by
    unfold scanL
    by_cases h : a < i
    · rw [if_pos (by omega), if_pos h]; rfl
    · rw [if_neg (by omega), if_neg h]; rfl
  | k + 1, a, i => by
    unfold scanL
    rw [getD_shift]
    by_cases h : l.getD i 0 = 10
    · rw [if_pos h, if_pos h, endA_shift, Nat.add_assoc, scanL_shift p l k (i + 1) (i + 1), List.map_cons]
      rfl
    · rw [if_neg h, if_neg h, Nat.add_assoc, scanL_shift p l k a (i + 1)]
theorem linesS_shift (p l : List UInt8) (a b : Nat) : linesS (p ++ l) (p.length + a) (p.length + b) = (linesS l a b).map (shL p.length) := by
  unfold linesS
  rw [show p.length + b - (p.length + a) = b - a by omega]
  exact scanL_shift p l _ _ _
theorem partS_shift (p l : List UInt8) (a b : Nat) : partS (p ++ l) (p.length + a) (p.length + b) = partS l a b := by
  unfold partS
  rw [show p.length + b - (p.length + a) = b - a by omega, List.drop_append, List.drop_eq_nil_of_le (by omega), List.nil_append, Nat.add_sub_cancel_left]
theorem textOf_shift (p l : List UInt8) (x : Ln) : textOf (p ++ l) (shL p.length x) = textOf l x := partS_shift p l _ _
theorem begunS_shift (p l : List UInt8) (x : Ln) : begunS (p ++ l) (shL p.length x) = (begunS l x).map (shF p.length) := by
  unfold begunS
  rw [textOf_shift]
  split
  · show some _ = some _
    congr 1
    simp only [shF, shL]
    congr 1
    omega
  · rfl
theorem onB_shift (p l : List UInt8) (x : Ln) : onB (p ++ l) (shL p.length x) = onB l x := by
  unfold onB
  exact congrArg blk (getD_shift p l _)
theorem farF_shift (n : Nat) (x : Ln) (o : Option Fld) : farF (shL n x) (o.map (shF n)) = (farF x o).map (shF n) := by cases o <;> rfl
theorem goL_shift (p l : List UInt8) : ∀ (ls : List Ln) (o : Option Fld), goL (p ++ l) (o.map (shF p.length)) (ls.map (shL p.length)) = (goL l o ls).map (shF p.length)
  | [], o => by cases o <;> rfl
  | x :: r, o => by
    rw [List.map_cons]
    by_cases h : onB l x = true
    · rw [goL, goL, onB_shift, if_pos h, if_pos h, farF_shift, goL_shift p l r]
    · rw [goL, goL, onB_shift, if_neg h, if_neg h, begunS_shift, goL_shift p l r, List.map_append]
      congr 1
      cases o <;> rfl
theorem fieldsL_shift (p l : List UInt8) : ∀ ls : List Ln, fieldsL (p ++ l) (ls.map (shL p.length)) = (fieldsL l ls).map (shF p.length)
  | [] => rfl
  | x :: r => by
    show goL _ (begunS _ _) _ = _
    rw [begunS_shift]
    exact goL_shift p l r _
theorem eI_shift (n : Nat) (ls : List Ln) : eI (ls.map (shL n)) = eI ls := by
  unfold eI
  rw [List.findIdx_map]
  congr 1
  funext x
  show (n + x.f == n + x.t) = (x.f == x.t)
  by_cases h : x.f = x.t
  · rw [h]; simp
  · rw [beq_eq_false_iff_ne.2 h, beq_eq_false_iff_ne.2 (by omega)]
theorem fsOf_shift (p l : List UInt8) (a b : Nat) : fsOf (p ++ l) (p.length + a) (p.length + b) = (fsOf l a b).map (shF p.length) := by
  unfold fsOf
  rw [linesS_shift, eI_shift, ← List.map_take, fieldsL_shift]
theorem hdOf_shift (p l : List UInt8) (a b : Nat) : hdOf (p ++ l) (p.length + a) (p.length + b) = p.length + hdOf l a b := by
  unfold hdOf behindN
  simp only [linesS_shift, eI_shift, List.length_map]
  split
  · rw [List.getElem_map]; rfl
  · rfl
theorem fI_shift (nm : List UInt8) (n : Nat) (fs : List Fld) : fI nm (fs.map (shF n)) = fI nm fs := by
  unfold fI
  rw [List.findIdx_map]
  rfl
theorem textsL_shift (p l : List UInt8) (ls : List Ln) : textsL (p ++ l) (ls.map (shL p.length)) = textsL l ls := by
  unfold textsL
  rw [List.map_map]
  congr 2
  funext x
  exact textOf_shift p l x
theorem bodyS_shift (p l : List UInt8) (b t : Nat) : bodyS (p ++ l) ((p.length + b : Nat) : Int) ((p.length + t : Nat) : Int) = bodyS l (b : Int) (t : Int) := by
  unfold bodyS linesZ
  have hw : withinB ((p.length + b : Nat) : Int) ((p.length + t : Nat) : Int) (p ++ l).length = withinB (b : Int) (t : Int) l.length := by
    unfold withinB
    rw [List.length_append]
    congr 1
    refine propext ⟨fun ⟨h1, h2, h3⟩ => ⟨by omega, by omega, by omega⟩, fun ⟨h1, h2, h3⟩ => ⟨by omega, by omega, by omega⟩⟩
  rw [hw]
  by_cases h : withinB (b : Int) (t : Int) l.length = true
  · rw [if_pos h, if_pos h]
    simp only [Int.toNat_natCast]
    rw [linesS_shift, textsL_shift]
  · rw [if_neg h, if_neg h]
    rfl
theorem valueS_shift (p l : List UInt8) (fs : List Fld) (nm : List UInt8) : valueS (p ++ l) (fs.map (shF p.length)) nm = valueS l fs nm := by
  unfold valueS
  simp only [fI_shift, List.length_map]
  split
  · rw [List.getElem_map]
    exact bodyS_shift p l _ _
  · rfl
theorem typeS_shift (p l : List UInt8) (fs : List Fld) (g : Bool) : typeS (p ++ l) (fs.map (shF p.length)) g = typeS l fs g := by
  unfold typeS
  rw [valueS_shift]
theorem bareS_shift (p l : List UInt8) (fs : List Fld) : bareS (p ++ l) (fs.map (shF p.length)) = bareS l fs := by
  unfold bareS
  rw [valueS_shift]
theorem cutsS_shift (p l m0 : List UInt8) (bt : Nat) : ∀ (ls : List Ln) (fr : Nat), cutsS (p ++ l) m0 (p.length + bt) (p.length + fr) (ls.map (shL p.length)) = ((cutsS l m0 bt fr ls).1.map (shP p.length), shP p.length (cutsS l m0 bt fr ls).2)
  | [], fr => rfl
  | x :: r, fr => by
    rw [List.map_cons]
    by_cases h2 : lkS m0 (textOf l x) = 2
    · rw [cutsS_close (by rw [textOf_shift]; exact h2), cutsS_close h2]
      rfl
    · by_cases h1 : lkS m0 (textOf l x) = 1
      · rw [cutsS_open (by rw [textOf_shift]; exact h1), cutsS_open h1]
        have ih := cutsS_shift p l m0 bt r x.n
        show ((_, _) :: (cutsS (p ++ l) m0 (p.length + bt) (p.length + x.n) (r.map (shL p.length))).1, (cutsS (p ++ l) m0 (p.length + bt) (p.length + x.n) (r.map (shL p.length))).2) = _
        rw [ih]
        rfl
      · rw [cutsS_other (by rw [textOf_shift]; exact h2) (by rw [textOf_shift]; exact h1), cutsS_other h2 h1]
        exact cutsS_shift p l m0 bt r x.t
theorem kidsS_shift (n : Nat) : ∀ (cs : List Sp) (e : Sp), kidsS (cs.map (shP n)) (shP n e) = (kidsS cs e).map (shP n)
  | [], _ => rfl
  | [_], _ => rfl
  | c :: d :: r, e => by
    have ih := kidsS_shift n (d :: r) e
    show _ :: kidsS ((d :: r).map (shP n)) (shP n e) = _
    rw [ih]
    rfl
def shPd (n : Nat) (x : Pd) : Pd := ⟨x.kind, x.cuts.map (shP n), if x.kind = 1 then shP n x.e else x.e, x.kids.map (shP n)⟩
theorem pdS_shift (p l : List UInt8) (fs : List Fld) (h t : Nat) (k : Val) : pdS (p ++ l) (fs.map (shF p.length)) (p.length + h) (p.length + t) k = shPd p.length (pdS l fs h t k) := by
  unfold pdS
  by_cases h1 : k.type = mulN
  · rw [if_pos h1, if_pos h1]
    cases boundS k.params with
    | none => rfl
    | some b =>
      simp only [linesS_shift, cutsS_shift, kidsS_shift]
      rfl
  · rw [if_neg h1, if_neg h1, bareS_shift]
    by_cases h2 : k.type = msgN ∧ k.sub = rfcN ∧ bareS l fs = true
    · rw [if_pos h2, if_pos h2]; rfl
    · rw [if_neg h2, if_neg h2]; rfl
mutual
def mvT (n : Nat) : Tr → Tr
  | .mk k h b ks cs e => .mk k (shP n h) (shP n b) (mvK n ks) (cs.map (shP n)) (if k = 1 then shP n e else e)
def mvK (n : Nat) : List Tr → List Tr
  | [] => []
  | t :: r => mvT n t :: mvK n r
end
theorem kidsRun_shift {n : Nat} {F G : Sp → Nat → Tr × Nat} (h : ∀ s c, G (shP n s) c = (mvT n (F s c).1, (F s c).2)) : ∀ (ss : List Sp) (c : Nat), kidsRun G (ss.map (shP n)) c = (mvK n (kidsRun F ss c).1, (kidsRun F ss c).2)
  | [], _ => rfl
  | s :: r, c => by
    rw [List.map_cons, kidsRun, kidsRun]
    simp only [h]
    rw [kidsRun_shift h r]
    rfl
theorem entS_shift (p l : List UInt8) : ∀ (d : Nat) (s : Sp) (g : Bool) (c : Nat), entS (p ++ l) d (shP p.length s) g c = (mvT p.length (entS l d s g c).1, (entS l d s g c).2)
  | 0, s, g, c => by
    show (leafT (p.length + s.1) (hdOf (p ++ l) (p.length + s.1) (p.length + s.2)) (p.length + s.2), c) = _
    rw [hdOf_shift]
    rfl
  | d + 1, s, g, c => by
    obtain ⟨a, b⟩ := s
    have hty : typeS (p ++ l) (fsOf (p ++ l) (p.length + a) (p.length + b)) g = typeS l (fsOf l a b) g := by rw [fsOf_shift, typeS_shift]
    have hpd : pdS (p ++ l) (fsOf (p ++ l) (p.length + a) (p.length + b)) (hdOf (p ++ l) (p.length + a) (p.length + b)) (p.length + b) (typeS l (fsOf l a b) g) = shPd p.length (pdS l (fsOf l a b) (hdOf l a b) b (typeS l (fsOf l a b) g)) := by
      rw [fsOf_shift, hdOf_shift, pdS_shift]
    have hhd := hdOf_shift p l a b
    by_cases hc : (pdS l (fsOf l a b) (hdOf l a b) b (typeS l (fsOf l a b) g)).kids = [] ∨ 1000 < c + (pdS l (fsOf l a b) (hdOf l a b) b (typeS l (fsOf l a b) g)).kids.length
    · rw [entS_leaf (l := l) (s := (a, b)) hc, entS_leaf (l := p ++ l) (s := shP p.length (a, b))]
      · show (leafT _ (hdOf (p ++ l) (p.length + a) (p.length + b)) _, c) = _
        rw [hhd]
        rfl
      · simp only [shP]
        rw [hty, hpd]
        rcases hc with hc | hc
        · left
          show List.map _ _ = []
          rw [hc]; rfl
        · right
          show 1000 < c + (List.map _ _).length
          rw [List.length_map]
          exact hc
    · have hc' : ¬ ((shPd p.length (pdS l (fsOf l a b) (hdOf l a b) b (typeS l (fsOf l a b) g))).kids = [] ∨ 1000 < c + (shPd p.length (pdS l (fsOf l a b) (hdOf l a b) b (typeS l (fsOf l a b) g))).kids.length) := by
        show ¬ (List.map _ _ = [] ∨ 1000 < c + (List.map _ _).length)
        rw [List.length_map, List.map_eq_nil_iff]
        exact hc
      rw [entS_kids (l := l) (s := (a, b)) rfl rfl hc, entS_kids (l := p ++ l) (s := shP p.length (a, b)) hty.symm hpd.symm hc']
      have hr := kidsRun_shift (n := p.length) (F := fun s' c' => entS l d s' (digS (typeS l (fsOf l a b) g)) c') (G := fun s' c' => entS (p ++ l) d s' (digS (typeS l (fsOf l a b) g)) c') (fun s' c' => entS_shift p l d s' _ c') (pdS l (fsOf l a b) (hdOf l a b) b (typeS l (fsOf l a b) g)).kids (c + (pdS l (fsOf l a b) (hdOf l a b) b (typeS l (fsOf l a b) g)).kids.length)
      simp only [shP]
      rw [hhd]
      simp only [shPd, List.length_map]
      rw [hr]
      rfl
end Go.Proofs.YtfgppamhbchhcaaGreatDoor
