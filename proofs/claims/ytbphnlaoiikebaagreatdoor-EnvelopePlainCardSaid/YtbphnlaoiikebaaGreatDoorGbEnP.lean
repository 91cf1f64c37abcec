/- Layer 19 in plain words: EnvelopePlain: the fields of a header of some lines, and what its envelope is. No program. -/
import Derived.Test.YtbphnlaoiikebaaGreatDoorGbEnF
import Derived.Test.YtbphnlaoiikebaaGreatDoorGbHdrL
namespace Go.Proofs.YtbphnlaoiikebaaGreatDoor
open Go Go.RowKit

abbrev Hd := List UInt8 × List UInt8
def txH (h : Hd) : List UInt8 := h.1 ++ 58 :: h.2
def okH (h : Hd) : Prop := h.1 ≠ [] ∧ (∀ c ∈ h.1, 33 ≤ c.toNat ∧ c.toNat ≤ 126 ∧ c ≠ 58) ∧ ∀ c ∈ h.2, plainB c = true
def hdrsF : Nat → List Hd → List Fld
  | _, [] => []
  | a, h :: q => ⟨h.1, a, a + h.1.length + 1, a + (txH h).length + 2⟩ :: hdrsF (a + (txH h).length + 2) q
theorem blk_off {c : UInt8} (h : 33 ≤ c.toNat) : blk c = false := by
  unfold blk
  rw [decide_eq_false_iff_not]
  omega
theorem colI_tx {h : Hd} (ho : okH h) : colI (txH h) = h.1.length := by
  unfold colI txH
  have : ∀ (l : List UInt8), (∀ c ∈ l, c ≠ 58) → (l ++ 58 :: h.2).findIdx (· == 58) = l.length := by
    intro l
    induction l with
    | nil => intro _; simp [List.findIdx_cons]
    | cons c r ih =>
      intro hl
      rw [List.cons_append, List.findIdx_cons, ih (fun d hd => hl d (List.mem_cons_of_mem _ hd))]
      have : (c == 58) = false := by simpa using hl c List.mem_cons_self
      rw [this]
      rfl
  exact this _ (fun c hc => (ho.2.1 c hc).2.2)
theorem nameS_tx {h : Hd} (ho : okH h) : nameS (txH h) = h.1 := by
  unfold nameS
  rw [colI_tx ho]
  unfold txH
  rw [List.take_left]
  unfold Lib.trimRightS
  have key : ∀ (l : List UInt8), (∀ c ∈ l, 33 ≤ c.toNat) → l.dropWhile (fun b => ([32, 9] : List UInt8).contains b) = l := by
    intro l hl
    cases l with
    | nil => rfl
    | cons c r =>
      refine List.dropWhile_cons_of_neg ?_
      intro hc
      have h33 := hl c List.mem_cons_self
      have : c = 32 ∨ c = 9 := by simpa using hc
      rcases this with rfl | rfl
      · exact absurd h33 (by decide)
      · exact absurd h33 (by decide)
  rw [key _ (fun c hc => (ho.2.1 c (by simpa using hc)).1), List.reverse_reverse]
theorem tx_plain {h : Hd} (ho : okH h) : ∀ c ∈ txH h, plainB c = true := by
  intro c hc
  unfold txH at hc
  rcases List.mem_append.1 hc with h1 | h1
  · have := ho.2.1 c h1
    rw [plainB_iff]
    constructor
    · rintro rfl
      exact absurd this.1 (by decide)
    · rintro rfl
      exact absurd this.1 (by decide)
  · rcases List.mem_cons.1 h1 with rfl | h1
    · decide
    · exact ho.2.2 c h1
theorem tx_head {h : Hd} (ho : okH h) : ∃ c r, txH h = c :: r ∧ blk c = false := by
  obtain ⟨nm, v⟩ := h
  cases nm with
  | nil => exact absurd rfl ho.1
  | cons c r => exact ⟨c, r ++ 58 :: v, rfl, blk_off (ho.2.1 c List.mem_cons_self).1⟩
theorem begun_tx {l : List UInt8} {h : Hd} (ho : okH h) {x : Ln} (hx : textOf l x = txH h) : begunS l x = some ⟨h.1, x.f, x.f + h.1.length + 1, x.n⟩ := by
  unfold begunS
  rw [hx, nameS_tx ho, colI_tx ho, if_pos]
  refine ⟨by simp [txH], ?_⟩
  unfold namedB
  rw [Bool.and_eq_true]
  constructor
  · rw [List.all_eq_true]
    intro c hc
    have := ho.2.1 c hc
    unfold nameB
    exact decide_eq_true ⟨this.1, this.2.1⟩
  · have := ho.1
    cases hh : h.1 with
    | nil => exact absurd hh this
    | cons c r => rfl
theorem fields_hdrs : ∀ (hs : List Hd) (p s : List UInt8), (∀ h ∈ hs, okH h) → fieldsL (p ++ joinC (hs.map txH) ++ s) (posL p.length (hs.map txH)) = hdrsF p.length hs
  | [], _, _, _ => rfl
  | h :: q, p, s, ho => by
    have ih := fields_hdrs q (p ++ txH h ++ [13, 10]) s (fun x hx => ho x (List.mem_cons_of_mem _ hx))
    have e2 : p ++ txH h ++ [13, 10] ++ joinC (q.map txH) ++ s = p ++ joinC ((h :: q).map txH) ++ s := by
      rw [List.map_cons, joinC_cons]
      simp
    have e3 : (p ++ txH h ++ [13, 10]).length = p.length + (txH h).length + 2 := by simp only [List.length_append, List.length_cons, List.length_nil]
    rw [e2, e3] at ih
    have hh := ho h List.mem_cons_self
    have hT := posL_texts ((h :: q).map txH) p s
    obtain ⟨l, hl⟩ : ∃ l, l = p ++ joinC ((h :: q).map txH) ++ s := ⟨_, rfl⟩
    rw [← hl] at ih hT ⊢
    rw [List.map_cons] at hT ⊢
    have hT' : textOf l ⟨p.length, p.length + (txH h).length, p.length + (txH h).length + 2⟩ :: (posL (p.length + (txH h).length + 2) (q.map txH)).map (textOf l) = txH h :: q.map txH := hT
    have h1 := (List.cons.inj hT').1
    have h2 := (List.cons.inj hT').2
    show goL l (begunS l ⟨p.length, p.length + (txH h).length, p.length + (txH h).length + 2⟩) (posL (p.length + (txH h).length + 2) (q.map txH)) = _
    rw [begun_tx hh h1]
    show goL l (some _) _ = _ :: hdrsF (p.length + (txH h).length + 2) q
    rw [← ih]
    cases q with
    | nil => rfl
    | cons g r =>
      obtain ⟨c, v, hc, hb⟩ := tx_head (ho g (List.mem_cons_of_mem _ List.mem_cons_self))
      have h3 : textOf l ⟨p.length + (txH h).length + 2, p.length + (txH h).length + 2 + (txH g).length, p.length + (txH h).length + 2 + (txH g).length + 2⟩ = c :: v := by
        have := (List.cons.inj (by simpa [posL] using h2 : _ :: _ = _ :: _)).1
        rw [← hc]
        exact this
      have hoff := onB_text (l := l) h3
      rw [hb] at hoff
      show goL l _ (⟨_, _, _⟩ :: posL _ _) = _
      rw [goL_off hoff]
      rfl
/-- A header of such lines, with its empty line behind it. -/
def msgH (hs : List Hd) : List UInt8 := joinC (hs.map txH) ++ [13, 10]
theorem msgH_lines (hs : List Hd) (ho : ∀ h ∈ hs, okH h) : linesS (msgH hs) 0 (msgH hs).length = posL 0 (hs.map txH) ++ [⟨(joinC (hs.map txH)).length, (joinC (hs.map txH)).length, (msgH hs).length⟩] := by
  have hp : plainT (hs.map txH ++ [[]]) := by
    intro t ht c hc
    rcases List.mem_append.1 ht with h1 | h1
    · obtain ⟨h, hh, rfl⟩ := List.mem_map.1 h1
      exact tx_plain (ho h hh) c hc
    · rw [List.mem_singleton.1 h1] at hc
      cases hc
  have h := lines_join (hs.map txH ++ [[]]) [] [] hp
  have e : joinC (hs.map txH ++ [[]]) = msgH hs := by
    rw [joinC_app]
    rfl
  rw [e] at h
  simp only [List.nil_append, List.append_nil, List.length_nil] at h
  rw [h, linesS_nil _ (Nat.lt_irrefl _), List.append_nil, posL_app, Nat.zero_add]
  have e2 : (msgH hs).length = (joinC (hs.map txH)).length + 2 := by unfold msgH; simp
  rw [e2]
  rfl
theorem msgH_ei (hs : List Hd) (ho : ∀ h ∈ hs, okH h) : eI (linesS (msgH hs) 0 (msgH hs).length) = hs.length := by
  rw [msgH_lines hs ho, eI_here (posL_texted _ _ (fun t ht => by
    obtain ⟨h, hh, rfl⟩ := List.mem_map.1 ht
    unfold txH
    simp)) rfl, posL_len, List.length_map]
theorem msgH_fs (hs : List Hd) (ho : ∀ h ∈ hs, okH h) : fsOf (msgH hs) 0 (msgH hs).length = hdrsF 0 hs := by
  unfold fsOf
  rw [msgH_ei hs ho, msgH_lines hs ho, List.take_left' (by rw [posL_len, List.length_map])]
  have := fields_hdrs hs [] [13, 10] ho
  exact this
theorem msgH_hd (hs : List Hd) (ho : ∀ h ∈ hs, okH h) : hdOf (msgH hs) 0 (msgH hs).length = (msgH hs).length := by
  have hei := msgH_ei hs ho
  have hls := msgH_lines hs ho
  unfold hdOf behindN
  have hl : (linesS (msgH hs) 0 (msgH hs).length).length = hs.length + 1 := by
    rw [hls, List.length_append, posL_len, List.length_map]
    rfl
  rw [dif_pos (by rw [hei, hl]; omega)]
  simp only [hei]
  have hg : (linesS (msgH hs) 0 (msgH hs).length)[hs.length]? = some ⟨(joinC (hs.map txH)).length, (joinC (hs.map txH)).length, (msgH hs).length⟩ := by
    rw [hls, List.getElem?_append_right (by rw [posL_len, List.length_map]; exact Nat.le_refl _), posL_len, List.length_map, Nat.sub_self]
    rfl
  have := (List.getElem?_eq_some_iff.1 hg).2
  rw [this]
theorem ent_hd (l : List UInt8) (d : Nat) (s : Sp) (g : Bool) (c : Nat) : (entS l d s g c).1.hd = (s.1, hdOf l s.1 s.2) := by
  cases d with
  | zero => rfl
  | succ d =>
    unfold entS
    simp only
    split
    · rfl
    · rfl
theorem msgH_tree (hs : List Hd) (ho : ∀ h ∈ hs, okH h) : (treeS (msgH hs)).hd = (0, (msgH hs).length) := by
  unfold treeS
  rw [ent_hd]
  simp only
  rw [msgH_hd hs ho]
/-! What a field is. -/
theorem value_nil (l nm : List UInt8) : valueS l [] nm = [] := by
  unfold valueS
  rw [dif_neg (by simp)]
theorem fI_no {nm : List UInt8} {x : Fld} {fs : List Fld} (h : sameB x.nm nm = false) : fI nm (x :: fs) = fI nm fs + 1 := by
  unfold fI
  rw [List.findIdx_cons, h]
  rfl
theorem fI_yes {nm : List UInt8} {x : Fld} {fs : List Fld} (h : sameB x.nm nm = true) : fI nm (x :: fs) = 0 := by
  unfold fI
  rw [List.findIdx_cons, h]
  rfl
theorem value_no {l nm : List UInt8} {x : Fld} {fs : List Fld} (h : sameB x.nm nm = false) : valueS l (x :: fs) nm = valueS l fs nm := by
  unfold valueS
  by_cases hk : fI nm fs < fs.length
  · rw [dif_pos (by rw [fI_no h, List.length_cons]; omega), dif_pos hk]
    simp only [fI_no h, List.getElem_cons_succ]
  · rw [dif_neg (by rw [fI_no h, List.length_cons]; omega), dif_neg hk]
theorem value_yes {l nm : List UInt8} {x : Fld} {fs : List Fld} (h : sameB x.nm nm = true) : valueS l (x :: fs) nm = bodyS l (x.b : Int) (x.t : Int) := by
  unfold valueS
  rw [dif_pos (by rw [fI_yes h, List.length_cons]; omega)]
  simp only [fI_yes h, List.getElem_cons_zero]
theorem has_nil (nm : List UInt8) : hasF nm [] = false := by
  unfold hasF
  simp
theorem has_no {nm : List UInt8} {x : Fld} {fs : List Fld} (h : sameB x.nm nm = false) : hasF nm (x :: fs) = hasF nm fs := by
  unfold hasF
  rw [fI_no h, List.length_cons]
  simp
theorem has_yes {nm : List UInt8} {x : Fld} {fs : List Fld} (h : sameB x.nm nm = true) : hasF nm (x :: fs) = true := by
  unfold hasF
  rw [fI_yes h, List.length_cons]
  simp
theorem body_hdr (h : Hd) (ho : okH h) (p s l : List UInt8) (a b t : Nat) (hl : l = p ++ txH h ++ [13, 10] ++ s) (ha : a = p.length) (hb : b = a + h.1.length + 1) (ht : t = a + (txH h).length + 2) : bodyS l (b : Int) (t : Int) = trimS h.2 := by
  have hj := bodyS_join [h.2] (p ++ h.1 ++ [58]) s (by
    intro t ht c hc
    rw [List.mem_singleton.1 ht] at hc
    exact ho.2.2 c hc)
  have e1 : p ++ h.1 ++ [58] ++ joinC [h.2] ++ s = l := by
    rw [hl]
    unfold txH
    simp [joinC]
  have e2 : (p ++ h.1 ++ [58]).length = b := by
    rw [hb, ha]
    simp
    omega
  have e3 : (p ++ h.1 ++ [58] ++ joinC [h.2]).length = t := by
    rw [ht, ha]
    unfold txH
    simp [joinC]
    omega
  rw [e1, e2, e3] at hj
  simpa using hj
theorem trimS_seen {s : List UInt8} (h : ∀ c ∈ s, 33 ≤ c.toNat) : trimS s = s := by
  have key : ∀ (l : List UInt8), (∀ c ∈ l, 33 ≤ c.toNat) → l.dropWhile blk = l := by
    intro l hl
    cases l with
    | nil => rfl
    | cons c r => exact List.dropWhile_cons_of_neg (by rw [blk_off (hl c List.mem_cons_self)]; decide)
  unfold trimS
  rw [key s h, key _ (fun c hc => h c (by simpa using hc)), List.reverse_reverse]
theorem trimS_blank {s : List UInt8} : trimS (32 :: s) = trimS s := by
  unfold trimS
  rw [List.dropWhile_cons_of_pos (by decide)]
/-! The message of EnvelopePlain. -/
def sbN : List UInt8 := [83, 117, 98, 106, 101, 99, 116]
def miN : List UInt8 := [77, 101, 115, 115, 97, 103, 101, 45, 73, 68]
def hSub (s : List UInt8) : Hd := (sbN, 32 :: s)
def hMid (t : List UInt8) : Hd := (miN, t)
def hFrm : Hd := ([70, 114, 111, 109], [32, 97, 64, 98])
def hSnd : Hd := ([83, 101, 110, 100, 101, 114], [32, 99, 64, 100])
def hdsP (s t : List UInt8) (has : Bool) : List Hd := [hSub s, hMid t, hFrm] ++ (if has = true then [hSnd] else [])
def seenB (c : UInt8) : Bool := decide (32 < c.toNat ∧ c.toNat < 127)
theorem seen_plain {c : UInt8} (h : seenB c = true) : plainB c = true := by
  have := of_decide_eq_true h
  rw [plainB_iff]
  constructor
  · rintro rfl
    exact absurd this.1 (by decide)
  · rintro rfl
    exact absurd this.1 (by decide)
theorem sbN_ok : ∀ c ∈ sbN, 33 ≤ c.toNat ∧ c.toNat ≤ 126 ∧ c ≠ 58 := by decide
theorem miN_ok : ∀ c ∈ miN, 33 ≤ c.toNat ∧ c.toNat ≤ 126 ∧ c ≠ 58 := by decide
theorem hdsP_ok (s t : List UInt8) (has : Bool) (hs : ∀ c ∈ s, seenB c = true) (ht : ∀ c ∈ t, seenB c = true) : ∀ h ∈ hdsP s t has, okH h := by
  have o1 : okH (hSub s) := ⟨by simp [hSub, sbN], sbN_ok, by
    intro c hc
    rcases List.mem_cons.1 hc with rfl | hc
    · decide
    · exact seen_plain (hs c hc)⟩
  have o2 : okH (hMid t) := ⟨by simp [hMid, miN], miN_ok, fun c hc => seen_plain (ht c hc)⟩
  have o3 : okH hFrm := ⟨by simp [hFrm], by unfold hFrm; decide, by unfold hFrm; decide⟩
  have o4 : okH hSnd := ⟨by simp [hSnd], by unfold hSnd; decide, by unfold hSnd; decide⟩
  intro h hh
  unfold hdsP at hh
  rcases List.mem_append.1 hh with h1 | h1
  · simp only [List.mem_cons, List.not_mem_nil, or_false] at h1
    rcases h1 with rfl | rfl | rfl <;> assumption
  · cases has with
    | true =>
      rw [if_pos rfl] at h1
      rw [List.mem_singleton.1 h1]
      exact o4
    | false => simp at h1
def plA (c : UInt8) : List Adx := [⟨0, [], [c], [c + 1]⟩]
def plE (s t : List UInt8) (has : Bool) : Env := ⟨[], s, plA 97, plA (if has = true then 99 else 97), plA 97, [], [], [], [], t, false, true, false, true⟩
theorem adrX_a : adrX [97, 64, 98] = plA 97 := by kernel_rfl
theorem adrX_c : adrX [99, 64, 100] = plA 99 := by kernel_rfl
theorem adrX_n : adrX [] = [] := by kernel_rfl
theorem plain_env (s t : List UInt8) (has : Bool) (hs : ∀ c ∈ s, seenB c = true) (ht : ∀ c ∈ t, seenB c = true) : ofE (msgH (hdsP s t has)) (hdrsF 0 (hdsP s t has)) = plE s t has := by
  have ok := hdsP_ok s t has hs ht
  have o1 := ok (hSub s) (by simp [hdsP])
  have o2 := ok (hMid t) (by simp [hdsP])
  have o3 := ok hFrm (by simp [hdsP])
  have o4 : okH hSnd := hdsP_ok s t true hs ht _ (by simp [hdsP])
  have s33 : ∀ c ∈ s, 33 ≤ c.toNat := fun c hc => (of_decide_eq_true (hs c hc)).1
  have t33 : ∀ c ∈ t, 33 ≤ c.toNat := fun c hc => (of_decide_eq_true (ht c hc)).1
  obtain ⟨l, hl⟩ : ∃ l, l = msgH (hdsP s t has) := ⟨_, rfl⟩
  obtain ⟨r, hr⟩ : ∃ r, r = hdrsF (0 + (txH (hSub s)).length + 2 + (txH (hMid t)).length + 2 + (txH hFrm).length + 2) (if has = true then [hSnd] else []) := ⟨_, rfl⟩
  have hf : hdrsF 0 (hdsP s t has) = ⟨(hSub s).1, 0, 0 + (hSub s).1.length + 1, 0 + (txH (hSub s)).length + 2⟩ :: ⟨(hMid t).1, 0 + (txH (hSub s)).length + 2, 0 + (txH (hSub s)).length + 2 + (hMid t).1.length + 1, 0 + (txH (hSub s)).length + 2 + (txH (hMid t)).length + 2⟩ :: ⟨hFrm.1, 0 + (txH (hSub s)).length + 2 + (txH (hMid t)).length + 2, 0 + (txH (hSub s)).length + 2 + (txH (hMid t)).length + 2 + hFrm.1.length + 1, 0 + (txH (hSub s)).length + 2 + (txH (hMid t)).length + 2 + (txH hFrm).length + 2⟩ :: r := by
    rw [hr]
    rfl
  have v1 : bodyS l ((0 + (hSub s).1.length + 1 : Nat) : Int) ((0 + (txH (hSub s)).length + 2 : Nat) : Int) = s := by
    rw [body_hdr (hSub s) o1 [] (joinC ((([hMid t, hFrm] ++ (if has = true then [hSnd] else [])) : List Hd).map txH) ++ [13, 10]) l 0 _ _ (by
      rw [hl]
      unfold msgH hdsP
      simp [joinC]) rfl rfl rfl]
    show trimS (32 :: s) = s
    rw [trimS_blank, trimS_seen s33]
  have v2 : bodyS l ((0 + (txH (hSub s)).length + 2 + (hMid t).1.length + 1 : Nat) : Int) ((0 + (txH (hSub s)).length + 2 + (txH (hMid t)).length + 2 : Nat) : Int) = t := by
    rw [body_hdr (hMid t) o2 (txH (hSub s) ++ [13, 10]) (joinC ((([hFrm] ++ (if has = true then [hSnd] else [])) : List Hd).map txH) ++ [13, 10]) l _ _ _ (by
      rw [hl]
      unfold msgH hdsP
      simp [joinC]) (by simp) rfl rfl]
    exact trimS_seen t33
  have v3 : bodyS l ((0 + (txH (hSub s)).length + 2 + (txH (hMid t)).length + 2 + hFrm.1.length + 1 : Nat) : Int) ((0 + (txH (hSub s)).length + 2 + (txH (hMid t)).length + 2 + (txH hFrm).length + 2 : Nat) : Int) = [97, 64, 98] := by
    rw [body_hdr hFrm o3 (txH (hSub s) ++ [13, 10] ++ txH (hMid t) ++ [13, 10]) (joinC ((if has = true then [hSnd] else [] : List Hd).map txH) ++ [13, 10]) l _ _ _ (by
      rw [hl]
      unfold msgH hdsP
      simp [joinC]) (by simp; omega) rfl rfl]
    decide
  have n1 : ∀ nm : List UInt8, sameB sbN nm = false → sameB miN nm = false → sameB hFrm.1 nm = false → valueS l (hdrsF 0 (hdsP s t has)) nm = valueS l r nm ∧ hasF nm (hdrsF 0 (hdsP s t has)) = hasF nm r := by
    intro nm h1 h2 h3
    rw [hf, value_no h1, value_no h2, value_no h3, has_no h1, has_no h2, has_no h3]
    exact ⟨rfl, rfl⟩
  have rv : ∀ nm : List UInt8, sameB hSnd.1 nm = false → valueS l r nm = [] ∧ hasF nm r = false := by
    intro nm h4
    rw [hr]
    cases has with
    | false => exact ⟨value_nil _ _, has_nil _⟩
    | true =>
      rw [if_pos rfl]
      show valueS l [_] nm = [] ∧ hasF nm [_] = false
      rw [value_no h4, has_no h4]
      exact ⟨value_nil _ _, has_nil _⟩
  have w0 := n1 nmDate (by decide) (by decide) (by decide)
  have w1 := n1 nmInReply (by decide) (by decide) (by decide)
  have w2 := n1 nmSender (by decide) (by decide) (by decide)
  have w3 := n1 nmReplyTo (by decide) (by decide) (by decide)
  have w4 := n1 nmTo (by decide) (by decide) (by decide)
  have w5 := n1 nmCc (by decide) (by decide) (by decide)
  have w6 := n1 nmBcc (by decide) (by decide) (by decide)
  have g0 := rv nmDate (by decide)
  have g1 := rv nmInReply (by decide)
  have g3 := rv nmReplyTo (by decide)
  have g4 := rv nmTo (by decide)
  have g5 := rv nmCc (by decide)
  have g6 := rv nmBcc (by decide)
  have hsub : valueS l (hdrsF 0 (hdsP s t has)) nmSubject = s ∧ hasF nmSubject (hdrsF 0 (hdsP s t has)) = true := by
    have h1 : sameB (hSub s).1 nmSubject = true := by show sameB sbN nmSubject = true; decide
    rw [hf, value_yes h1, has_yes h1]
    exact ⟨v1, rfl⟩
  have hmid : valueS l (hdrsF 0 (hdsP s t has)) nmId = t ∧ hasF nmId (hdrsF 0 (hdsP s t has)) = true := by
    have h1 : sameB (hSub s).1 nmId = false := by show sameB sbN nmId = false; decide
    have h2 : sameB (hMid t).1 nmId = true := by show sameB miN nmId = true; decide
    rw [hf, value_no h1, value_yes h2, has_no h1, has_yes h2]
    exact ⟨v2, rfl⟩
  have hfrm : valueS l (hdrsF 0 (hdsP s t has)) nmFrom = [97, 64, 98] := by
    have h1 : sameB (hSub s).1 nmFrom = false := by show sameB sbN nmFrom = false; decide
    have h2 : sameB (hMid t).1 nmFrom = false := by show sameB miN nmFrom = false; decide
    have h3 : sameB hFrm.1 nmFrom = true := by decide
    rw [hf, value_no h1, value_no h2, value_yes h3]
    exact v3
  have hsnd : valueS l r nmSender = (if has = true then [99, 64, 100] else []) := by
    cases has with
    | false =>
      rw [hr]
      exact value_nil _ _
    | true =>
      rw [hr, if_pos rfl]
      show valueS l [_] nmSender = [99, 64, 100]
      have h1 : sameB hSnd.1 nmSender = true := by decide
      rw [value_yes h1]
      rw [body_hdr hSnd o4 (txH (hSub s) ++ [13, 10] ++ txH (hMid t) ++ [13, 10] ++ txH hFrm ++ [13, 10]) [13, 10] l _ _ _ (by
        rw [hl]
        unfold msgH hdsP
        simp [joinC]) (by simp; omega) rfl rfl]
      decide
  rw [← hl]
  unfold ofE plE
  rw [w0.1, w0.2, w1.1, w1.2, w2.1, w3.1, w4.1, w5.1, w6.1, g0.1, g0.2, g1.1, g1.2, g3.1, g4.1, g5.1, g6.1, hsub.1, hsub.2, hmid.1, hmid.2, hfrm, hsnd, adrX_n, adrX_a]
  cases has with
  | true =>
    rw [if_pos rfl, adrX_c]
    rfl
  | false =>
    rw [if_neg (by decide), adrX_n]
    rfl
end Go.Proofs.YtbphnlaoiikebaaGreatDoor
