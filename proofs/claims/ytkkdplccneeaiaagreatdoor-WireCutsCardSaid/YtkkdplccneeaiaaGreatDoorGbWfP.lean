/- Layer 18 in plain words: what WireLeft feeds. No program. -/
import Derived.Test.YtkkdplccneeaiaaGreatDoorGbWfM
namespace Go.Proofs.YtkkdplccneeaiaaGreatDoor
open Go Go.RowKit

theorem nextF_scan : ∀ (j : Nat) (s : Fr), s.pos + j ≤ s.l.length → s.size + j ≤ 65536 → (∀ i, i < j → s.l.getD (s.pos + i) 0 ≠ 10) → nextF s = nextF ⟨s.l, s.line, s.pos + j, s.size + j⟩
  | 0, s, _, _, _ => rfl
  | j + 1, s, h1, h2, h3 => by
    rw [nextF_step (by omega) (by omega) (h3 0 (by omega))]
    have := nextF_scan j ⟨s.l, s.line, s.pos + 1, s.size + 1⟩ (by simp only; omega) (by simp only; omega) (fun i hi => by
      have := h3 (i + 1) (by omega)
      simp only
      rw [show s.pos + 1 + i = s.pos + (i + 1) by omega]
      exact this)
    rw [this]
    simp only
    rw [show s.pos + 1 + j = s.pos + (j + 1) by omega, show s.size + 1 + j = s.size + (j + 1) by omega]
theorem getD_app {l c : List UInt8} {i : Nat} (h : i < c.length) : (l ++ c).getD (l.length + i) 0 = c[i] := by
  rw [List.getD_eq_getElem?_getD, List.getElem?_append_right (by omega), Nat.add_sub_cancel_left, List.getElem?_eq_getElem h]
  rfl
/-- Bytes without a line's end wait. -/
theorem feed_quiet {s : Fr} {c : List UInt8} (hp : s.pos = s.l.length) (hs : s.size + c.length ≤ 65536) (hc : (10 : UInt8) ∉ c) : feedF (s.ext c) = ([], ⟨s.l ++ c, s.line, (s.l ++ c).length, s.size + c.length⟩) := by
  refine feedF_end ?_
  have := nextF_scan c.length (s.ext c) (by unfold Fr.ext; simp only [List.length_append]; omega) hs (fun i hi => by
    unfold Fr.ext
    simp only
    rw [hp, getD_app hi]
    intro e
    exact hc (by rw [← e]; exact List.getElem_mem hi))
  rw [this]
  unfold Fr.ext
  simp only
  rw [show s.pos + c.length = (s.l ++ c).length by rw [List.length_append]; omega]
  exact nextF_end (Nat.le_refl _)
def aS (n : Nat) : Fr := ⟨List.replicate n 97, 0, n, n⟩
theorem feed_a (n : Nat) (h : n ≤ 60000) : feedF ((aS n).ext [97]) = ([], aS (n + 1)) := by
  rw [feed_quiet (by unfold aS; simp) (by unfold aS; simp only [List.length_cons, List.length_nil]; omega) (by decide)]
  unfold aS
  simp only
  have e : List.replicate n (97 : UInt8) ++ [97] = List.replicate (n + 1) 97 := (List.replicate_succ' ..).symm
  rw [e]
  simp
def crS (n : Nat) : Fr := ⟨List.replicate n 97 ++ [13], 0, n + 1, n + 1⟩
theorem feed_cr (n : Nat) (h : n ≤ 60000) : feedF ((aS n).ext [13]) = ([], crS n) := by
  rw [feed_quiet (by unfold aS; simp) (by unfold aS; simp only [List.length_cons, List.length_nil]; omega) (by decide)]
  unfold aS crS
  simp
def xyS : Fr := ⟨[120, 121], 0, 2, 2⟩
theorem feed_xy (n : Nat) (h : n ≤ 60000) : feedF ((crS n).ext [10, 120, 121]) = ([.cmd (List.replicate n 97)], xyS) := by
  have hl : ((crS n).ext [10, 120, 121]).l = List.replicate n 97 ++ (13 :: 10 :: [120, 121]) := by unfold crS Fr.ext; simp
  have hT : lineT ((crS n).ext [10, 120, 121]) = List.replicate n 97 := by
    unfold lineT
    rw [hl]
    have e : ((List.replicate n (97 : UInt8) ++ (13 :: 10 :: [120, 121])).drop 0).take (n + 1 - 0) = List.replicate n 97 ++ [13] := by
      rw [List.drop_zero, Nat.sub_zero, show List.replicate n (97 : UInt8) ++ (13 :: 10 :: [120, 121]) = (List.replicate n 97 ++ [13]) ++ [10, 120, 121] by simp]
      exact List.take_left' (by simp)
    show bareE (((List.replicate n (97 : UInt8) ++ (13 :: 10 :: [120, 121])).drop 0).take (n + 1 - 0)) = _
    rw [e]
    exact bareE_cr _
  have h10 : ((crS n).ext [10, 120, 121]).l.getD ((crS n).ext [10, 120, 121]).pos 0 = 10 := by
    rw [hl]
    show (List.replicate n (97 : UInt8) ++ (13 :: 10 :: [120, 121])).getD (n + 1) 0 = 10
    rw [List.getD_eq_getElem?_getD, List.getElem?_append_right (by simp)]
    simp
  have hc := nextF_cmd (s := (crS n).ext [10, 120, 121]) (by rw [hl]; show n + 1 < _; simp) (by show ¬ 65536 < n + 1 + 1; omega) h10 (by
    rw [hT]
    exact endH_no (by intro hm; have := List.eq_of_mem_replicate hm; cases this))
  rw [hT, hl] at hc
  have e1 : (List.replicate n (97 : UInt8) ++ (13 :: 10 :: [120, 121])).take (((crS n).ext [10, 120, 121]).line + (List.replicate n (97 : UInt8)).length) = List.replicate n 97 := by
    show List.take (0 + _) _ = _
    rw [Nat.zero_add]
    exact List.take_left
  have e2 : (List.replicate n (97 : UInt8) ++ (13 :: 10 :: [120, 121])).drop (((crS n).ext [10, 120, 121]).pos + 1) = [120, 121] := by
    show List.drop (n + 1 + 1) _ = _
    rw [show List.replicate n (97 : UInt8) ++ (13 :: 10 :: [120, 121]) = (List.replicate n 97 ++ [13, 10]) ++ [120, 121] by simp]
    exact List.drop_left' (by simp)
  rw [e1, e2] at hc
  rw [feedF_step hc]
  have hq : feedF ((⟨[], 0, 0, 0⟩ : Fr).ext [120, 121]) = ([], xyS) := by
    rw [feed_quiet rfl (by decide) (by decide)]
    rfl
  have hq2 : feedF ⟨[120, 121], 0, 0, 0⟩ = ([], xyS) := hq
  rw [hq2]
def hdC (m : Nat) : List UInt8 := 32 :: 123 :: (Lib.itoa (m : Int) ++ [125, 13, 10])
def hdL (m : Nat) : List UInt8 := [120, 121] ++ hdC m
def hdS (m : Nat) : Fr := ⟨hdL m, (hdL m).length + m, (hdL m).length + m, (hdL m).length⟩
theorem hdC_len (m : Nat) (h : m ≤ 60000) : (hdC m).length ≤ 30 := by
  have : (Lib.itoa (m : Int)).length ≤ 21 := Lib.itoa_length_le (m : Int) (by omega) (by omega)
  unfold hdC
  simp
  omega
theorem feed_head (m : Nat) (h : m ≤ 60000) : feedF (xyS.ext (hdC m)) = ([.go], hdS m) := by
  have hlen := hdC_len m h
  obtain ⟨t, ht⟩ : ∃ t, t = [120, 121, 32] ++ 123 :: (Lib.itoa (m : Int) ++ [125]) := ⟨_, rfl⟩
  have hl : hdL m = (t ++ [13]) ++ [10] := by rw [ht]; unfold hdL hdC; simp
  have hno : (10 : UInt8) ∉ t ++ [13] := by
    rw [ht]
    intro hm
    simp only [List.mem_append, List.mem_cons, List.not_mem_nil, or_false] at hm
    rcases hm with ((h1 | h1 | h1) | h1 | h1 | h1) | h1
    · cases h1
    · cases h1
    · cases h1
    · cases h1
    · exact itoa_no 10 (by decide) h1
    · cases h1
    · cases h1
  have hll : (hdL m).length = t.length + 2 := by rw [hl]; simp
  have hl2 : (hdL m).length = 2 + (hdC m).length := by unfold hdL; simp; omega
  have ht3 : 3 ≤ t.length := by rw [ht]; simp
  have hsc := nextF_scan (t.length - 1) (xyS.ext (hdC m)) (by
      show 2 + (t.length - 1) ≤ (hdL m).length
      omega) (by show 2 + (t.length - 1) ≤ 65536; omega) (fun i hi => by
      show (hdL m).getD (2 + i) 0 ≠ 10
      rw [hl, List.getD_eq_getElem?_getD, List.getElem?_append_left (by simp; omega), List.getElem?_eq_getElem (by simp; omega)]
      intro e
      exact hno (by rw [← e]; exact List.getElem_mem _))
  have e0 : (⟨(xyS.ext (hdC m)).l, (xyS.ext (hdC m)).line, (xyS.ext (hdC m)).pos + (t.length - 1), (xyS.ext (hdC m)).size + (t.length - 1)⟩ : Fr) = ⟨hdL m, 0, t.length + 1, t.length + 1⟩ := by
    show (⟨hdL m, 0, 2 + (t.length - 1), 2 + (t.length - 1)⟩ : Fr) = _
    rw [show 2 + (t.length - 1) = t.length + 1 by omega]
  rw [e0] at hsc
  have hT : lineT ⟨hdL m, 0, t.length + 1, t.length + 1⟩ = t := by
    unfold lineT
    show bareE (((hdL m).drop 0).take (t.length + 1 - 0)) = t
    rw [List.drop_zero, Nat.sub_zero, hl, List.take_left' (by simp)]
    exact bareE_cr t
  have h10 : (hdL m).getD (t.length + 1) 0 = 10 := by
    rw [hl, List.getD_eq_getElem?_getD, List.getElem?_append_right (by simp)]
    simp
  have hgo := nextF_go (s := ⟨hdL m, 0, t.length + 1, t.length + 1⟩) (n := m) (w := true) (by simp only; omega) (by simp only; omega) h10 (by
    rw [hT, ht]
    exact endH_head [120, 121, 32] m (by omega)) (by omega) ⟨rfl, by simp only; omega⟩
  have hn := hsc.trans hgo
  rw [feedF_step hn]
  have hs : (⟨hdL m, t.length + 1 + 1 + m, t.length + 1 + 1 + m, t.length + 1 + 1⟩ : Fr) = hdS m := by
    unfold hdS
    rw [hll]
  simp only
  rw [hs]
  have := feedF_end (s := hdS m) (nextF_end (by unfold hdS; simp only; omega))
  rw [this]
def litS (m : Nat) : Fr := ⟨hdL m ++ List.replicate m 0, (hdL m).length + m, (hdL m).length + m, (hdL m).length⟩
theorem feed_lit (m : Nat) : feedF ((hdS m).ext (List.replicate m 0)) = ([], litS m) := by
  refine feedF_end (nextF_end ?_)
  show (hdL m ++ List.replicate m 0).length ≤ (hdL m).length + m
  simp
theorem feed_end (m : Nat) (h : m ≤ 60000) : ∃ t, feedF ((litS m).ext [10]) = ([.cmd t], fr0) := by
  have hlen := hdC_len m h
  have hl2 : (hdL m).length = 2 + (hdC m).length := by unfold hdL; simp; omega
  have hT : lineT ((litS m).ext [10]) = [] := by
    unfold lineT
    show bareE ((((hdL m ++ List.replicate m 0) ++ [10]).drop ((hdL m).length + m)).take ((hdL m).length + m - ((hdL m).length + m))) = []
    rw [Nat.sub_self, List.take_zero]
    rfl
  have hL : (hdL m ++ List.replicate m 0 : List UInt8).length = (hdL m).length + m := by simp
  have h10 : ((litS m).ext [10]).l.getD ((litS m).ext [10]).pos 0 = 10 := by
    show ((hdL m ++ List.replicate m 0) ++ [10]).getD ((hdL m).length + m) 0 = 10
    rw [List.getD_eq_getElem?_getD, List.getElem?_append_right (by rw [hL]; exact Nat.le_refl _), hL, Nat.sub_self]
    rfl
  have hc := nextF_cmd (s := (litS m).ext [10]) (by show (hdL m).length + m < ((hdL m ++ List.replicate m 0) ++ [10]).length; rw [List.length_append, hL]; simp) (by show ¬ 65536 < (hdL m).length + 1; omega) h10 (by rw [hT]; rfl)
  have e2 : ((litS m).ext [10]).l.drop (((litS m).ext [10]).pos + 1) = [] := by
    show ((hdL m ++ List.replicate m 0) ++ [10]).drop ((hdL m).length + m + 1) = []
    exact List.drop_eq_nil_of_le (by rw [List.length_append, hL]; simp)
  rw [e2] at hc
  obtain ⟨t, ht⟩ : ∃ t, t = ((litS m).ext [10]).l.take (((litS m).ext [10]).line + (lineT ((litS m).ext [10])).length) := ⟨_, rfl⟩
  rw [← ht] at hc
  refine ⟨t, ?_⟩
  rw [feedF_step hc]
  have : feedF ⟨[], 0, 0, 0⟩ = ([], fr0) := feedF_end (nextF_end (Nat.le_refl _))
  rw [this]
end Go.Proofs.YtkkdplccneeaiaaGreatDoor
