/- How many tiles there are of each kind, in plain words; the law's own tally. -/
import Derived.Test.YtfgppamhbchhcaaGreatDoorGb38
namespace Go.Proofs.YtfgppamhbchhcaaGreatDoor
open Go Go.RowKit

mutual
def leavT : Tr → Nat
  | .mk k _ _ ks _ _ => (if k = 0 then 1 else 0) + leavK ks
def leavK : List Tr → Nat
  | [] => 0
  | t :: r => leavT t + leavK r
end
mutual
def multT : Tr → Nat
  | .mk k _ _ ks _ _ => (if k = 1 then 1 else 0) + multK ks
def multK : List Tr → Nat
  | [] => 0
  | t :: r => multT t + multK r
end
mutual
def cutT : Tr → Nat
  | .mk k _ _ ks cs _ => (if k = 1 then cs.length else 0) + cutK ks
def cutK : List Tr → Nat
  | [] => 0
  | t :: r => cutT t + cutK r
end
/-- How many tiles of a kind. -/
def kN (j : Nat) : List Tl → Nat
  | [] => 0
  | x :: r => (if x.1 = j then 1 else 0) + kN j r
theorem kN_app (j : Nat) : ∀ (a b : List Tl), kN j (a ++ b) = kN j a + kN j b
  | [], b => (Nat.zero_add _).symm
  | x :: r, b => by
    have := kN_app j r b
    show _ + kN j (r ++ b) = _ + kN j r + kN j b
    omega
def kindsOK (l : List Tl) (c a m d : Nat) : Prop := kN 0 l = c ∧ kN 1 l = a ∧ kN 2 l = m ∧ kN 3 l = d ∧ kN 4 l = m ∧ kN 5 l = m
theorem kinds_mk {k : Nat} {hd bd : Sp} {ks : List Tr} {cs : List Sp} {e : Sp} (hf : formed (.mk k hd bd ks cs e)) (hM : k = 1 → kindsOK (tilesM ks cs) (countK ks) (leavK ks) (multK ks) (cs.length + cutK ks))
    (hH : ∀ q, ks = [q] → kindsOK (tilesT q) (countT q) (leavT q) (multT q) (cutT q)) : kindsOK (tilesT (.mk k hd bd ks cs e)) (countT (.mk k hd bd ks cs e)) (leavT (.mk k hd bd ks cs e)) (multT (.mk k hd bd ks cs e)) (cutT (.mk k hd bd ks cs e)) := by
  obtain ⟨_, _, f3⟩ := hf
  have e1 : countT (.mk k hd bd ks cs e) = 1 + countK ks := rfl
  have e2 : leavT (.mk k hd bd ks cs e) = (if k = 0 then 1 else 0) + leavK ks := by simp only [leavT]
  have e3 : multT (.mk k hd bd ks cs e) = (if k = 1 then 1 else 0) + multK ks := by simp only [multT]
  have e4 : cutT (.mk k hd bd ks cs e) = (if k = 1 then cs.length else 0) + cutK ks := by simp only [cutT]
  rw [e1, e2, e3, e4]
  rcases f3 with ⟨hk0, hks, hcs0, he⟩ | ⟨hk0, hks, hlen⟩ | ⟨hk0, hcs0, he, q, hks, hq1, hq2⟩
  · have hk0' : k = 0 := hk0
    have hks' : ks = [] := hks
    subst hk0' hks'
    simp only [tilesT]
    exact ⟨rfl, rfl, rfl, rfl, rfl, rfl⟩
  · have hk0' : k = 1 := hk0
    subst hk0'
    obtain ⟨g0, g1, g2, g3, g4, g5⟩ := hM rfl
    simp only [tilesT, if_true]
    unfold kindsOK
    simp only [kN, kN_app, g0, g1, g2, g3, g4, g5]
    simp
    omega
  · have hk0' : k = 2 := hk0
    have hks' : ks = [q] := hks
    subst hk0' hks'
    obtain ⟨g0, g1, g2, g3, g4, g5⟩ := hH q rfl
    have c1 : countK [q] = countT q + 0 := rfl
    have c2 : leavK [q] = leavT q + 0 := by simp only [leavK]
    have c3 : multK [q] = multT q + 0 := by simp only [multK]
    have c4 : cutK [q] = cutT q + 0 := by simp only [cutK]
    have c5 : tilesT (.mk 2 hd bd [q] cs e) = (0, hd) :: tilesT q := by simp only [tilesT, tilesH]; rfl
    rw [c1, c2, c3, c4, c5]
    unfold kindsOK
    simp only [kN, g0, g1, g2, g3, g4, g5]
    simp
mutual
theorem kindsT : ∀ t : Tr, goodT t → kindsOK (tilesT t) (countT t) (leavT t) (multT t) (cutT t)
  | .mk k hd bd ks cs e, hg => by
    have hg2 : formed (.mk k hd bd ks cs e) ∧ goodK ks := by unfold goodT at hg; exact hg
    refine kinds_mk hg2.1 (fun hk => ?_) (fun q hq => kindsK1 ks hg2.2 q hq)
    have hlen : ks.length = cs.length := by
      rcases hg2.1.2.2 with ⟨h0, _⟩ | ⟨_, _, h⟩ | ⟨h0, _⟩
      · have h0' : k = 0 := h0
        omega
      · exact h
      · have h0' : k = 2 := h0
        omega
    exact kindsM ks cs hg2.2 hlen
theorem kindsM : ∀ (ks : List Tr) (cs : List Sp), goodK ks → ks.length = cs.length → kindsOK (tilesM ks cs) (countK ks) (leavK ks) (multK ks) (cs.length + cutK ks)
  | [], [], _, _ => by
    rw [tilesM_nil]
    unfold kindsOK
    simp only [leavK, multK, cutK, List.length_nil]
    exact ⟨rfl, rfl, rfl, rfl, rfl, rfl⟩
  | [], _ :: _, _, h => by simp at h
  | _ :: _, [], _, h => by simp at h
  | t :: r, c :: cs, hg, hl => by
    have hg2 : goodT t ∧ goodK r := by unfold goodK at hg; exact hg
    obtain ⟨g0, g1, g2, g3, g4, g5⟩ := kindsT t hg2.1
    obtain ⟨i0, i1, i2, i3, i4, i5⟩ := kindsM r cs hg2.2 (by simpa using hl)
    have e1 : countK (t :: r) = countT t + countK r := rfl
    rw [tilesM_cons, e1]
    unfold kindsOK
    simp only [leavK, multK, cutK, List.length_cons, kN, kN_app, g0, g1, g2, g3, g4, g5, i0, i1, i2, i3, i4, i5]
    simp
    omega
theorem kindsK1 : ∀ (ks : List Tr), goodK ks → ∀ q, ks = [q] → kindsOK (tilesT q) (countT q) (leavT q) (multT q) (cutT q)
  | [], _, _, h => by cases h
  | t :: r, hg, q, h => by
    have hg2 : goodT t ∧ goodK r := by unfold goodK at hg; exact hg
    have := kindsT t hg2.1
    cases h
    exact this
end
theorem leavT_eq (t : Tr) : leavT t = (if t.kind = 0 then 1 else 0) + leavK t.kids := by cases t; simp only [leavT, Tr.kind, Tr.kids]; rfl
theorem multT_eq (t : Tr) : multT t = (if t.kind = 1 then 1 else 0) + multK t.kids := by cases t; simp only [multT, Tr.kind, Tr.kids]; rfl
theorem cutT_eq (t : Tr) : cutT t = (if t.kind = 1 then t.cuts.length else 0) + cutK t.kids := by cases t; simp only [cutT, Tr.kind, Tr.kids, Tr.cuts]; rfl
theorem leavK_take {ks : List Tr} {i : Nat} (h : i < ks.length) : leavK (ks.take (i + 1)) = leavK (ks.take i) + leavT ks[i] := by
  induction ks generalizing i with
  | nil => simp at h
  | cons t r ih =>
    cases i with
    | zero => simp [leavK]
    | succ i =>
      have := ih (i := i) (by simpa using h)
      simp only [List.take_succ_cons, List.getElem_cons_succ, leavK]
      omega
theorem multK_take {ks : List Tr} {i : Nat} (h : i < ks.length) : multK (ks.take (i + 1)) = multK (ks.take i) + multT ks[i] := by
  induction ks generalizing i with
  | nil => simp at h
  | cons t r ih =>
    cases i with
    | zero => simp [multK]
    | succ i =>
      have := ih (i := i) (by simpa using h)
      simp only [List.take_succ_cons, List.getElem_cons_succ, multK]
      omega
theorem cutK_take {ks : List Tr} {i : Nat} (h : i < ks.length) : cutK (ks.take (i + 1)) = cutK (ks.take i) + cutT ks[i] := by
  induction ks generalizing i with
  | nil => simp at h
  | cons t r ih =>
    cases i with
    | zero => simp [cutK]
    | succ i =>
      have := ih (i := i) (by simpa using h)
      simp only [List.take_succ_cons, List.getElem_cons_succ, cutK]
      omega
theorem kN_take {ts : List Tl} {i : Nat} (j : Nat) (h : i < ts.length) : kN j (ts.take (i + 1)) = kN j (ts.take i) + (if ts[i].1 = j then 1 else 0) := by
  induction ts generalizing i with
  | nil => simp at h
  | cons t r ih =>
    cases i with
    | zero => simp [kN]
    | succ i =>
      have := ih (i := i) (by simpa using h)
      simp only [List.take_succ_cons, List.getElem_cons_succ, kN]
      omega
theorem kN_le (j : Nat) : ∀ ts : List Tl, kN j ts ≤ ts.length
  | [] => Nat.le_refl _
  | x :: r => by
    have := kN_le j r
    simp only [kN, List.length_cons]
    split <;> omega
end Go.Proofs.YtfgppamhbchhcaaGreatDoor
