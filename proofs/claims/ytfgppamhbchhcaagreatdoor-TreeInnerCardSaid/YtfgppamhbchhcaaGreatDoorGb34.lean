/- A tree with room: one level less and one part more ahead turn nothing where there is room. No program. -/
import Derived.Test.YtfgppamhbchhcaaGreatDoorGb32
import Derived.Test.YtfgppamhbchhcaaGreatDoorGb33
namespace Go.Proofs.YtfgppamhbchhcaaGreatDoor
open Go Go.RowKit

theorem kidsRun_count {F : Sp → Nat → Tr × Nat} (h : ∀ s c, (F s c).2 + 1 = c + countT (F s c).1) : ∀ (ss : List Sp) (c : Nat), (kidsRun F ss c).2 + ss.length = c + countK (kidsRun F ss c).1
  | [], _ => rfl
  | s :: r, c => by
    have ih := kidsRun_count h r (F s c).2
    have h1 := h s c
    show (kidsRun F r (F s c).2).2 + (r.length + 1) = c + (countT (F s c).1 + countK (kidsRun F r (F s c).2).1)
    omega
theorem kidsRun_len {F : Sp → Nat → Tr × Nat} : ∀ (ss : List Sp) (c : Nat), (kidsRun F ss c).1.length = ss.length
  | [], _ => rfl
  | s :: r, c => by
    show (kidsRun F r (F s c).2).1.length + 1 = r.length + 1
    rw [kidsRun_len r]
theorem entS_count (l : List UInt8) : ∀ (d : Nat) (s : Sp) (g : Bool) (c : Nat), (entS l d s g c).2 + 1 = c + countT (entS l d s g c).1
  | 0, s, g, c => rfl
  | d + 1, s, g, c => by
    by_cases hc : (pdS l (fsOf l s.1 s.2) (hdOf l s.1 s.2) s.2 (typeS l (fsOf l s.1 s.2) g)).kids = [] ∨ 1000 < c + (pdS l (fsOf l s.1 s.2) (hdOf l s.1 s.2) s.2 (typeS l (fsOf l s.1 s.2) g)).kids.length
    · rw [entS_leaf hc]
      rfl
    · rw [entS_kids rfl rfl hc]
      have h := kidsRun_count (F := fun s' c' => entS l d s' (digS (typeS l (fsOf l s.1 s.2) g)) c') (fun s' c' => entS_count l d s' _ c') (pdS l (fsOf l s.1 s.2) (hdOf l s.1 s.2) s.2 (typeS l (fsOf l s.1 s.2) g)).kids (c + (pdS l (fsOf l s.1 s.2) (hdOf l s.1 s.2) s.2 (typeS l (fsOf l s.1 s.2) g)).kids.length)
      show (kidsRun _ _ _).2 + 1 = c + (1 + countK (kidsRun _ _ _).1)
      omega
theorem entS_ge (l : List UInt8) (d : Nat) (s : Sp) (g : Bool) (c : Nat) : c ≤ (entS l d s g c).2 := by
  have h := entS_count l d s g c
  have h2 := countT_eq (entS l d s g c).1
  omega
theorem kidsRun_ge {F : Sp → Nat → Tr × Nat} (h : ∀ s c, c ≤ (F s c).2) : ∀ (ss : List Sp) (c : Nat), c ≤ (kidsRun F ss c).2
  | [], _ => Nat.le_refl _
  | s :: r, c => Nat.le_trans (h s c) (kidsRun_ge h r _)
theorem kidsRun_room {F G : Sp → Nat → Tr × Nat} {D : Nat} (hF : ∀ s c, c ≤ (F s c).2) (h : ∀ s c, deepT (F s c).1 ≤ D → (F s c).2 < 1000 → G s (c + 1) = ((F s c).1, (F s c).2 + 1)) :
    ∀ (ss : List Sp) (c : Nat), deepK (kidsRun F ss c).1 ≤ D + 1 → (kidsRun F ss c).2 < 1000 → kidsRun G ss (c + 1) = ((kidsRun F ss c).1, (kidsRun F ss c).2 + 1)
  | [], _, _, _ => rfl
  | s :: r, c, hd, hc => by
    have hd' : max (1 + deepT (F s c).1) (deepK (kidsRun F r (F s c).2).1) ≤ D + 1 := hd
    have hc' : (kidsRun F r (F s c).2).2 < 1000 := hc
    have hge := kidsRun_ge hF r (F s c).2
    have h1 := h s c (by omega) (by omega)
    have ih := kidsRun_room hF h r (F s c).2 (by omega) hc'
    show ((G s (c + 1)).1 :: (kidsRun G r (G s (c + 1)).2).1, (kidsRun G r (G s (c + 1)).2).2) = _
    rw [h1]
    simp only
    rw [ih]
    rfl
theorem deepK_pos : ∀ {ts : List Tr}, ts ≠ [] → 1 ≤ deepK ts
  | [], h => absurd rfl h
  | t :: r, _ => by
    show 1 ≤ max (1 + deepT t) (deepK r)
    omega
theorem entS_room (l : List UInt8) : ∀ (d : Nat) (s : Sp) (g : Bool) (c : Nat), deepT (entS l (d + 1) s g c).1 ≤ d → (entS l (d + 1) s g c).2 < 1000 → entS l d s g (c + 1) = ((entS l (d + 1) s g c).1, (entS l (d + 1) s g c).2 + 1)
  | d, s, g, c, hd, hc => by
    by_cases hk : (pdS l (fsOf l s.1 s.2) (hdOf l s.1 s.2) s.2 (typeS l (fsOf l s.1 s.2) g)).kids = [] ∨ 1000 < c + (pdS l (fsOf l s.1 s.2) (hdOf l s.1 s.2) s.2 (typeS l (fsOf l s.1 s.2) g)).kids.length
    · rw [entS_leaf hk]
      cases d with
      | zero => rfl
      | succ d =>
        rw [entS_leaf]
        rcases hk with hk | hk
        · exact .inl hk
        · exact .inr (by omega)
    · rw [entS_kids rfl rfl hk] at hd hc ⊢
      have hne : (pdS l (fsOf l s.1 s.2) (hdOf l s.1 s.2) s.2 (typeS l (fsOf l s.1 s.2) g)).kids ≠ [] := fun h => hk (.inl h)
      obtain ⟨ss, hss⟩ : ∃ ss, ss = (pdS l (fsOf l s.1 s.2) (hdOf l s.1 s.2) s.2 (typeS l (fsOf l s.1 s.2) g)).kids := ⟨_, rfl⟩
      rw [← hss] at hne hd hc
      have hd' : deepK (kidsRun (fun s' c' => entS l d s' (digS (typeS l (fsOf l s.1 s.2) g)) c') ss (c + ss.length)).1 ≤ d := hd
      have hc' : (kidsRun (fun s' c' => entS l d s' (digS (typeS l (fsOf l s.1 s.2) g)) c') ss (c + ss.length)).2 < 1000 := hc
      cases d with
      | zero =>
        exfalso
        have h1 := deepK_pos (ts := (kidsRun (fun s' c' => entS l 0 s' (digS (typeS l (fsOf l s.1 s.2) g)) c') ss (c + ss.length)).1) (fun h => hne (List.eq_nil_of_length_eq_zero (by
          have h2 := kidsRun_len (F := fun s' c' => entS l 0 s' (digS (typeS l (fsOf l s.1 s.2) g)) c') ss (c + ss.length)
          rw [h] at h2
          exact h2.symm)))
        omega
      | succ d =>
        have hge := kidsRun_ge (F := fun s' c' => entS l (d + 1) s' (digS (typeS l (fsOf l s.1 s.2) g)) c') (fun s' c' => entS_ge l _ s' _ c') ss (c + ss.length)
        have hr := kidsRun_room (F := fun s' c' => entS l (d + 1) s' (digS (typeS l (fsOf l s.1 s.2) g)) c') (G := fun s' c' => entS l d s' (digS (typeS l (fsOf l s.1 s.2) g)) c') (D := d) (fun s' c' => entS_ge l _ s' _ c') (fun s' c' => entS_room l d s' _ c') ss (c + ss.length) hd' hc'
        rw [entS_kids rfl rfl (by
          rw [← hss]
          rintro (h | h)
          · exact hne h
          · omega)]
        rw [← hss, show c + 1 + ss.length = c + ss.length + 1 by omega, hr]
end Go.Proofs.YtfgppamhbchhcaaGreatDoor

/- TreeInner in plain words. No program. -/
namespace Go.Proofs.YtfgppamhbchhcaaGreatDoor
open Go Go.RowKit

def frH : List UInt8 := [88, 58, 32, 121, 13, 10, 67, 111, 110, 116, 101, 110, 116, 45, 84, 121, 112, 101, 58, 32, 109, 101, 115, 115, 97, 103, 101, 47, 114, 102, 99, 56, 50, 50, 13, 10, 13, 10]
set_option maxRecDepth 100000 in
theorem fr_hd (b : List UInt8) : hdOf (frH ++ b) 0 (frH ++ b).length = 38 := by kernel_rfl
def fr2 : Fld := ⟨nameS msH, 6, 19, 36⟩
set_option maxRecDepth 100000 in
theorem fr_fs (b : List UInt8) : fsOf (frH ++ b) 0 (frH ++ b).length = [⟨nameS [88, 58, 32, 121], 0, 2, 6⟩, fr2] := by kernel_rfl
theorem fr_lines (b : List UInt8) : textsL (frH ++ b) (linesS (frH ++ b) 19 36) = msV := by kernel_rfl
theorem fr_body (b : List UInt8) : bodyS (frH ++ b) ((19 : Nat) : Int) ((36 : Nat) : Int) = msgN ++ 47 :: rfcN := by
  have hw : withinB ((19 : Nat) : Int) ((36 : Nat) : Int) (frH ++ b).length = true := by
    have : (frH ++ b).length = 38 + b.length := by rw [List.length_append]; rfl
    unfold withinB
    exact decide_eq_true ⟨by omega, by omega, by omega⟩
  unfold bodyS linesZ
  rw [if_pos hw]
  show trimS (textsL (frH ++ b) (linesS (frH ++ b) 19 36)) = _
  rw [fr_lines]
  decide
theorem fr_type (b : List UInt8) : typeS (frH ++ b) (fsOf (frH ++ b) 0 (frH ++ b).length) false = ⟨msgN, rfcN, []⟩ := by
  rw [fr_fs]
  have hv : valueS (frH ++ b) [⟨nameS [88, 58, 32, 121], 0, 2, 6⟩, fr2] ctyN = msgN ++ 47 :: rfcN := by
    have hfi : fI ctyN [(⟨nameS [88, 58, 32, 121], 0, 2, 6⟩ : Fld), fr2] = 1 := by decide
    unfold valueS
    rw [dif_pos (by rw [hfi]; decide)]
    simp only [hfi]
    exact fr_body b
  have hp : parseL (msgN ++ 47 :: rfcN) true = some ⟨msgN, rfcN, []⟩ := by kernel_rfl
  unfold typeS
  rw [hv, hp]
theorem fr_pd (b : List UInt8) (h t : Nat) : pdS (frH ++ b) (fsOf (frH ++ b) 0 (frH ++ b).length) h t ⟨msgN, rfcN, []⟩ = ⟨2, [], (0, 0), [(h, t)]⟩ := by
  rw [fr_fs]
  have hb : bareS (frH ++ b) [⟨nameS [88, 58, 32, 121], 0, 2, 6⟩, fr2] = true := by
    have hv : valueS (frH ++ b) [⟨nameS [88, 58, 32, 121], 0, 2, 6⟩, fr2] cteN = [] := by
      have hfi : fI cteN [(⟨nameS [88, 58, 32, 121], 0, 2, 6⟩ : Fld), fr2] = 2 := by decide
      unfold valueS
      rw [dif_neg (by rw [hfi]; decide)]
    unfold bareS
    rw [hv]
    rfl
  unfold pdS
  rw [if_neg (by decide), if_pos ⟨rfl, rfl, hb⟩]
theorem inner_tree (b : List UInt8) : treeS (frH ++ b) = .mk 2 (0, 38) (38, 38 + b.length) [(entS (frH ++ b) 31 (38, 38 + b.length) false 2).1] [] (0, 0) := by
  obtain ⟨l, hl⟩ : ∃ l, l = frH ++ b := ⟨_, rfl⟩
  have hh := fr_hd b
  have hk := (fr_type b).symm
  have hp := (fr_pd b 38 (frH ++ b).length).symm
  rw [← hl] at hh hk hp ⊢
  have hlen : l.length = 38 + b.length := by rw [hl, List.length_append]; rfl
  have hn : ¬ ((⟨2, [], (0, 0), [(38, l.length)]⟩ : Pd).kids = [] ∨ 1000 < 1 + (⟨2, [], (0, 0), [(38, l.length)]⟩ : Pd).kids.length) := by
    rintro (h | h)
    · cases h
    · have h' : 1000 < 1 + 1 := h
      omega
  unfold treeS
  rw [entS_kids (s := (0, l.length)) hk (by simp only [hh]; exact hp) hn]
  simp only [hh]
  rw [hlen]
  rfl
theorem inner_moved (b : List UInt8) (h1 : deepT (treeS b) ≤ 30) (h2 : countT (treeS b) ≤ 900) : treeS (frH ++ b) = .mk 2 (0, 38) (38, 38 + b.length) [mvT 38 (treeS b)] [] (0, 0) := by
  rw [inner_tree]
  have hc := entS_count b 32 (0, b.length) false 1
  have hc2 : (entS b 32 (0, b.length) false 1).2 < 1000 := by
    have h2' : countT (entS b 32 (0, b.length) false 1).1 ≤ 900 := h2
    omega
  have hd : deepT (entS b 32 (0, b.length) false 1).1 ≤ 31 := Nat.le_trans h1 (by decide)
  have hr := entS_room b 31 (0, b.length) false 1 hd hc2
  have hs := entS_shift frH b 31 (0, b.length) false 2
  rw [hr] at hs
  have e : shP frH.length (0, b.length) = (38, 38 + b.length) := rfl
  rw [e] at hs
  rw [hs]
  rfl
end Go.Proofs.YtfgppamhbchhcaaGreatDoor
