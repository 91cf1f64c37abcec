/- Contracts of package params: the values given. -/
import Derived.Test.YtcnihodikpcfkaaGreatDoorParO
import Derived.Test.YtcnihodikpcfkaaGreatDoorParN
import Derived.Test.YtcnihodikpcfkaaGreatDoorParK
import Derived.Maps.OwnSet
import Derived.Maps.OwnOps
import Derived.StringKeys
namespace Go.Proofs.YtcnihodikpcfkaaGreatDoor
open Go Go.RowKit Go.Maps

def idx (ps : List Prm) (nm : List UInt8) : Option Nat := ps.findIdx? (fun p => p.1 == nm)
theorem getV_idx (ps : List Prm) (nm : List UInt8) : getV ps nm = (idx ps nm).bind (fun i => ps[i]?.map (·.2)) := by
  unfold getV idx
  induction ps with
  | nil => rfl
  | cons p ps ih =>
    rw [List.find?_cons, List.findIdx?_cons]
    by_cases h : (p.1 == nm) = true
    · rw [h]
      rfl
    · have h' : (p.1 == nm) = false := by simpa using h
      rw [h']
      simp only [Bool.false_eq_true, if_false]
      rw [ih]
      cases ps.findIdx? (fun p => p.1 == nm) <;> simp
theorem idx_lt {ps : List Prm} {nm : List UInt8} {i : Nat} (h : idx ps nm = some i) : i < ps.length := by
  unfold idx at h
  exact (List.findIdx?_eq_some_iff_findIdx_eq.1 h).1

theorem keyLaw : Keyed Tryz.prog 9 := string_keyed Tryz.underlying9
theorem zeroInt (w : World) : (zeroValue 3).run Tryz.prog w = .ok (.int .i64 0) w := by kernel_rfl
theorem keyStr (l : List UInt8) (h : l.length ≤ 1000000000) : keyOf Tryz.prog 9 (.string ⟨l.toArray⟩) = some (.string l) := by
  have h1 : (⟨l.toArray⟩ : ByteArray).size ≤ maxLen := by
    show l.length ≤ _
    unfold maxLen
    omega
  have := Go.WideMaps.keyOf_string_mk Tryz.underlying9 h1
  exact this

/-- A map tells the first place of each name. -/
def MapIs (W : World) (bm : Nat) (ps : List Prm) : Prop := ∃ (n : Nat) (D : DataW Unit), n ≤ ps.length ∧ W.ownsMap Tryz.prog 9 (plainElem Tryz.prog 3) bm n D ∧
  ∀ nm, Maps.has D (.string nm) = (idx ps nm).isSome ∧ ∀ i, idx ps nm = some i → D.atKey (.string nm) (.lit (.int .i64 0)) = .lit (.int .i64 (i : Int))
theorem MapIs.below {W W' : World} {bm : Nat} {ps : List Prm} (h : MapIs W bm ps) (hb : Below W.heap.size W W') : MapIs W' bm ps := by
  obtain ⟨n, D, h1, h2, h3⟩ := h
  exact ⟨n, D, h1, h2.kept (row := none) ⟨hb.os, hb.tape, hb.output, hb.size, fun k hk _ => hb.block k hk⟩ (by simp), h3⟩
/-- A slice of parameters. -/
def prmAt (W : World) (v : Value) (ps : List Prm) : Prop :=
  ∃ ao cap, v = .slice ao ps.length cap ∧ ps.length ≤ cap ∧ cap ≤ maxLen ∧ (ps = [] ∨ ∃ g, ao = some ⟨g, 0, none⟩ ∧ g < W.heap.size ∧
    ∀ i, (h : i < ps.length) → W.cell? ⟨g, i * 2, none⟩ = some (.string ⟨(ps[i]).1.toArray⟩) ∧ W.cell? ⟨g, i * 2 + 1, none⟩ = some (.string ⟨(ps[i]).2.toArray⟩))
theorem prmAt.below {W W' : World} {v : Value} {ps : List Prm} (h : prmAt W v ps) (hb : Below W.heap.size W W') : prmAt W' v ps := by
  obtain ⟨ao, cap, e, h1, h2, h3⟩ := h
  refine ⟨ao, cap, e, h1, h2, h3.imp id ?_⟩
  rintro ⟨g, e, hg, hc⟩
  exact ⟨g, e, Nat.lt_of_lt_of_le hg hb.size, fun i hi => ⟨(hb.cell (p := ⟨g, i * 2, none⟩) hg).trans (hc i hi).1, (hb.cell (p := ⟨g, i * 2 + 1, none⟩) hg).trans (hc i hi).2⟩⟩
theorem prmCells_at (ps : List Prm) (i : Nat) (h : i < ps.length) : (prmCells ps)[i * 2]? = some (.string ⟨(ps[i]).1.toArray⟩) ∧ (prmCells ps)[i * 2 + 1]? = some (.string ⟨(ps[i]).2.toArray⟩) := by
  induction ps generalizing i with
  | nil => simp at h
  | cons p ps ih =>
    have e : prmCells (p :: ps) = .string ⟨p.1.toArray⟩ :: .string ⟨p.2.toArray⟩ :: prmCells ps := rfl
    rw [e]
    cases i with
    | zero => exact ⟨rfl, rfl⟩
    | succ i =>
      have := ih i (by simpa using h)
      rw [show (i + 1) * 2 = i * 2 + 1 + 1 by omega]
      simpa using this
theorem prmAt_owned {w : World} {base : Nat} {v : Value} {ps : List Prm} (h : w.ownsRow base 42 2 v ps.length (prmCells ps)) : prmAt w v ps := by
  rcases h.2 with ⟨rfl, h0⟩ | ⟨g, cap, cur, rfl, hbg, hh, hc, hm, hs, ht⟩
  · obtain rfl : ps = [] := List.eq_nil_of_length_eq_zero h0
    exact ⟨none, 0, rfl, Nat.le_refl _, Nat.zero_le _, .inl rfl⟩
  · refine ⟨_, cap, rfl, hc, hm, .inr ⟨g, rfl, (Array.getElem?_eq_some_iff.1 hh).1, fun i hi => ?_⟩⟩
    obtain ⟨c0, c1⟩ := prmCells_at ps i hi
    rw [← ht] at c0 c1
    rw [List.getElem?_take, if_pos (by omega)] at c0 c1
    simp only [World.cell?, hh]
    exact ⟨by simpa using c0, by simpa using c1⟩
def getOV : Option (List UInt8) → Value
  | some v => .tuple #[.string ⟨v.toArray⟩, .bool true]
  | none => .tuple #[.string ⟨#[]⟩, .bool false]

set_option maxRecDepth 100000 in
set_option maxHeartbeats 1000000 in
theorem plain_any (v : Value) (bm : Nat) (ps : List Prm) (nm : List UInt8) (w : World) (hv : prmAt w v ps) (hm : MapIs w bm ps) (hn : nm.length ≤ 1000000000) :
    Calls Tryz.prog 50 #[.agg #[v, .map (some bm)], .string ⟨nm.toArray⟩] w fun e w' => e = .returned (getOV (getV ps nm)) ∧ Below w.heap.size w w' := by
  obtain ⟨ao, cap, rfl, hc1, hc2, hcell⟩ := hv
  obtain ⟨n, D, hnl, hown, hD⟩ := hm
  have HO := Lib.hid hown
  have HK := Lib.hid (keyStr nm hn)
  have HC := Lib.hid hcell
  have HG := Lib.hid (getV_idx ps nm)
  obtain ⟨hD1, hD2⟩ := hD nm
  unfold maxLen at hc2
  cases hx : idx ps nm with
  | none =>
    rw [hx] at hD1
    have HD1 : Hid (Maps.has D (.string nm) = false) := hD1
    have HN : Hid (getV ps nm = none) := by unfold Hid; rw [HG.out, hx]; rfl
    clear hx hD1 hD2 hD hown hcell
    go_enter Tryz.func50, Tryz.ntmps50
    go_wp2_with (at_lookup; refine wpList_lookup_own_ok_int _ rfl _ _ 62 rfl 9 3 .i64 keyLaw Tryz.underlying62 Tryz.underlying3 (zeroInt _) bm n D rfl (HO.out.alloc _) _ _ rfl HK.out ?_; intro c hat hwc; rw [HD1.out])
    go_ret2
    exact ⟨by rw [HN.out]; rfl, (Below.refl _ _).alloc (Nat.le_refl _) _⟩
  | some i =>
    have hi := idx_lt hx
    have HD1 : Hid (Maps.has D (.string nm) = true) := by rw [hx] at hD1; exact hD1
    have HD2 : Hid (D.atKey (.string nm) (.lit (.int .i64 0)) = .lit (.int .i64 (i : Int))) := hD2 i hx
    have HN : Hid (getV ps nm = some (ps[i]).2) := by
      unfold Hid
      rw [HG.out, hx]
      show ps[i]?.map (·.2) = _
      rw [List.getElem?_eq_getElem hi]
      rfl
    rcases hcell with h0 | ⟨g, rfl, hg, hcc⟩
    · rw [h0] at hi
      simp at hi
    · have c1 := (hcc i hi).2
      have C1 := Lib.hid (((Below.refl _ w).alloc (Nat.le_refl _) (.cells #[.slice (some ⟨g, 0, none⟩) ps.length cap, .map (some bm)] 64)).cell (p := ⟨g, i * 2 + 1, none⟩) hg)
      have c2 := C1.out.trans c1
      clear hx hD1 hD2 hD hown HC hcc c1 C1
      go_enter Tryz.func50, Tryz.ntmps50
      go_wp2_with (at_lookup; refine wpList_lookup_own_ok_int _ rfl _ _ 62 rfl 9 3 .i64 keyLaw Tryz.underlying62 Tryz.underlying3 (zeroInt _) bm n D rfl (HO.out.alloc _) _ _ rfl HK.out ?_; intro c hat hwc; rw [HD1.out]; obtain rfl : c = (i : Int) := (by rw [HD2.out] at hat; cases hat; rfl))
      go_ret2
      exact ⟨by rw [HN.out]; rfl, (Below.refl _ _).alloc (Nat.le_refl _) _⟩
end Go.Proofs.YtcnihodikpcfkaaGreatDoor
