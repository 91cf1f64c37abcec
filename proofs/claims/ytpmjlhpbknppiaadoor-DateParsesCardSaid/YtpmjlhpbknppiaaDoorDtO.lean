/- Plain words of layer 11: what the texts of a moment tell. -/
import Derived.Test.YtpmjlhpbknppiaaDoorDtN
namespace Go.Proofs.YtpmjlhpbknppiaaDoor

def pcs4 (P : Nat) : List Pf := [eitherF [digF 2 (P, 2), digF 1 (P, 2)], monF (P, 1), eitherF [digF 4 (P, 0), shortF (P, 0)], clockF (P, 3) (P, 4) (P, 5)]
def pcs5 (P : Nat) : List Pf := [eitherF [digF 2 (P, 2), digF 1 (P, 2)], monF (P, 1), eitherF [digF 4 (P, 0), shortF (P, 0)], clockF (P, 3) (P, 4) (P, 5), eitherF [awayF (P, 6), zoneF (P, 6)]]
/-- What the parts' places hold. -/
def Flds (P : Nat) (σ : Sg) (y mo da h mi s : Nat) (z : Int) : Prop := σ (P, 0) = (y : Int) ∧ σ (P, 1) = (mo : Int) ∧ σ (P, 2) = (da : Int) ∧ σ (P, 3) = (h : Int) ∧ σ (P, 4) = (mi : Int) ∧ σ (P, 5) = (s : Int) ∧ σ (P, 6) = z
def Smal (y mo da h mi s : Nat) (z : Int) : Prop := y ≤ 9999 ∧ mo < 12 ∧ da ≤ 99 ∧ h ≤ 99 ∧ mi ≤ 99 ∧ s ≤ 99 ∧ -1500 ≤ z ∧ z ≤ 1500
/-- The moment of a date's parts. -/
def parseTs (ts : List (List UInt8)) : Option (Int × Int) := match ts with
  | [a, b, c, d] => (digN 1 2 a).bind fun da => (monOf b).bind fun mo => (yearOf c).bind fun y => (clockOf d).bind fun k => momentK y mo da k.1 k.2.1 (k.2.2.getD 0) 0
  | [a, b, c, d, e] => (digN 1 2 a).bind fun da => (monOf b).bind fun mo => (yearOf c).bind fun y => (clockOf d).bind fun k => (zoneOf e).bind fun z => momentK y mo da k.1 k.2.1 (k.2.2.getD 0) (z.getD 0)
  | _ => none
theorem numOf_two {l : List UInt8} (h : digOk 2 l) : numOf (l.take 2) ≤ 99 := by
  have h1 := numOf_lt _ h.2
  rw [List.length_take, Nat.min_eq_left h.1] at h1
  omega
theorem numOf_small {l : List UInt8} {n : Nat} (h : l.all isDig = true) (hl : l.length ≤ n) : numOf l < 10 ^ n := by
  have h1 := numOf_lt _ h
  have h2 : 10 ^ l.length ≤ 10 ^ n := Nat.pow_le_pow_right (by omega) hl
  omega
theorem digN_le {l : List UInt8} {n : Nat} (h : digN 1 2 l = some n) : n ≤ 99 := by
  unfold digN at h
  split at h
  · next hc =>
    have := numOf_small hc.2.2 hc.2.1
    cases h
    omega
  · cases h
theorem monOf_lt {l : List UInt8} {n : Nat} (h : monOf l = some n) : n < 12 := by
  unfold monOf at h
  split at h
  · next hc =>
    cases h
    exact hc.2
  · cases h
theorem yearOf_le {l : List UInt8} {n : Nat} (h : yearOf l = some n) : n ≤ 9999 := by
  unfold yearOf at h
  split at h
  · next hc =>
    have := numOf_small hc.2 (Nat.le_of_eq hc.1)
    cases h
    omega
  · split at h
    · next hc =>
      have := numOf_small hc.2 (Nat.le_of_eq hc.1)
      cases h
      split <;> omega
    · cases h
theorem clockOf_le {l : List UInt8} {h m : Nat} {s : Option Nat} (hk : clockOf l = some (h, m, s)) : h ≤ 99 ∧ m ≤ 99 ∧ s.getD 0 ≤ 99 := by
  unfold clockOf at hk
  split at hk
  · next hc =>
    have h1 := numOf_two hc.1
    have h2 := numOf_two hc.2.2
    split at hk
    · cases hk
      exact ⟨h1, h2, by simp⟩
    · split at hk
      · next hd =>
        have h3 := numOf_two hd.2.2
        cases hk
        exact ⟨h1, h2, h3⟩
      · cases hk
  · cases hk
theorem zonN_le {nm : List UInt8} {h : Int} : ∀ n, zonN nm n = some h → -8 ≤ h ∧ h ≤ 0
  | 0, e => by cases e
  | n + 1, e => by
    rw [zonN] at e
    by_cases hn : n < zonesL.length
    · rw [List.getElem?_eq_getElem hn] at e
      simp only at e
      split at e
      · have := zonH_le n hn
        rw [zonH_at n hn] at this
        cases e
        exact this
      · exact zonN_le n e
    · rw [List.getElem?_eq_none (by omega)] at e
      exact zonN_le n e
theorem zoneOf_le {l : List UInt8} {z : Option Int} (h : zoneOf l = some z) : -1500 ≤ z.getD 0 ∧ z.getD 0 ≤ 1500 := by
  unfold zoneOf at h
  split at h
  · split at h
    · next hc =>
      cases h
      simp only [Option.getD_some]
      unfold awayM
      split <;> omega
    · cases h
  · split at h
    · cases h
      cases hz : zonN l 8 with
      | none => simp
      | some x =>
        have := zonN_le 8 hz
        simp only [Option.map_some, Option.getD_some]
        omega
    · cases h
theorem eachG_tells {f : Pf} {fs : List Pf} {t : List UInt8} {ts : List (List UInt8)} {σ : Sg} {b : Bool} (h : (wholeF [f] σ t).1 = b) : eachG (f :: fs) (t :: ts) σ = if b = true then eachG fs ts (wholeF [f] σ t).2 else (false, (wholeF [f] σ t).2) := by
  rw [eachG]
  rcases hw : wholeF [f] σ t with ⟨b', σ1⟩
  rw [hw] at h
  subst h
  cases b' <;> rfl
theorem upd_same (σ : Sg) (a : Nat × Nat) (n : Int) : upd σ a n a = n := by unfold upd; rw [if_pos rfl]
theorem upd_other {a b : Nat × Nat} (σ : Sg) (n : Int) (h : b ≠ a) : upd σ a n b = σ b := by unfold upd; rw [if_neg h]
/-- The four texts that stand ahead. -/
theorem four_tells (P : Nat) (a b c d : List UInt8) (rest : List Pf) (ts : List (List UInt8)) (σ : Sg) (h5 : σ (P, 5) = 0) (h6 : σ (P, 6) = 0) :
    (∃ da mo y k σ1, digN 1 2 a = some da ∧ monOf b = some mo ∧ yearOf c = some y ∧ clockOf d = some k ∧ eachG (pcs4 P ++ rest) (a :: b :: c :: d :: ts) σ = eachG rest ts σ1 ∧ Flds P σ1 y mo da k.1 k.2.1 (k.2.2.getD 0) 0) ∨
    ((digN 1 2 a = none ∨ monOf b = none ∨ yearOf c = none ∨ clockOf d = none) ∧ (eachG (pcs4 P ++ rest) (a :: b :: c :: d :: ts) σ).1 = false) := by
  obtain ⟨a1, a2⟩ := day_tells (P, 2) σ a
  show _ ∨ (_ ∧ (eachG (eitherF [digF 2 (P, 2), digF 1 (P, 2)] :: monF (P, 1) :: eitherF [digF 4 (P, 0), shortF (P, 0)] :: clockF (P, 3) (P, 4) (P, 5) :: rest) (a :: b :: c :: d :: ts) σ).1 = false)
  have e1 := eachG_tells (fs := monF (P, 1) :: eitherF [digF 4 (P, 0), shortF (P, 0)] :: clockF (P, 3) (P, 4) (P, 5) :: rest) (ts := b :: c :: d :: ts) a1
  cases hda : digN 1 2 a with
  | none =>
    rw [hda] at e1
    right
    exact ⟨.inl rfl, by rw [e1]; rfl⟩
  | some da =>
    rw [hda] at e1
    have s1 := a2 da hda
    rw [s1] at e1
    obtain ⟨b1, b2⟩ := mon_tells (P, 1) (upd σ (P, 2) (da : Int)) b
    have e2 := eachG_tells (fs := eitherF [digF 4 (P, 0), shortF (P, 0)] :: clockF (P, 3) (P, 4) (P, 5) :: rest) (ts := c :: d :: ts) b1
    cases hmo : monOf b with
    | none =>
      rw [hmo] at e2
      right
      exact ⟨.inr (.inl rfl), by rw [e1]; simp only [Option.isSome_some, if_true]; rw [e2]; rfl⟩
    | some mo =>
      rw [hmo] at e2
      have s2 := b2 mo hmo
      rw [s2] at e2
      obtain ⟨c1, c2⟩ := year_tells (P, 0) (upd (upd σ (P, 2) (da : Int)) (P, 1) (mo : Int)) c
      have e3 := eachG_tells (fs := clockF (P, 3) (P, 4) (P, 5) :: rest) (ts := d :: ts) c1
      cases hy : yearOf c with
      | none =>
        rw [hy] at e3
        right
        exact ⟨.inr (.inr (.inl rfl)), by rw [e1]; simp only [Option.isSome_some, if_true]; rw [e2]; simp only [Option.isSome_some, if_true]; rw [e3]; rfl⟩
      | some y =>
        rw [hy] at e3
        have s3 := c2 y hy
        rw [s3] at e3
        obtain ⟨d1, d2⟩ := clock_tells (P, 3) (P, 4) (P, 5) (upd (upd (upd σ (P, 2) (da : Int)) (P, 1) (mo : Int)) (P, 0) (y : Int)) d
        have e4 := eachG_tells (fs := rest) (ts := ts) d1
        cases hk : clockOf d with
        | none =>
          rw [hk] at e4
          right
          exact ⟨.inr (.inr (.inr rfl)), by rw [e1]; simp only [Option.isSome_some, if_true]; rw [e2]; simp only [Option.isSome_some, if_true]; rw [e3]; simp only [Option.isSome_some, if_true]; rw [e4]; rfl⟩
        | some k =>
          obtain ⟨h, m, s⟩ := k
          rw [hk] at e4
          have s4 := d2 h m s hk
          left
          refine ⟨da, mo, y, (h, m, s), (wholeF [clockF (P, 3) (P, 4) (P, 5)] (upd (upd (upd σ (P, 2) (da : Int)) (P, 1) (mo : Int)) (P, 0) (y : Int)) d).2, rfl, rfl, rfl, rfl, ?_, ?_⟩
          · show eachG (eitherF [digF 2 (P, 2), digF 1 (P, 2)] :: monF (P, 1) :: eitherF [digF 4 (P, 0), shortF (P, 0)] :: clockF (P, 3) (P, 4) (P, 5) :: rest) (a :: b :: c :: d :: ts) σ = _
            rw [e1]; simp only [Option.isSome_some, if_true]; rw [e2]; simp only [Option.isSome_some, if_true]; rw [e3]; simp only [Option.isSome_some, if_true]; rw [e4]; simp only [Option.isSome_some, if_true]
          · rw [s4]
            cases s with
            | none => refine ⟨?_, ?_, ?_, ?_, ?_, ?_, ?_⟩ <;> simp [upd, h5, h6]
            | some n => refine ⟨?_, ?_, ?_, ?_, ?_, ?_, ?_⟩ <;> simp [upd, h6]
theorem parse_cases (P : Nat) (ts : List (List UInt8)) (σ : Sg) (h5 : σ (P, 5) = 0) (h6 : σ (P, 6) = 0) :
    ((eachF (pcs4 P) ts σ).1 = true ∧ ∃ y mo da h mi s z, Smal y mo da h mi s z ∧ Flds P (eachF (pcs4 P) ts σ).2 y mo da h mi s z ∧ parseTs ts = momentK y mo da h mi s z) ∨
    ((eachF (pcs4 P) ts σ).1 = false ∧
      (((eachF (pcs5 P) ts (eachF (pcs4 P) ts σ).2).1 = true ∧ ∃ y mo da h mi s z, Smal y mo da h mi s z ∧ Flds P (eachF (pcs5 P) ts (eachF (pcs4 P) ts σ).2).2 y mo da h mi s z ∧ parseTs ts = momentK y mo da h mi s z) ∨
       ((eachF (pcs5 P) ts (eachF (pcs4 P) ts σ).2).1 = false ∧ parseTs ts = none))) := by
  by_cases h4 : ts.length = 4
  · obtain ⟨a, b, c, d, rfl⟩ : ∃ a b c d, ts = [a, b, c, d] := by
      rcases ts with _ | ⟨a, _ | ⟨b, _ | ⟨c, _ | ⟨d, _ | ⟨e, r⟩⟩⟩⟩⟩ <;> simp at h4
      exact ⟨a, b, c, d, rfl⟩
    have e4 : eachF (pcs4 P) [a, b, c, d] σ = eachG (pcs4 P ++ []) [a, b, c, d] σ := by
      unfold eachF
      rw [if_pos (show [a, b, c, d].length = (pcs4 P).length from rfl), List.append_nil]
    have e5 : ∀ σ', (eachF (pcs5 P) [a, b, c, d] σ').1 = false := by
      intro σ'
      unfold eachF
      rw [if_neg (by simp [pcs5])]
    rcases four_tells P a b c d [] [] σ h5 h6 with ⟨da, mo, y, k, σ1, g1, g2, g3, g4, g5, g6⟩ | ⟨hn, hf⟩
    · left
      rw [e4, g5]
      refine ⟨rfl, y, mo, da, k.1, k.2.1, k.2.2.getD 0, 0, ?_, g6, ?_⟩
      · obtain ⟨h, m, s⟩ := k
        obtain ⟨k1, k2, k3⟩ := clockOf_le g4
        exact ⟨yearOf_le g3, monOf_lt g2, digN_le g1, k1, k2, k3, by omega, by omega⟩
      · simp only [parseTs, g1, g2, g3, g4, Option.bind_some]
    · right
      rw [e4]
      refine ⟨hf, .inr ⟨e5 _, ?_⟩⟩
      simp only [parseTs]
      rcases hn with h | h | h | h
      · rw [h]; rfl
      · rw [h]; cases digN 1 2 a <;> rfl
      · rw [h]; cases digN 1 2 a <;> cases monOf b <;> rfl
      · rw [h]; cases digN 1 2 a <;> cases monOf b <;> cases yearOf c <;> rfl
  · have e4 : eachF (pcs4 P) ts σ = (false, σ) := by
      unfold eachF
      rw [if_neg (show ¬ ts.length = (pcs4 P).length from h4)]
    rw [e4]
    right
    refine ⟨rfl, ?_⟩
    by_cases h5' : ts.length = 5
    · obtain ⟨a, b, c, d, e, rfl⟩ : ∃ a b c d e, ts = [a, b, c, d, e] := by
        rcases ts with _ | ⟨a, _ | ⟨b, _ | ⟨c, _ | ⟨d, _ | ⟨e, _ | ⟨f, r⟩⟩⟩⟩⟩⟩ <;> simp at h5'
        exact ⟨a, b, c, d, e, rfl⟩
      have e5 : eachF (pcs5 P) [a, b, c, d, e] σ = eachG (pcs4 P ++ [eitherF [awayF (P, 6), zoneF (P, 6)]]) [a, b, c, d, e] σ := by
        unfold eachF
        rw [if_pos (show [a, b, c, d, e].length = (pcs5 P).length from rfl)]
        rfl
      simp only
      rw [e5]
      rcases four_tells P a b c d [eitherF [awayF (P, 6), zoneF (P, 6)]] [e] σ h5 h6 with ⟨da, mo, y, k, σ1, g1, g2, g3, g4, g5, g6⟩ | ⟨hn, hf⟩
      · rw [g5]
        obtain ⟨z1, z2⟩ := zone_tells (P, 6) σ1 e
        have e6 := eachG_tells (fs := []) (ts := []) z1
        cases hz : zoneOf e with
        | none =>
          right
          rw [hz] at e6
          rw [e6]
          refine ⟨rfl, ?_⟩
          simp only [parseTs, g1, g2, g3, g4, hz, Option.bind_some]
          rfl
        | some z =>
          left
          rw [hz] at e6
          rw [z2 z hz] at e6
          rw [e6]
          obtain ⟨k1, k2, k3⟩ := clockOf_le (h := k.1) (m := k.2.1) (s := k.2.2) g4
          obtain ⟨z3, z4⟩ := zoneOf_le hz
          refine ⟨rfl, y, mo, da, k.1, k.2.1, k.2.2.getD 0, z.getD 0, ⟨yearOf_le g3, monOf_lt g2, digN_le g1, k1, k2, k3, z3, z4⟩, ?_, ?_⟩
          · obtain ⟨f0, f1, f2, f3, f4, f5, f6⟩ := g6
            cases z with
            | none => exact ⟨f0, f1, f2, f3, f4, f5, f6⟩
            | some n =>
              refine ⟨?_, ?_, ?_, ?_, ?_, ?_, ?_⟩ <;> simp [eachG, upd, f0, f1, f2, f3, f4, f5]
          · simp only [parseTs, g1, g2, g3, g4, hz, Option.bind_some]
      · right
        refine ⟨hf, ?_⟩
        simp only [parseTs]
        rcases hn with h | h | h | h
        · rw [h]; rfl
        · rw [h]; cases digN 1 2 a <;> rfl
        · rw [h]; cases digN 1 2 a <;> cases monOf b <;> rfl
        · rw [h]; cases digN 1 2 a <;> cases monOf b <;> cases yearOf c <;> rfl
    · right
      constructor
      · unfold eachF
        rw [if_neg (show ¬ ts.length = (pcs5 P).length from h5')]
      · rcases ts with _ | ⟨a, _ | ⟨b, _ | ⟨c, _ | ⟨d, _ | ⟨e, _ | ⟨f, r⟩⟩⟩⟩⟩⟩ <;> simp at h4 h5' <;> rfl
end Go.Proofs.YtpmjlhpbknppiaaDoor
