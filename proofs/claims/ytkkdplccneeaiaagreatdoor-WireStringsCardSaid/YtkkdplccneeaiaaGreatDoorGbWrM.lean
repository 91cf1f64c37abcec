/- Layer 18: contracts of package wire: Tokens. -/
import Derived.Test.YtkkdplccneeaiaaGreatDoorGbWrL
namespace Go.Proofs.YtkkdplccneeaiaaGreatDoor
open Go Go.RowKit

def tokC (p : Nat × List UInt8) : List Value := [.int .i64 (p.1 : Int), .string ⟨p.2.toArray⟩]
def tokCells (ts : List (Nat × List UInt8)) : List Value := ts.flatMap tokC
theorem tokCells_snoc (ts : List (Nat × List UInt8)) (p : Nat × List UInt8) : tokCells (ts ++ [p]) = tokCells ts ++ tokC p := by simp [tokCells]
theorem tokCells_len (ts : List (Nat × List UInt8)) : (tokCells ts).length = ts.length * 2 := by
  induction ts with
  | nil => rfl
  | cons p r ih => simp [tokCells, tokC] at ih ⊢; omega
theorem tokCells_at (ts : List (Nat × List UInt8)) (i : Nat) (h : i < ts.length) : (tokCells ts)[i * 2]? = some (.int .i64 (ts[i].1 : Int)) ∧ (tokCells ts)[i * 2 + 1]? = some (.string ⟨ts[i].2.toArray⟩) := by
  induction ts generalizing i with
  | nil => simp at h
  | cons x r ih =>
    have e : tokCells (x :: r) = tokC x ++ tokCells r := by simp [tokCells]
    rw [e]
    cases i with
    | zero => simp [tokC]
    | succ i =>
      have := ih i (by simpa using h)
      simp only [List.getElem_cons_succ]
      rw [List.getElem?_append_right (by simp [tokC]; omega), List.getElem?_append_right (by simp [tokC]; omega)]
      simp only [tokC, List.length_cons, List.length_nil]
      rw [show (i + 1) * 2 - (0 + 1 + 1) = i * 2 by omega, show (i + 1) * 2 + 1 - (0 + 1 + 1) = i * 2 + 1 by omega]
      exact this
theorem Tryz.infoTok : (Tryz.prog.info? 31).map (fun i => (i.zero, i.size, i.bytes)) = some (some (.agg #[.int .i64 0, .string ⟨#[]⟩]), 2, 24) := by kernel_rfl
theorem own_grN {B base n k : Nat} {W W' : World} {e : TypeId} {v : Value} {xs : List Value} (h : W.ownsRow base e k v n xs) (hg : Gr B W W') (hB : B < base) : W'.ownsRow base e k v n xs := by
  refine h.kept hg ?_
  rcases hv : v.ownBlock with _ | q
  · exact .inl rfl
  · right
    intro e
    cases e
    have := (h.lt _ hv).1
    omega
theorem own_belowN {base n k : Nat} {W W' : World} {e : TypeId} {v : Value} {xs : List Value} (h : W.ownsRow base e k v n xs) (hb : Below W.heap.size W W') : W'.ownsRow base e k v n xs :=
  h.kept (row := none) ⟨hb.os, hb.tape, hb.output, hb.size, fun i hi _ => hb.block i hi⟩ (by
    rcases hv : v.ownBlock with _ | q
    · exact .inl rfl
    · exact .inr (by simp))
theorem own_castN {w : World} {base n n' k : Nat} {e : TypeId} {v : Value} {xs ys : List Value} (h : w.ownsRow base e k v n xs) (h1 : n = n') (h2 : xs = ys) : w.ownsRow base e k v n' ys := by subst h1 h2; exact h
/-- What Tokens answers. -/
def TksW (w : World) (o : Option (List (Nat × List UInt8))) (e : Ending) (w' : World) : Prop :=
  Below w.heap.size w w' ∧ match o with
  | none => e = .returned (.tuple #[.slice none 0 0, .int .i64 50])
  | some ts => ∃ u, e = .returned (.tuple #[u, .int .i64 0]) ∧ w'.ownsRow (w.heap.size + 1) 31 2 u ts.length (tokCells ts)
theorem tokW_nil : tokW [] = none := rfl
theorem toksW_no {g : Nat} {s : List UInt8} (h0 : s ≠ []) (h : tokW s = none) : toksW (g + 1) s = none := by
  cases s with
  | nil => exact absurd rfl h0
  | cons c r =>
    conv => lhs; unfold toksW
    rw [h]
set_option maxRecDepth 100000 in
set_option maxHeartbeats 4000000 in
theorem wtokens_nil (v : Value) (w : World) (hv : bytesArg w v []) : Calls Tryz.prog 13 #[v] w (TksW w (toksW 1 [])) := by
  obtain ⟨ao, cap, rfl, hc, hm, _⟩ := hv
  go_enter Tryz.func13, Tryz.ntmps13
  go_wp2_with fail
  refine wp_loop_rounds 1 ?_
  rw [rounds_succ]
  go_wp2
  go_ret2
  exact ⟨(Below.refl _ _).alloc (Nat.le_refl _) _, _, rfl, ⟨rfl, .inl ⟨rfl, rfl⟩⟩⟩
set_option maxRecDepth 100000 in
set_option maxHeartbeats 4000000 in
theorem wtokens_at (b off cap : Nat) (l : List UInt8) (w : World) (hlt : b < w.heap.size) (hc : l.length ≤ cap) (hm : cap ≤ maxLen) (hsm : l.length ≤ 1000000000) (hat : ∀ j, (h : j < l.length) → w.cell? ⟨b, off + j, none⟩ = some (byteV l[j])) :
    Calls Tryz.prog 13 #[.slice (some ⟨b, off, none⟩) l.length cap] w (TksW w (toksW (l.length + 1) l)) := by
  obtain ⟨i0, hi, hz⟩ := Option.map_eq_some_iff.1 Tryz.infoTok
  simp only [Prod.mk.injEq] at hz
  obtain ⟨hz0, hz1, hz2⟩ := hz
  obtain ⟨w0, hw0⟩ : ∃ x, x = w.alloc (.cells #[.slice (some ⟨b, off, none⟩) l.length cap, .int .i64 0] 52) := ⟨_, rfl⟩
  have HB0 : Hid (Below w.heap.size w w0) := by unfold Hid; rw [hw0]; exact (Below.refl _ _).alloc (Nat.le_refl _) _
  have HR0 : Hid (Rb w0 w.heap.size b off cap l 0) := by
    have h2 : B2 w0 w.heap.size 52 (.slice (some ⟨b, off, none⟩) l.length cap) (.int .i64 0) := by rw [hw0]; exact B2.new _ _ _ _
    exact ⟨h2.c0, h2.c1, h2.f 1, by omega, hc, hm, hsm, by have := HB0.out.size; omega, fun j hj => (HB0.out.cell (p := ⟨b, off + j, none⟩) hlt).trans (hat j hj)⟩
  have HTk := Lib.hid (fun j W (h : Rb W w.heap.size b off cap l j) hj => wtoken_any w.heap.size b off cap l j W h hj)
  have HW0 := Lib.hid hw0
  have hbase : w.heap.size + 1 ≤ w0.heap.size := HR0.out.ltB
  have HBlt := hlt
  clear hat hlt
  go_enter Tryz.func13, Tryz.ntmps13
  go_wp2_with fail
  rw [← HW0.out]
  clear hw0
  go_loopg [5] l.length (fun g v wr => ∃ (j n : Nat) (acc : List (Nat × List UInt8)), g = l.length - j ∧ j ≤ l.length ∧ acc.length ≤ j ∧ Hid ((l.drop j).length < n) ∧ Hid (Rb wr w.heap.size b off cap l j) ∧ Hid (Below w.heap.size w wr) ∧ Hid (w.heap.size + 1 ≤ wr.heap.size) ∧
    Hid (wr.ownsRow (w.heap.size + 1) 31 2 v acc.length (tokCells acc)) ∧ Hid (toksW (l.length + 1) l = (toksW n (l.drop j)).map fun ts => acc ++ ts))
  case atStart => exact ⟨0, l.length + 1, [], by omega, by omega, Nat.zero_le _, by unfold Hid; simp, HR0.out, HB0.out, hbase, ⟨rfl, .inl ⟨rfl, rfl⟩⟩, by unfold Hid; rw [List.drop_zero]; cases toksW (l.length + 1) l <;> rfl⟩
  case round =>
    obtain ⟨j, n, acc, rfl, hj, hal, HN, HRj, HB, HZ, HO, HS⟩ := hrel
    obtain ⟨n, rfl⟩ : ∃ m, n = m + 1 := ⟨n - 1, by have := HN.out; omega⟩
    have c0 := HRj.out.c0
    have c1 := HRj.out.c1
    by_cases hlt : j < l.length
    · have hd : ((j : Int) < (l.length : Int)) := by omega
      have HT1 := Lib.hid (HTk.out j wr HRj.out hlt)
      unfold TkW at HT1
      cases ht : tokW (l.drop j) with
      | none =>
        rw [ht] at HT1
        have HT1 := Lib.hid HT1.out
        simp only at HT1
        have HE : Hid (toksW (l.length + 1) l = none) := by
          unfold Hid
          rw [HS.out, toksW_no (fun e => by have := congrArg List.length e; rw [List.length_drop, List.length_nil] at this; omega) ht]
          rfl
        clear ht
        go_wp2_with fail
        with_reducible refine HT1.out.mono ?_
        rintro e w1 ⟨kd, t, rfl, hg1⟩
        have HB1 := Lib.hid (HB.out.trans (hg1.toBelow (Nat.le_refl _) HB.out.size))
        clear hg1
        go_wp2_with fail
        try rw [Exit.noGoto_ret]
        go_ret2
        rw [HE.out]
        exact ⟨HB1.out.alloc HB1.out.size _, rfl⟩
      | some p =>
        obtain ⟨kd, t, q⟩ := p
        rw [ht] at HT1
        have HT1 := Lib.hid HT1.out
        simp only at HT1
        have HE : Hid (toksW (l.length + 1) l = (toksW n q).map fun ts => (acc ++ [(kd, t)]) ++ ts) := by
          unfold Hid
          rw [HS.out, toks_step ht]
          cases toksW n q with
          | none => rfl
          | some ts => simp
        clear ht
        go_wp2_with fail
        with_reducible refine HT1.out.mono ?_
        rintro e w1 ⟨k1, rfl, hjk, hk1, hd1, hr1, hg1⟩
        have HR1 := Lib.hid hr1
        have HB1 := Lib.hid (HB.out.trans (hg1.toBelow (Nat.le_refl _) HB.out.size))
        have HO1 := Lib.hid (own_grN HO.out hg1 (Nat.lt_succ_self _))
        have HZ1 : Hid (w.heap.size + 1 ≤ w1.heap.size) := Nat.le_trans HZ.out hg1.size
        have HD1 := Lib.hid hd1
        clear hr1 hg1 hd1 HT1 c0 c1 HRj HB HO HZ
        go_wp2_with (at_builtin; refine wpList_append_own _ rfl _ _ 25 rfl (w.heap.size + 1) 31 i0 (.agg #[.int .i64 0, .string ⟨#[]⟩]) 2 24 Tryz.underlying25 hi hz0 hz1 hz2 rfl (by decide) _ acc.length (tokCells acc) rfl (own_belowN HO1.out ?ca) ⟨w1.heap.size + 1, 0, none⟩ 1 1 [.int .i64 (kd : Int), .string ⟨t.toArray⟩] rfl rfl ?c1 ?c2 ?c3 ?c4 ?c5 ?_)
        case ca => exact ((Below.refl w1.heap.size w1).alloc (Nat.le_refl _) _).alloc (by simp) _
        case c1 => simpa using cells_two_new (w1.alloc (.cells #[.int .i64 (kd : Int), .string ⟨t.toArray⟩] 31)) 31 (.int .i64 (kd : Int)) (.string ⟨t.toArray⟩)
        case c2 => intro u hu; simp at hu; rcases hu with rfl | rfl <;> rfl
        case c3 => unfold maxLen; omega
        case c4 => omega
        case c5 => have := HZ1.out; simp; omega
        intro v3 w3 hown3 hgrow3 _
        have HA3 : Hid (Below w1.heap.size w1 ((w1.alloc (.cells #[.int .i64 (kd : Int), .string ⟨t.toArray⟩] 31)).alloc (.cells #[.int .i64 (kd : Int), .string ⟨t.toArray⟩] 31))) := ((Below.refl w1.heap.size w1).alloc (Nat.le_refl _) _).alloc (by simp) _
        have hlow : Below (w.heap.size + 1) w1 w3 := (HA3.out.mono HZ1.out).trans (below_grown hgrow3 (fun q hq => (HO1.out.lt q hq).1) (by have := HA3.out.size; have := HZ1.out; omega))
        have HR3 := Lib.hid (HR1.out.low hlow (Nat.lt_succ_self _) (by have := HR1.out.ne; have := HBlt; omega))
        have HB3 := Lib.hid (HB1.out.trans (hlow.mono (Nat.le_succ _)))
        have HZ3 : Hid (w.heap.size + 1 ≤ w3.heap.size) := Nat.le_trans HZ1.out hlow.size
        have HO3 : Hid (w3.ownsRow (w.heap.size + 1) 31 2 v3 (acc ++ [(kd, t)]).length (tokCells (acc ++ [(kd, t)]))) := own_castN hown3 (by simp) (by rw [tokCells_snoc]; rfl)
        clear hown3 hgrow3 hlow HA3 HR1 HB1 HO1 HZ1
        go_wp2_with fail
        go_roundg (l.length - k1)
        case measure => omega
        case rel =>
          refine ⟨k1, n, acc ++ [(kd, t)], rfl, hk1, by simp; omega, ?_, HR3.out, HB3.out, HZ3.out, HO3.out, ?_⟩
          · have h1 := HN.out
            unfold Hid
            simp only [List.length_drop] at h1 ⊢
            omega
          · unfold Hid
            rw [HE.out, HD1.out]
    · have HE : Hid (toksW (l.length + 1) l = some acc) := by
        unfold Hid
        rw [HS.out, List.drop_eq_nil_of_le (by omega : l.length ≤ j), toks_nil]
        simp
      go_wp2_with fail
      try simp only [Exit.noGoto_normal]
      go_ret2
      rw [HE.out]
      exact ⟨HB.out, _, rfl, HO.out⟩
theorem wtokens_any (v : Value) (l : List UInt8) (w : World) (hv : bytesArg w v l) (hsm : l.length ≤ 1000000000) : Calls Tryz.prog 13 #[v] w (TksW w (toksW (l.length + 1) l)) := by
  by_cases h0 : l = []
  · subst h0
    exact wtokens_nil v w hv
  · obtain ⟨ao, cap, rfl, hc, hm, hs⟩ := hv
    rcases hs with hs | ⟨b, off, rfl, hlt, hat⟩
    · exact absurd hs h0
    · exact wtokens_at b off cap l w hlt hc hm hsm hat
end Go.Proofs.YtkkdplccneeaiaaGreatDoor
