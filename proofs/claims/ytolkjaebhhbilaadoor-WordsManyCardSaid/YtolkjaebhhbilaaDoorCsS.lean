/- Contracts of package charset: bytes that are a character each, both ways. -/
import Derived.Test.YtolkjaebhhbilaaDoorCsK
import Derived.Test.YtolkjaebhhbilaaDoorShelf
import Derived.Test.YtolkjaebhhbilaaDoorApp
import Derived.Laws.MakeOwn
import Derived.Lib.OthersKept
namespace Go.Proofs.YtolkjaebhhbilaaDoor
open Go Go.RowKit

def textV : Option (List UInt8) → Value
  | some t => .tuple #[.string ⟨t.toArray⟩, .bool true]
  | none => .tuple #[.string ⟨#[]⟩, .bool false]
theorem runeCells_enc8 (c : UInt8) : Lib.runeCells (c.toNat : Int) = (enc8 c).map byteV := by
  rw [← Lib.byteCells_encodeRune, ← enc8_rune c.toNat c.toNat_lt, byteN_self]
  rfl
theorem textM_none {m : Nat} {l : List UInt8} {k : Nat} (hk : k < l.length) (h : m < (l[k]).toNat) : textM m l = none := by
  unfold textM
  rw [if_neg]
  intro ha
  have := List.all_eq_true.1 ha l[k] (List.getElem_mem hk)
  have := of_decide_eq_true this
  omega
set_option maxRecDepth 100000 in
set_option maxHeartbeats 4000000 in
theorem rawSingle_any (m : Nat) (_hm : m ≤ 255) (v : Value) (l : List UInt8) (w : World) (hv : bytesArg w v l) (hl : l.length ≤ 1000000) :
    Calls Tryd.prog 68 #[v, .int .i32 (m : Int)] w fun e w' => e = .returned (textV (textM m l)) ∧ Below w.heap.size w w' := by
  obtain ⟨i0, hi, hz0, hz1, hz2⟩ := info_parts Tryd.infoB
  obtain ⟨ao, cap, rfl, hc, hmx, hs⟩ := hv
  have HS : Hid (sliceAt w ao l) := hs
  unfold maxLen at hmx
  obtain ⟨wm, hmk, hownm, hgm⟩ := run_make_own (P := Tryd.prog) w w.heap.size 26 5 i0 (.int .u8 0) 1 Tryd.underlying26 hi hz0 hz1 .i64 .i64 l.length (by rw [hz2]; omega) (by unfold maxLen; omega) (Nat.le_refl _)
  have HOm := Lib.hid hownm
  have HBm : Hid (Below w.heap.size w wm) := (Below.refl w.heap.size w).grown hgm (Nat.le_refl _) (by intro q hq; cases hq)
  have HAr := Lib.hid (fun v n xs (c : UInt8) W h h1 h2 => Tryd.utf8_AppendRune_plain w.heap.size v n xs (c.toNat : Int) (by omega) (by have := c.toNat_lt; omega) W h h1 h2)
  clear hs hownm hgm
  go_enter Tryd.func68, Tryd.ntmps68
  go_wp2_with fail
  go_loopg [6, 15] l.length (fun g o v15 wr => ∃ (k : Nat), k ≤ l.length ∧ g = l.length - k ∧ v15 = .int .i64 (k : Int) ∧ wr.ownsRow w.heap.size 5 1 o ((l.take k).flatMap enc8).length (((l.take k).flatMap enc8).map byteV) ∧ ((l.take k).flatMap enc8).length ≤ 2 * k ∧ Hid ((l.take k).all (fun c => decide (c.toNat ≤ m)) = true) ∧ Hid (Below w.heap.size w wr))
  case atStart => exact ⟨0, by omega, by omega, rfl, HOm.out, by simp, rfl, HBm.out⟩
  case round =>
    obtain ⟨k, hk, rfl, rfl, hown, hlen, HA, HB⟩ := hrel
    have HO := Lib.hid hown
    clear hown
    by_cases hlt : k < l.length
    · have HT := Lib.hid (take_snocL l k hlt)
      obtain ⟨b, off, rfl, hb, hcell⟩ := HS.out.cell k hlt
      have hcell' : wr.cell? ⟨b, off + k, none⟩ = some (.int .u8 (l[k].toNat : Int)) := (HB.out.cell (p := ⟨b, off + k, none⟩) hb).trans hcell
      have HNo := Lib.hid (fun h => textM_none (m := m) hlt h)
      obtain ⟨c, hcc⟩ : ∃ c, c = l[k] := ⟨_, rfl⟩
      rw [← hcc] at hcell' HT HNo
      have hct := c.toNat_lt
      clear hcell hb hcc
      by_cases hgt : m < c.toNat
      · have hgz : (m : Int) < (c.toNat : Int) := by omega
        have HN := Lib.hid (HNo.out hgt)
        go_wp2_with fail
        go_ret2
        exact ⟨by rw [HN.out]; rfl, HB.out⟩
      · have hgz : ¬ (m : Int) < (c.toNat : Int) := by omega
        have HAr1 := Lib.hid (HAr.out _ _ _ c wr HO.out (by omega) HB.out.size)
        rw [runeCells_enc8] at HAr1
        clear HNo
        go_wp2_with fail
        with_reducible refine HAr1.out.mono ?_
        rintro e w2 ⟨v2, rfl, hown2, o2, hgrow2⟩
        have HO2 := Lib.hid hown2
        have HB2 : Hid (Below w.heap.size w w2) := (HB.out.alloc HB.out.size o2).grown hgrow2 (HB.out.alloc HB.out.size o2).size (fun q hq => (HO.out.lt q hq).1)
        clear hown2 hgrow2 HAr1
        go_wp2_with fail
        go_roundg (l.length - (k + 1))
        case measure => omega
        case rel =>
          have he := (enc8_len c).2
          refine ⟨k + 1, by omega, rfl, by go_num, own_cast HO2.out ?_ ?_, ?_, ?_, HB2.out⟩
          · rw [HT.out]; simp
          · rw [HT.out]; simp
          · rw [HT.out, List.flatMap_append, List.length_append, List.flatMap_cons, List.flatMap_nil, List.append_nil]; omega
          · unfold Hid
            rw [HT.out, List.all_append, HA.out]
            simp
            omega
    · have hk2 : l.take k = l := List.take_of_length_le (by omega)
      rw [hk2] at HO HA
      have hst := run_string_of_owned (P := Tryd.prog) Tryd.underlying26 Tryd.underlying5 Tryd.underlying9 HO.out
      have HR : Hid (textM m l = some (l.flatMap enc8)) := by unfold Hid textM; rw [if_pos HA.out]
      go_wp2_with fail
      go_ret2
      exact ⟨by rw [HR.out]; rfl, HB.out⟩

theorem own_iter {w : World} {base n k : Nat} {e : TypeId} {v : Value} {xs : List Value} {s : ByteArray} {pos : Nat} (h : w.ownsRow base e 1 v n xs) (hk : w.heap[k]? = some (.stringIter s pos)) (pos' : Nat) : (w.iterAt k s pos').ownsRow base e 1 v n xs ∧ ∀ q, v.ownBlock = some q → q ≠ k := by
  have hne : ∀ q, v.ownBlock = some q → q ≠ k := by
    intro q hq e
    subst e
    rcases h.2 with ⟨rfl, _⟩ | ⟨g, cap, cur, rfl, _, hh, _⟩
    · cases hq
    · have : g = q := by simpa [Value.ownBlock] using hq
      subst this
      rw [hk] at hh
      cases hh
  refine ⟨h.kept (row := some k) ⟨rfl, rfl, rfl, by rw [Lib.iterAt_size]; exact Nat.le_refl _, fun j _ hj => Lib.iterAt_other w k j s pos' (fun e => hj (by rw [e]))⟩ ?_, hne⟩
  cases hv : v.ownBlock with
  | none => exact .inl rfl
  | some q => exact .inr (fun e => hne q hv (Option.some.inj e))
/-- What is there of the answer, and what is left. -/
def singV : Option (List UInt8) → Value → World → Nat → World → Prop
  | some t, v, w', base, _ => ∃ u, v = .tuple #[u, .bool true] ∧ w'.ownsRow base 5 1 u t.length (t.map byteV)
  | none, v, _, _, _ => v = .tuple #[.slice none 0 0, .bool false]
set_option maxRecDepth 100000 in
set_option maxHeartbeats 4000000 in
theorem txtSingle_any (m : Nat) (hm : m ≤ 255) (s : ByteArray) (w : World) (hl : s.size ≤ 1000000) :
    Calls Tryd.prog 69 #[.string s, .int .i32 (m : Int)] w fun e w' => (∃ v, e = .returned v ∧ singV (singM m s.data.toList) v w' w.heap.size w) ∧ Below w.heap.size w w' := by
  obtain ⟨i0, hi, hz0, hz1, hz2⟩ := info_parts Tryd.infoB
  obtain ⟨wm, hmk, hownm, hgm⟩ := run_make_own (P := Tryd.prog) w w.heap.size 26 5 i0 (.int .u8 0) 1 Tryd.underlying26 hi hz0 hz1 .i64 .i64 s.size (by rw [hz2]; omega) (by unfold maxLen; omega) (Nat.le_refl _)
  have HOm := Lib.hid hownm
  have HBm : Hid (Below w.heap.size w wm) := (Below.refl w.heap.size w).grown hgm (Nat.le_refl _) (by intro q hq; cases hq)
  clear hownm hgm
  go_enter Tryd.func69, Tryd.ntmps69
  go_wp2_with fail
  obtain ⟨K, hK⟩ : ∃ K, K = wm.heap.size := ⟨_, rfl⟩
  rw [← hK]
  have hKw : w.heap.size ≤ K := by rw [hK]; exact HBm.out.size
  have HIt : Hid ((wm.iter s 0).heap[K]? = some (.stringIter s 0)) := by unfold Hid; rw [hK]; exact World.iter_heap wm s 0
  have HBi : Hid (Below w.heap.size w (wm.iter s 0)) := HBm.out.alloc HBm.out.size _
  have HOi : Hid ((wm.iter s 0).ownsRow w.heap.size 5 1 (.slice (some ⟨w.heap.size, 0, none⟩) 0 s.size) 0 []) := HOm.out.alloc _
  clear hK hmk
  go_loopg [6] (s.size + 1) (fun g o wr => ∃ (pos : Nat) (acc : List UInt8), g = s.size + 1 - pos ∧ pos ≤ s.size ∧ acc.length ≤ pos ∧ Hid (wr.ownsRow w.heap.size 5 1 o acc.length (acc.map byteV)) ∧ Hid (wr.heap[K]? = some (.stringIter s pos)) ∧ Hid (Below w.heap.size w wr) ∧
    Hid (singM m s.data.toList = (singM m (s.data.toList.drop pos)).map (fun r => acc ++ r)))
  case atStart => exact ⟨0, [], by omega, by omega, by simp, HOi.out, HIt.out, HBi.out, by unfold Hid; rw [List.drop_zero]; cases singM m s.data.toList <;> rfl⟩
  case round =>
    obtain ⟨pos, acc, rfl, hpos, hal, HO, HI, HB, HS⟩ := hrel
    by_cases hlt : pos < s.size
    · have hnx : ∀ ty, (Instr.next (.pointer (some ⟨K, 0, none⟩)) true ty).run Tryd.prog wr = .ok (.tuple #[.bool true, .int .i64 (pos : Int), .int .i32 ((Utf8.decode s pos).1 : Int)]) (wr.iterAt K s (pos + (Utf8.decode s pos).2)) := fun ty => Lib.run_next_any_at wr K s pos ty HI.out hlt
      have hne : s.data.toList.drop pos ≠ [] := by
        intro e
        have := congrArg List.length e
        rw [List.length_drop, len_toList] at this
        simp at this
        omega
      have hd := Lib.decodeL_drop s pos
      have HSt := Lib.hid (singM_step m hne)
      rw [hd] at HSt
      have hwid := Lib.decodeL_width (s.data.toList.drop pos)
      have hle := Lib.decodeL_le _ hne
      rw [hd] at hwid hle
      rw [List.length_drop, len_toList] at hle
      have hrl := Lib.decodeL_rune (s.data.toList.drop pos)
      rw [hd] at hrl
      obtain ⟨R, hR⟩ : ∃ R, R = (Utf8.decode s pos).1 := ⟨_, rfl⟩
      obtain ⟨D, hD⟩ : ∃ D, D = (Utf8.decode s pos).2 := ⟨_, rfl⟩
      rw [← hR, ← hD] at hnx
      rw [← hR] at HSt hrl
      rw [← hD] at HSt hwid hle
      rw [List.drop_drop] at HSt
      have HOi := Lib.hid (own_iter HO.out HI.out (pos + D))
      have HIi := Lib.hid (Lib.iterAt_heap wr K s pos (pos + D) HI.out)
      have HBx := Lib.hid (Lib.below_iterAt HB.out hKw s (pos + D))
      clear hd hR hD hne
      by_cases hgt : m < R
      · have hgz : (m : Int) < (R : Int) := by omega
        have HN : Hid (singM m s.data.toList = none) := by unfold Hid; rw [HS.out, HSt.out, if_pos hgt]; rfl
        go_wp2_with fail
        go_ret2
        refine ⟨⟨_, rfl, ?_⟩, HBx.out⟩
        rw [HN.out]
        rfl
      · have hgz : ¬ (m : Int) < (R : Int) := by omega
        have hR256 : R < 256 := by omega
        have HSx : Hid (singM m (s.data.toList.drop pos) = (singM m (s.data.toList.drop (pos + D))).map (fun r => byteN R :: r)) := by unfold Hid; rw [HSt.out, if_neg hgt]
        obtain ⟨wi, hwi⟩ : ∃ wi, wi = wr.iterAt K s (pos + D) := ⟨_, rfl⟩
        rw [← hwi] at hnx HOi HIi HBx
        have HRb : Hid (byteV (byteN R) = .int .u8 (R : Int)) := by unfold Hid byteV; rw [byteN_toNat R hR256]
        have hw8 : IntKind.u8.wrap (R : Int) = (R : Int) := wraps_u8 _ (by omega) (by omega)
        clear hwi HSt
        go_wp2_with (at_builtin; refine wpList_append_own _ rfl _ _ 26 rfl w.heap.size 5 i0 (.int .u8 0) 1 1 Tryd.underlying26 hi hz0 hz1 hz2 rfl (by decide) _ _ _ rfl (HOi.out.1.alloc _) ⟨wi.heap.size, 0, none⟩ 1 1 [byteV (byteN R)] rfl rfl ?c1 ?c2 ?c3 ?c4 ?c5 ?_)
        case c1 => first | (rw [HRb.out]; exact cell_one_new wi _ _) | (rw [HRb.out]; exact fun j u hu => hu)
        case c2 => first | exact news_one [byteN R] | rfl
        case c3 => unfold maxLen; omega
        case c4 => omega
        case c5 => have := HBx.out.size; first | (simp; omega) | omega
        intro v2 w2 hown2 hgrow2 _
        have HO2 := Lib.hid hown2
        have hKi : K < wi.heap.size := (Array.getElem?_eq_some_iff.1 HIi.out).1
        have HB2 : Hid (Below w.heap.size w w2) := (HBx.out.alloc HBx.out.size _).grown hgrow2 (HBx.out.alloc HBx.out.size _).size (fun q hq => (HOi.out.1.lt q hq).1)
        have HI2 : Hid (w2.heap[K]? = some (.stringIter s (pos + D))) := (hgrow2.block K (by simp; omega) (fun e => HOi.out.2 K e.symm rfl)).trans ((Below.heap_alloc _ _ _ hKi).trans HIi.out)
        clear hown2 hgrow2
        go_wp2_with fail
        go_roundg (s.size + 1 - (pos + D))
        case measure => omega
        case rel =>
          refine ⟨pos + D, acc ++ [byteN R], rfl, by omega, by simp; omega, own_cast HO2.out (by simp) (by simp), HI2.out, HB2.out, ?_⟩
          unfold Hid
          rw [HS.out, HSx.out]
          cases singM m (s.data.toList.drop (pos + D)) <;> simp
    · have hnx : ∀ ty, (Instr.next (.pointer (some ⟨K, 0, none⟩)) true ty).run Tryd.prog wr = .ok (.tuple #[.bool false]) wr := fun ty => Lib.run_next_end_at wr K s pos ty HI.out hlt
      have HE : Hid (singM m s.data.toList = some acc) := by
        unfold Hid
        rw [HS.out, List.drop_eq_nil_of_le (by rw [len_toList]; omega), singM_nil]
        simp
      go_wp2_with fail
      go_ret2
      refine ⟨⟨_, rfl, ?_⟩, HB.out⟩
      rw [HE.out]
      exact ⟨_, rfl, HO.out⟩
end Go.Proofs.YtolkjaebhhbilaaDoor
