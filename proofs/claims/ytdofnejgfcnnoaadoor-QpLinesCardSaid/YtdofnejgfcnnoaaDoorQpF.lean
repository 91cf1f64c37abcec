/- Contracts of package qp: Encode. -/
import Derived.Test.YtdofnejgfcnnoaaDoorQpE
import Derived.Deep.AppendLies
import Derived.Deep.RegionLaw
namespace Go.Proofs.YtdofnejgfcnnoaaDoor
open Go Go.RowKit

def digA : ByteArray := ⟨#[48, 49, 50, 51, 52, 53, 54, 55, 56, 57, 65, 66, 67, 68, 69, 70]⟩
theorem digA_at (n : Nat) (h : n < 16) : digA[n]'h = digB n := by
  have : ∀ n, n < 16 → digA.data.toList.getD n 0 = digB n := by decide
  have := this n h
  rw [← this, List.getD_eq_getElem?_getD, bytes_get digA n h]
  rfl
theorem and15 (b : UInt8) : bits .and .u8 (b.toNat : Int) 15 = ((b.toNat % 16 : Nat) : Int) := by
  have := and_u8 b.toNat 15 b.toNat_lt (by omega)
  rw [show (15 : Nat) = 2 ^ 4 - 1 from rfl, Nat.and_two_pow_sub_one_eq_mod] at this
  exact this
theorem encB_one {c : UInt8} (h : seenB c = true) (h1 : c ≠ 61) : encB c = [c] := by unfold encB; rw [if_pos ⟨h, h1⟩]
theorem encB_three {c : UInt8} (h : ¬ (seenB c = true ∧ c ≠ 61)) : encB c = [61, digB (c.toNat / 16), digB (c.toNat % 16)] := by unfold encB; rw [if_neg h]
theorem encQ_snoc (l : List UInt8) (c : UInt8) : encQ (l ++ [c]) = encQ l ++ encB c := by rw [encQ_append, encQ_cons]; simp [encQ]
theorem cells_three_new (w : World) (t : TypeId) (x y z : Value) : ∀ j q, [x, y, z][j]? = some q → (w.alloc (.cells #[x, y, z] t)).cell? ((⟨w.heap.size, 0, none⟩ : Addr).add j) = some q := by
  intro j q hu
  rw [Addr.add_lit]
  match j, hu with
  | 0, hu => simp only [World.cell?, heap_alloc_new]; simpa using hu
  | 1, hu => simp only [World.cell?, heap_alloc_new]; simpa using hu
  | 2, hu => simp only [World.cell?, heap_alloc_new]; simpa using hu
  | j + 3, hu => simp at hu

set_option maxHeartbeats 1000000 in
theorem encode_any (v : Value) (l : List UInt8) (w : World) (hv : bytesArg w v l) (hl : l.length ≤ 1000000) :
    Calls Tryd.prog 10 #[v] w fun e w' => ∃ u, e = .returned u ∧ w'.ownsRow w.heap.size 5 1 u (encQ l).length ((encQ l).map byteV) ∧ Below w.heap.size w w' := by
  obtain ⟨i0, hi, hz0, hz1, hz2⟩ := info_parts Tryd.infoB
  obtain ⟨ao, cap, rfl, hc, hm, hs⟩ := hv
  have HS : Hid (sliceAt w ao l) := hs
  clear hs
  unfold maxLen at hm
  go_enter Tryd.func10, Tryd.ntmps10
  go_wp2
  go_loopg [3, 8] l.length (fun g o v wr => ∃ (k : Nat) (r : List UInt8), k ≤ l.length ∧ g = l.length - k ∧ v = .int .i64 k ∧ r.length ≤ 3 * k ∧ wr.ownsRow w.heap.size 5 1 o r.length (r.map byteV) ∧ Hid (r = encQ (l.take k)) ∧ Hid (Below w.heap.size w wr))
  case atStart => exact ⟨0, [], by omega, by omega, rfl, by simp, World.ownsRow_nil _ _ _ _, by unfold Hid; simp [encQ], Below.refl _ _⟩
  case round =>
    obtain ⟨k, r, hk, rfl, rfl, hr, hown, HR, HB⟩ := hrel
    have HO := Lib.hid hown
    clear hown
    by_cases hlt : k < l.length
    · have HT := Lib.hid (take_snocL l k hlt)
      obtain ⟨b, off, rfl, hb, hcell⟩ := HS.out.cell k hlt
      have hcell' : wr.cell? ⟨b, off + k, none⟩ = some (.int .u8 (l[k].toNat : Int)) := (HB.out.cell (p := ⟨b, off + k, none⟩) hb).trans hcell
      obtain ⟨c, hcc⟩ : ∃ c, c = l[k] := ⟨_, rfl⟩
      rw [← hcc] at hcell' HT
      have hct := c.toNat_lt
      have HF := Lib.hid (seen_any c wr)
      clear hcell hb hcc
      by_cases hen : seenB c = true ∧ c ≠ 61
      · have HE := Lib.hid (encB_one hen.1 hen.2)
        have H1 := Lib.hid hen.1
        have t61 : ((c.toNat : Int) != 61) = true := bne_yes fun e => hen.2 (toNat_eq (by show c.toNat = 61; omega))
        clear hen
        go_wp2_with fail
        with_reducible refine HF.out.mono ?_
        rintro e w1 ⟨rfl, rfl⟩
        rw [H1.out]
        go_wp2_with (at_builtin; refine wpList_append_own _ rfl _ _ 22 rfl w.heap.size 5 i0 (.int .u8 0) 1 1 Tryd.underlying22 hi hz0 hz1 hz2 rfl (by decide) _ _ _ rfl (HO.out.alloc _) ⟨wr.heap.size, 0, none⟩ 1 1 [byteV c] rfl rfl ?c1 ?c2 ?c3 ?c4 ?c5 ?_)
        case c1 => exact cell_one_new wr _ _
        case c2 => exact news_one [c]
        case c3 => unfold maxLen; omega
        case c4 => omega
        case c5 => simp; have := HB.out.size; omega
        intro v2 w2 hown2 hgrow2 _
        have HO2 := Lib.hid hown2
        have HB2 : Hid (Below w.heap.size w w2) := (HB.out.alloc (by have := HB.out.size; omega) _).grown hgrow2 (by have := HB.out.size; simp; omega) (fun q hq => (HO.out.lt q hq).1)
        clear hown2 hgrow2
        go_wp2
        go_roundg (l.length - (k + 1))
        case measure => omega
        case rel => exact ⟨k + 1, r ++ [c], by omega, rfl, by go_num, by simp; omega, own_cast HO2.out (by simp) (by simp), by unfold Hid; rw [HT.out, encQ_snoc, ← HR.out, HE.out], HB2⟩
      · have HE := Lib.hid (encB_three hen)
        have hi1 : c.toNat / 16 < 16 := by omega
        have hi2 : c.toNat % 16 < 16 := by omega
        have e15 := and15 c
        obtain ⟨x, hx⟩ : ∃ x, x = c.toNat / 16 := ⟨_, rfl⟩
        obtain ⟨y, hy⟩ : ∃ y, y = c.toNat % 16 := ⟨_, rfl⟩
        rw [← hy] at e15 hi2
        have e4 : (c.toNat : Int) / 16 = (x : Int) := by omega
        rw [← hx] at hi1
        rw [← hx, ← hy] at HE
        have d1 : (⟨#[48, 49, 50, 51, 52, 53, 54, 55, 56, 57, 65, 66, 67, 68, 69, 70]⟩ : ByteArray)[x]'hi1 = digB x := digA_at x hi1
        have d2 : (⟨#[48, 49, 50, 51, 52, 53, 54, 55, 56, 57, 65, 66, 67, 68, 69, 70]⟩ : ByteArray)[y]'hi2 = digB y := digA_at y hi2
        have b1 : (x : Int) < 16 := by omega
        have b2 : (y : Int) < 16 := by omega
        have HXY := Lib.hid (And.intro hx hy)
        clear hx hy
        have hor : (seenB c = false) ∨ (seenB c = true ∧ ((c.toNat : Int) != 61) = false) := by
          rcases Bool.eq_false_or_eq_true (seenB c) with h | h
          · right
            refine ⟨h, ?_⟩
            rw [show c = 61 from Classical.byContradiction fun h' => hen ⟨h, h'⟩]
            rfl
          · exact .inl h
        clear hen
        rcases hor with h1 | ⟨h1, h2⟩
        · have H1 := Lib.hid h1
          clear h1
          have HOd : Hid (World.ownsRow (wr.alloc (.cells #[.int .u8 61, .int .u8 ((digB x).toNat : Int), .int .u8 ((digB y).toNat : Int)] 5)).drew w.heap.size 5 1 _ r.length (r.map byteV)) := ownsRow_below (HO.out.alloc _) (Below.refl _ _).drew
          have HNd : Hid (∀ j q, [byteV 61, byteV (digB x), byteV (digB y)][j]? = some q → (wr.alloc (.cells #[.int .u8 61, .int .u8 ((digB x).toNat : Int), .int .u8 ((digB y).toNat : Int)] 5)).drew.cell? ((⟨wr.heap.size, 0, none⟩ : Addr).add j) = some q) := cells_three_new wr _ _ _ _
          have HBd : Hid (Below w.heap.size w (wr.alloc (.cells #[.int .u8 61, .int .u8 ((digB x).toNat : Int), .int .u8 ((digB y).toNat : Int)] 5)).drew) := (HB.out.alloc HB.out.size _).drew
          go_wp2_with fail
          with_reducible refine HF.out.mono ?_
          rintro e w1 ⟨rfl, rfl⟩
          rw [H1.out]
          go_wp2
          go_region_law ((refine step_append_lies _ (by exact rfl) _ _ 22 (by exact rfl) w.heap.size 5 i0 (.int .u8 0) 1 1 Tryd.underlying22 hi hz0 hz1 hz2 rfl (by decide) _ _ _ (by exact rfl) HOd.out ⟨wr.heap.size, 0, none⟩ 3 3 [byteV 61, byteV (digB x), byteV (digB y)] (by exact rfl) rfl HNd.out (news_one [61, digB x, digB y]) (by decide) (by unfold maxLen; omega) (by omega) HBd.out.size _ rfl ?_; intro g2 cap2 w2 hown2 hgrow2 _ _))
          all_goals
            have HO2 := Lib.hid hown2
            have HB2 : Hid (Below w.heap.size w w2) := HBd.out.grown hgrow2 HBd.out.size (fun q hq => (HOd.out.lt q hq).1)
            clear hown2 hgrow2
            go_wp2
            go_roundg (l.length - (k + 1))
            case measure => omega
            case rel => exact ⟨k + 1, r ++ [61, digB x, digB y], by omega, rfl, by go_num, by simp; omega, own_cast HO2.out (by simp) (by simp), by unfold Hid; rw [HT.out, encQ_snoc, ← HR.out, HE.out], HB2⟩
        · have H1 := Lib.hid h1
          clear h1
          have HOd : Hid (World.ownsRow (wr.alloc (.cells #[.int .u8 61, .int .u8 ((digB x).toNat : Int), .int .u8 ((digB y).toNat : Int)] 5)).drew w.heap.size 5 1 _ r.length (r.map byteV)) := ownsRow_below (HO.out.alloc _) (Below.refl _ _).drew
          have HNd : Hid (∀ j q, [byteV 61, byteV (digB x), byteV (digB y)][j]? = some q → (wr.alloc (.cells #[.int .u8 61, .int .u8 ((digB x).toNat : Int), .int .u8 ((digB y).toNat : Int)] 5)).drew.cell? ((⟨wr.heap.size, 0, none⟩ : Addr).add j) = some q) := cells_three_new wr _ _ _ _
          have HBd : Hid (Below w.heap.size w (wr.alloc (.cells #[.int .u8 61, .int .u8 ((digB x).toNat : Int), .int .u8 ((digB y).toNat : Int)] 5)).drew) := (HB.out.alloc HB.out.size _).drew
          go_wp2_with fail
          with_reducible refine HF.out.mono ?_
          rintro e w1 ⟨rfl, rfl⟩
          rw [H1.out]
          go_wp2
          go_region_law ((refine step_append_lies _ (by exact rfl) _ _ 22 (by exact rfl) w.heap.size 5 i0 (.int .u8 0) 1 1 Tryd.underlying22 hi hz0 hz1 hz2 rfl (by decide) _ _ _ (by exact rfl) HOd.out ⟨wr.heap.size, 0, none⟩ 3 3 [byteV 61, byteV (digB x), byteV (digB y)] (by exact rfl) rfl HNd.out (news_one [61, digB x, digB y]) (by decide) (by unfold maxLen; omega) (by omega) HBd.out.size _ rfl ?_; intro g2 cap2 w2 hown2 hgrow2 _ _))
          all_goals
            have HO2 := Lib.hid hown2
            have HB2 : Hid (Below w.heap.size w w2) := HBd.out.grown hgrow2 HBd.out.size (fun q hq => (HOd.out.lt q hq).1)
            clear hown2 hgrow2
            go_wp2
            go_roundg (l.length - (k + 1))
            case measure => omega
            case rel => exact ⟨k + 1, r ++ [61, digB x, digB y], by omega, rfl, by go_num, by simp; omega, own_cast HO2.out (by simp) (by simp), by unfold Hid; rw [HT.out, encQ_snoc, ← HR.out, HE.out], HB2⟩
    · go_wp2
      go_ret
      have hk2 : l.take k = l := List.take_of_length_le (by omega)
      have e : encQ l = r := by rw [HR.out, hk2]
      exact ⟨_, rfl, by rw [e]; exact HO.out, HB.out⟩
end Go.Proofs.YtdofnejgfcnnoaaDoor
