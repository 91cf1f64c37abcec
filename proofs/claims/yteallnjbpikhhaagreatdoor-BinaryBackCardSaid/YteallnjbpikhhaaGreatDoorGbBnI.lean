/- Contracts of package qp: Encode. -/
import Derived.Test.YteallnjbpikhhaaGreatDoorGbQpE
import Derived.Deep.AppendLies
import Derived.Deep.RegionLaw
import Derived.Test.YteallnjbpikhhaaGreatDoorGbBnF
import Derived.Test.YteallnjbpikhhaaGreatDoorGbB64D
import Derived.Test.YteallnjbpikhhaaGreatDoorGbHdrG
namespace Go.Proofs.YteallnjbpikhhaaGreatDoor
open Go Go.RowKit

def digA : ByteArray := ⟨#[48, 49, 50, 51, 52, 53, 54, 55, 56, 57, 65, 66, 67, 68, 69, 70]⟩
theorem digA_at (n : Nat) (h : n < 16) : digA[n]'h = digB n := by
  have : ∀ n, n < 16 → digA.data.toList.getD n 0 = digB n := by decide
  have := this n h
  rw [← this, List.getD_eq_getElem?_getD, bytes_get digA n h]
  rfl
theorem and15 (b : UInt8) : bits .and .u8 (b.toNat : Int) 15 = ((b.toNat % 16 : Nat) : Int) := by
  have := and_u8 b.toNat 15 b.toNat_lt (by omega)
  rw [show (15 : Nat) = 2 ^ 4 - 1 from rfl, Nat.and_two_pow_sub_one_eq_mod] at this
  exact this
theorem encB_one {c : UInt8} (h : seenB c = true) (h1 : c ≠ 61) : encB c = [c] := by unfold encB; rw [if_pos ⟨h, h1⟩]
theorem encB_three {c : UInt8} (h : ¬ (seenB c = true ∧ c ≠ 61)) : encB c = [61, digB (c.toNat / 16), digB (c.toNat % 16)] := by unfold encB; rw [if_neg h]
theorem encQ_snoc (l : List UInt8) (c : UInt8) : encQ (l ++ [c]) = encQ l ++ encB c := by rw [encQ_append, encQ_cons]; simp [encQ]
theorem cells_three_newQ (w : World) (t : TypeId) (x y z : Value) : ∀ j q, [x, y, z][j]? = some q → (w.alloc (.cells #[x, y, z] t)).cell? ((⟨w.heap.size, 0, none⟩ : Addr).add j) = some q := by
  intro j q hu
  rw [Addr.add_lit]
  match j, hu with
  | 0, hu => simp only [World.cell?, heap_alloc_new]; simpa using hu
  | 1, hu => simp only [World.cell?, heap_alloc_new]; simpa using hu
  | 2, hu => simp only [World.cell?, heap_alloc_new]; simpa using hu
  | j + 3, hu => simp at hu

set_option maxHeartbeats 1000000 in
theorem encode_anyQ (v : Value) (l : List UInt8) (w : World) (hv : bytesArg w v l) (hl : l.length ≤ 1000000) :
    Calls Tryz.prog 7 #[v] w fun e w' => ∃ u, e = .returned u ∧ w'.ownsRow w.heap.size 5 1 u (encQ l).length ((encQ l).map byteV) ∧ Below w.heap.size w w' := by
  obtain ⟨i0, hi, hz0, hz1, hz2⟩ := info_parts Tryz.infoB
  obtain ⟨ao, cap, rfl, hc, hm, hs⟩ := hv
  have HS : Hid (sliceAt w ao l) := hs
  clear hs
  unfold maxLen at hm
  go_enter Tryz.func7, Tryz.ntmps7
  go_wp2
  go_loopg [3, 8] l.length (fun g o v wr => ∃ (k : Nat) (r : List UInt8), k ≤ l.length ∧ g = l.length - k ∧ v = .int .i64 k ∧ r.length ≤ 3 * k ∧ wr.ownsRow w.heap.size 5 1 o r.length (r.map byteV) ∧ Hid (r = encQ (l.take k)) ∧ Hid (Below w.heap.size w wr))
  case atStart => exact ⟨0, [], by omega, by omega, rfl, by simp, World.ownsRow_nil _ _ _ _, by unfold Hid; simp [encQ], Below.refl _ _⟩
  case round =>
    obtain ⟨k, r, hk, rfl, rfl, hr, hown, HR, HB⟩ := hrel
    have HO := Lib.hid hown
    clear hown
    by_cases hlt : k < l.length
    · have HT := Lib.hid (take_snocL l k hlt)
      obtain ⟨b, off, rfl, hb, hcell⟩ := HS.out.cell k hlt
      have hcell' : wr.cell? ⟨b, off + k, none⟩ = some (.int .u8 (l[k].toNat : Int)) := (HB.out.cell (p := ⟨b, off + k, none⟩) hb).trans hcell
      obtain ⟨c, hcc⟩ : ∃ c, c = l[k] := ⟨_, rfl⟩
      rw [← hcc] at hcell' HT
      have hct := c.toNat_lt
      have HF := Lib.hid (seen_anyQ c wr)
      clear hcell hb hcc
      by_cases hen : seenB c = true ∧ c ≠ 61
      · have HE := Lib.hid (encB_one hen.1 hen.2)
        have H1 := Lib.hid hen.1
        have t61 : ((c.toNat : Int) != 61) = true := bne_yes fun e => hen.2 (toNat_eq (by show c.toNat = 61; omega))
        clear hen
        go_wp2_with fail
        with_reducible refine HF.out.mono ?_
        rintro e w1 ⟨rfl, rfl⟩
        rw [H1.out]
        go_wp2_with (at_builtin; refine wpList_append_own _ rfl _ _ 22 rfl w.heap.size 5 i0 (.int .u8 0) 1 1 Tryz.underlying22 hi hz0 hz1 hz2 rfl (by decide) _ _ _ rfl (HO.out.alloc _) ⟨wr.heap.size, 0, none⟩ 1 1 [byteV c] rfl rfl ?c1 ?c2 ?c3 ?c4 ?c5 ?_)
        case c1 => exact cell_one_new wr _ _
        case c2 => exact news_one [c]
        case c3 => unfold maxLen; omega
        case c4 => omega
        case c5 => simp; have := HB.out.size; omega
        intro v2 w2 hown2 hgrow2 _
        have HO2 := Lib.hid hown2
        have HB2 : Hid (Below w.heap.size w w2) := (HB.out.alloc (by have := HB.out.size; omega) _).grown hgrow2 (by have := HB.out.size; simp; omega) (fun q hq => (HO.out.lt q hq).1)
        clear hown2 hgrow2
        go_wp2
        go_roundg (l.length - (k + 1))
        case measure => omega
        case rel => exact ⟨k + 1, r ++ [c], by omega, rfl, by go_num, by simp; omega, own_cast HO2.out (by simp) (by simp), by unfold Hid; rw [HT.out, encQ_snoc, ← HR.out, HE.out], HB2⟩
      · have HE := Lib.hid (encB_three hen)
        have hi1 : c.toNat / 16 < 16 := by omega
        have hi2 : c.toNat % 16 < 16 := by omega
        have e15 := and15 c
        obtain ⟨x, hx⟩ : ∃ x, x = c.toNat / 16 := ⟨_, rfl⟩
        obtain ⟨y, hy⟩ : ∃ y, y = c.toNat % 16 := ⟨_, rfl⟩
        rw [← hy] at e15 hi2
        have e4 : (c.toNat : Int) / 16 = (x : Int) := by omega
        rw [← hx] at hi1
        rw [← hx, ← hy] at HE
        have d1 : (⟨#[48, 49, 50, 51, 52, 53, 54, 55, 56, 57, 65, 66, 67, 68, 69, 70]⟩ : ByteArray)[x]'hi1 = digB x := digA_at x hi1
        have d2 : (⟨#[48, 49, 50, 51, 52, 53, 54, 55, 56, 57, 65, 66, 67, 68, 69, 70]⟩ : ByteArray)[y]'hi2 = digB y := digA_at y hi2
        have b1 : (x : Int) < 16 := by omega
        have b2 : (y : Int) < 16 := by omega
        have HXY := Lib.hid (And.intro hx hy)
        clear hx hy
        have hor : (seenB c = false) ∨ (seenB c = true ∧ ((c.toNat : Int) != 61) = false) := by
          rcases Bool.eq_false_or_eq_true (seenB c) with h | h
          · right
            refine ⟨h, ?_⟩
            rw [show c = 61 from Classical.byContradiction fun h' => hen ⟨h, h'⟩]
            rfl
          · exact .inl h
        clear hen
        rcases hor with h1 | ⟨h1, h2⟩
        · have H1 := Lib.hid h1
          clear h1
          have HOd : Hid (World.ownsRow (wr.alloc (.cells #[.int .u8 61, .int .u8 ((digB x).toNat : Int), .int .u8 ((digB y).toNat : Int)] 5)).drew w.heap.size 5 1 _ r.length (r.map byteV)) := ownsRow_below (HO.out.alloc _) (Below.refl _ _).drew
          have HNd : Hid (∀ j q, [byteV 61, byteV (digB x), byteV (digB y)][j]? = some q → (wr.alloc (.cells #[.int .u8 61, .int .u8 ((digB x).toNat : Int), .int .u8 ((digB y).toNat : Int)] 5)).drew.cell? ((⟨wr.heap.size, 0, none⟩ : Addr).add j) = some q) := cells_three_newQ wr _ _ _ _
          have HBd : Hid (Below w.heap.size w (wr.alloc (.cells #[.int .u8 61, .int .u8 ((digB x).toNat : Int), .int .u8 ((digB y).toNat : Int)] 5)).drew) := (HB.out.alloc HB.out.size _).drew
          go_wp2_with fail
          with_reducible refine HF.out.mono ?_
          rintro e w1 ⟨rfl, rfl⟩
          rw [H1.out]
          go_wp2
          go_region_law ((refine step_append_lies _ (by exact rfl) _ _ 22 (by exact rfl) w.heap.size 5 i0 (.int .u8 0) 1 1 Tryz.underlying22 hi hz0 hz1 hz2 rfl (by decide) _ _ _ (by exact rfl) HOd.out ⟨wr.heap.size, 0, none⟩ 3 3 [byteV 61, byteV (digB x), byteV (digB y)] (by exact rfl) rfl HNd.out (news_one [61, digB x, digB y]) (by decide) (by unfold maxLen; omega) (by omega) HBd.out.size _ rfl ?_; intro g2 cap2 w2 hown2 hgrow2 _ _))
          all_goals
            have HO2 := Lib.hid hown2
            have HB2 : Hid (Below w.heap.size w w2) := HBd.out.grown hgrow2 HBd.out.size (fun q hq => (HOd.out.lt q hq).1)
            clear hown2 hgrow2
            go_wp2
            go_roundg (l.length - (k + 1))
            case measure => omega
            case rel => exact ⟨k + 1, r ++ [61, digB x, digB y], by omega, rfl, by go_num, by simp; omega, own_cast HO2.out (by simp) (by simp), by unfold Hid; rw [HT.out, encQ_snoc, ← HR.out, HE.out], HB2⟩
        · have H1 := Lib.hid h1
          clear h1
          have HOd : Hid (World.ownsRow (wr.alloc (.cells #[.int .u8 61, .int .u8 ((digB x).toNat : Int), .int .u8 ((digB y).toNat : Int)] 5)).drew w.heap.size 5 1 _ r.length (r.map byteV)) := ownsRow_below (HO.out.alloc _) (Below.refl _ _).drew
          have HNd : Hid (∀ j q, [byteV 61, byteV (digB x), byteV (digB y)][j]? = some q → (wr.alloc (.cells #[.int .u8 61, .int .u8 ((digB x).toNat : Int), .int .u8 ((digB y).toNat : Int)] 5)).drew.cell? ((⟨wr.heap.size, 0, none⟩ : Addr).add j) = some q) := cells_three_newQ wr _ _ _ _
          have HBd : Hid (Below w.heap.size w (wr.alloc (.cells #[.int .u8 61, .int .u8 ((digB x).toNat : Int), .int .u8 ((digB y).toNat : Int)] 5)).drew) := (HB.out.alloc HB.out.size _).drew
          go_wp2_with fail
          with_reducible refine HF.out.mono ?_
          rintro e w1 ⟨rfl, rfl⟩
          rw [H1.out]
          go_wp2
          go_region_law ((refine step_append_lies _ (by exact rfl) _ _ 22 (by exact rfl) w.heap.size 5 i0 (.int .u8 0) 1 1 Tryz.underlying22 hi hz0 hz1 hz2 rfl (by decide) _ _ _ (by exact rfl) HOd.out ⟨wr.heap.size, 0, none⟩ 3 3 [byteV 61, byteV (digB x), byteV (digB y)] (by exact rfl) rfl HNd.out (news_one [61, digB x, digB y]) (by decide) (by unfold maxLen; omega) (by omega) HBd.out.size _ rfl ?_; intro g2 cap2 w2 hown2 hgrow2 _ _))
          all_goals
            have HO2 := Lib.hid hown2
            have HB2 : Hid (Below w.heap.size w w2) := HBd.out.grown hgrow2 HBd.out.size (fun q hq => (HOd.out.lt q hq).1)
            clear hown2 hgrow2
            go_wp2
            go_roundg (l.length - (k + 1))
            case measure => omega
            case rel => exact ⟨k + 1, r ++ [61, digB x, digB y], by omega, rfl, by go_num, by simp; omega, own_cast HO2.out (by simp) (by simp), by unfold Hid; rw [HT.out, encQ_snoc, ← HR.out, HE.out], HB2⟩
    · go_wp2
      go_ret
      have hk2 : l.take k = l := List.take_of_length_le (by omega)
      have e : encQ l = r := by rw [HR.out, hk2]
      exact ⟨_, rfl, by rw [e]; exact HO.out, HB.out⟩
end Go.Proofs.YteallnjbpikhhaaGreatDoor

/- The laws of layer 17 (binary): BinaryBack. -/
namespace Go.Proofs.YteallnjbpikhhaaGreatDoor
open Go Go.RowKit

set_option maxRecDepth 100000 in
set_option maxHeartbeats 4000000 in
theorem bback_any (v : Value) (l : List UInt8) (how width : Nat) (w : World) (hv : bytesArg w v l) (hh : how < 256) (hwd : width < 256) (he : env w) (hls : lets w) :
    Calls Tryz.prog 3 #[v, .int .u8 (how : Int), .int .u8 (width : Int)] w fun e w' => e = .returned (.bool true) ∧ Below w.heap.size w w' := by
  have HV := Lib.hid hv
  have HE := Lib.hid he
  have HLs := Lib.hid hls
  have HAw := Lib.hid (bawake_any w he hls)
  obtain ⟨ao, cap, rfl, hc, hm, hs⟩ := hv
  clear hs he hls hm hc
  by_cases hl : 300 < l.length
  · have hd : decide ((300 : Int) < (l.length : Int)) = true := decide_eq_true (by omega)
    go_enter Tryz.func3, Tryz.ntmps3
    go_wp2_with fail
    with_reducible refine HAw.out.mono ?_
    rintro e w1 ⟨rfl, hb1⟩
    have HB1 := Lib.hid hb1
    clear hb1
    go_wp2_with fail
    go_ret
    exact ⟨rfl, HB1.out⟩
  have hd : decide ((300 : Int) < (l.length : Int)) = false := decide_eq_false (by omega)
  have hlb : l.length ≤ 300 := by omega
  have HLb := Lib.hid hlb
  clear hl hlb
  have kcs := fun (w : World) (s : ByteArray) (hs : s.size ≤ maxLen) => conv_bytesArg (P := Tryz.prog) w 9 22 5 s hs Tryz.underlying9 Tryz.underlying22 Tryz.underlying5
  have HKc := Lib.hid kcs
  clear kcs
  have hr : how % 5 = 0 ∨ how % 5 = 1 ∨ how % 5 = 2 ∨ how % 5 = 3 ∨ how % 5 = 4 := by omega
  rcases hr with hr | hr | hr | hr | hr
  · have m1 : (how : Int) % 5 = 0 := by omega
    have m2 : (how : Int).tmod 5 = 0 := by rw [Int.tmod_eq_emod_of_nonneg (by omega)]; exact m1
    have HW0 := Lib.hid hwd
    clear hr hh hwd
    go_enter Tryz.func3, Tryz.ntmps3
    go_wp2_with fail
    with_reducible refine HAw.out.mono ?_
    rintro e w1 ⟨rfl, hb1⟩
    have HB1 := Lib.hid hb1
    clear hb1 HAw
    go_upto_region 7 with fail
    obtain ⟨x0, hx⟩ : ∃ x0, x0 = (w1.alloc (.cells #[.string ⟨#[98, 97, 115, 101, 54, 52]⟩, .string ⟨#[81, 117, 111, 116, 101, 100, 45, 80, 114, 105, 110, 116, 97, 98, 108, 101]⟩, .string ⟨#[56, 98, 105, 116]⟩, .string ⟨#[120, 45, 110, 111, 110, 101]⟩, .string ⟨#[98, 97, 115, 101, 54, 52]⟩] 9)) := ⟨_, rfl⟩
    have HC0 : Hid (Below w.heap.size w x0) := by unfold Hid; rw [hx]; exact HB1.out.alloc HB1.out.size _
    rw [← hx]
    clear hx
    have k1 := bytesArg_string (bytesArg.below HV.out HC0.out)
    have hwi : IntKind.i64.wrap (width : Int) = (width : Int) := by
      have := HW0.out
      exact IntWalk.i64_in _ (by omega)
    obtain ⟨S, hS⟩ : ∃ S : ByteArray, S = ⟨l.toArray⟩ := ⟨_, rfl⟩
    rw [← hS] at k1
    have HS : Hid (S.data.toList = l) := by unfold Hid; rw [hS]
    have HSs : Hid (∀ W u, bytesArg W u l → (convert 22 9 u).run Tryz.prog W = .ok (.string S) W) := fun W u h => by rw [hS]; exact bytesArg_string h
    clear hS
    have hEn := encode_any (.slice ao l.length cap) l (width : Int) x0 (bytesArg.below HV.out HC0.out) (by have := HLb.out; omega) (by have := HW0.out; omega) (by have := HW0.out; omega) (HLs.out.below HC0.out)
    obtain ⟨s, hse⟩ : ∃ s, s = lineS (width : Int) (encS l) := ⟨_, rfl⟩
    have hsl : s.length ≤ 2000 := by rw [hse]; have a := lineS_le (width : Int) (encS l); have b := encS_le l HLb.out; omega
    have htel : telL (undoL encBF s) = (l, 0) := by rw [hse, undo_b64, dec_line]; rfl
    rw [← hse] at hEn
    have HEn := Lib.hid hEn
    clear hEn hse
    go_wp2_with fail
    with_reducible refine HEn.out.mono ?_
    rintro e x1 ⟨u, rfl, ho, hb⟩
    have hu := bytesArg_owned ho
    have HC1 := Lib.hid (HC0.out.trans (hb.mono HC0.out.size))
    have k2 := bytesArg_string hu
    obtain ⟨uo, uc, rfl, _, _, _⟩ := hu
    obtain ⟨S2, hS2⟩ : ∃ S2 : ByteArray, S2 = ⟨s.toArray⟩ := ⟨_, rfl⟩
    rw [← hS2] at k2
    have hs2 : S2.data.toList = s := by rw [hS2]
    have hz2 : S2.size = s.length := by rw [hS2]; rfl
    have HSt : Hid (∀ W u, bytesArg W u s → (convert 22 9 u).run Tryz.prog W = .ok (.string S2) W) := fun W u h => by rw [hS2]; exact bytesArg_string h
    clear hS2 ho hb
    obtain ⟨m, N, hme, hpa, hge, hra⟩ := bm_all frtB s (by rw [List.length_append, frtB.len]; omega) (by decide)
    rw [htel] at hge
    obtain ⟨K, hK⟩ : ∃ K : Nat, K = 37 := ⟨_, rfl⟩
    rw [← hK] at hpa hge hra
    have hcm : (⟨#[67, 111, 110, 116, 101, 110, 116, 45, 84, 114, 97, 110, 115, 102, 101, 114, 45, 69, 110, 99, 111, 100, 105, 110, 103, 58, 32]⟩ ++ ⟨#[98, 97, 115, 101, 54, 52]⟩ ++ ⟨#[13, 10, 13, 10]⟩ ++ S2 : ByteArray).data.toList = m := by
      rw [cat_toList, hs2, hme]
      rfl
    have hcz : (⟨#[67, 111, 110, 116, 101, 110, 116, 45, 84, 114, 97, 110, 115, 102, 101, 114, 45, 69, 110, 99, 111, 100, 105, 110, 103, 58, 32]⟩ ++ ⟨#[98, 97, 115, 101, 54, 52]⟩ ++ ⟨#[13, 10, 13, 10]⟩ ++ S2 : ByteArray).size = 37 + s.length := by
      rw [← len_toList, hcm, hme, List.length_append, frtB.len]
    obtain ⟨y0, yc, kcv, hya, hyb⟩ := HKc.out x1 (⟨#[67, 111, 110, 116, 101, 110, 116, 45, 84, 114, 97, 110, 115, 102, 101, 114, 45, 69, 110, 99, 111, 100, 105, 110, 103, 58, 32]⟩ ++ ⟨#[98, 97, 115, 101, 54, 52]⟩ ++ ⟨#[13, 10, 13, 10]⟩ ++ S2 : ByteArray) (by rw [hcz]; unfold maxLen; omega)
    rw [hcm] at hya
    obtain ⟨Z, hZ⟩ : ∃ Z, Z = (⟨#[67, 111, 110, 116, 101, 110, 116, 45, 84, 114, 97, 110, 115, 102, 101, 114, 45, 69, 110, 99, 111, 100, 105, 110, 103, 58, 32]⟩ ++ ⟨#[98, 97, 115, 101, 54, 52]⟩ ++ ⟨#[13, 10, 13, 10]⟩ ++ S2 : ByteArray).size := ⟨_, rfl⟩
    rw [← hZ] at kcv hya
    have g1 : ¬ 9223372036854775807 < 37 + S2.size := by rw [hz2]; omega
    have HY := Lib.hid hya
    have HD0 := Lib.hid (HC1.out.trans (hyb.mono HC1.out.size))
    have HPa := Lib.hid hpa
    have HGe := Lib.hid hge
    have HRa := Lib.hid hra
    clear hpa hge hra hya hyb hcm hcz hme hZ htel hs2 hK
    go_wp2_with fail
    with_reducible refine (HPa.out _ _ HY.out (HE.out.below HD0.out)).mono ?_
    rintro e y1 ⟨ka, kc, ca, cn, cc, rfl, hta, hb⟩
    have HTa := Lib.hid hta
    have HY1 := Lib.hid (bytesArg.below HY.out hb)
    have HD1 := Lib.hid (HD0.out.trans (hb.mono HD0.out.size))
    clear hta hb
    go_upto_region 17 with fail
    have HX0 : Hid ((y1.alloc (.cells #[.int .i64 0, .int .i64 0, .int .i64 (K : Int), .int .i64 (K : Int), .int .i64 (N : Int), .slice ka 0 kc, .slice ca cn cc, .int .i64 0, .int .i64 0] 32)).heap[y1.heap.size]? = some (partO 0 0 K K N (.slice ka 0 kc) (.slice ca cn cc) 0 0)) := heap_alloc_new y1 _
    have HE0 : Hid (Below y1.heap.size y1 (y1.alloc (.cells #[.int .i64 0, .int .i64 0, .int .i64 (K : Int), .int .i64 (K : Int), .int .i64 (N : Int), .slice ka 0 kc, .slice ca cn cc, .int .i64 0, .int .i64 0] 32))) := (Below.refl _ _).alloc (Nat.le_refl _) _
    generalize (y1.alloc (.cells #[.int .i64 0, .int .i64 0, .int .i64 (K : Int), .int .i64 (K : Int), .int .i64 (N : Int), .slice ka 0 kc, .slice ca cn cc, .int .i64 0, .int .i64 0] 32)) = y2 at HX0 HE0 ⊢
    obtain ⟨t0, t1, t2, t3, t4, t5, t6, t7, t8⟩ := part_cells HX0.out
    have hy2 : y1.heap.size < y2.heap.size := (Array.getElem?_eq_some_iff.1 HX0.out).1
    unfold bgetPost at HGe
    simp only at HGe
    go_wp2_with fail
    with_reducible refine (HGe.out _ _ _ _ 1 _ ?k1 ?k2 ?k3 ?k4).mono ?_
    case k1 => exact bytesArg.below HY1.out (HE0.out.alloc HE0.out.size _)
    case k2 => exact HTa.out.below (HE0.out.alloc HE0.out.size _)
    case k3 => exact rowOf_one _ _ _
    case k4 => exact HLs.out.below (HD1.out.trans ((HE0.out.alloc HE0.out.size _).mono HD1.out.size))
    rintro e y3 ⟨u3, rfl, hu3, hb⟩
    have hg3 : Below y2.heap.size y2 y3 := ((Below.refl _ _).alloc (Nat.le_refl _) _).trans (hb.mono (by simp))
    have HU3 := Lib.hid hu3
    have HX3 := Lib.hid ((hg3.block _ hy2).trans HX0.out)
    have HE3 := Lib.hid (HE0.out.trans (hg3.mono HE0.out.size))
    clear hu3 hb hg3 t0 t1 t2 t3 t4 t5 t6 t7 t8
    obtain ⟨uo3, uc3, rfl, _, _, _⟩ := HU3.out
    obtain ⟨t0, t1, t2, t3, t4, t5, t6, t7, t8⟩ := part_cells HX3.out
    have hy3 : y1.heap.size < y3.heap.size := (Array.getElem?_eq_some_iff.1 HX3.out).1
    go_wp2_with fail
    unfold bytesPost at HRa
    with_reducible refine (HRa.out _ _ _ _ 1 _ ?k1 ?k2 ?k3).mono ?_
    case k1 => exact bytesArg.below HY1.out (HE3.out.alloc HE3.out.size _)
    case k2 => exact HTa.out.below (HE3.out.alloc HE3.out.size _)
    case k3 => exact rowOf_one _ _ _
    rintro e y4 ⟨u4, rfl, hu4, hb⟩
    have hg4 : Below y3.heap.size y3 y4 := ((Below.refl _ _).alloc (Nat.le_refl _) _).trans (hb.mono (by simp))
    have HE4 := Lib.hid (HE3.out.trans (hg4.mono HE3.out.size))
    have k3 := HSs.out y4 _ (bytesArg.below HU3.out hg4)
    have k4 := HSs.out y4 _ (bytesArg.below HV.out (HD1.out.trans (HE4.out.mono HD1.out.size)))
    have k5 := HSt.out y4 _ hu4
    have e1 : (S.toList == S.toList) = true := str_eq rfl
    have e2 : (S2.toList == S2.toList) = true := str_eq rfl
    clear hb hg4 t0 t1 t2 t3 t4 t5 t6 t7 t8
    obtain ⟨uo4, uc4, rfl, _, _, _⟩ := hu4
    go_wp2_with fail
    go_ret
    exact ⟨rfl, HD1.out.trans (HE4.out.mono HD1.out.size)⟩
  · have m1 : (how : Int) % 5 = 1 := by omega
    have m2 : (how : Int).tmod 5 = 1 := by rw [Int.tmod_eq_emod_of_nonneg (by omega)]; exact m1
    have HW0 := Lib.hid hwd
    clear hr hh hwd
    go_enter Tryz.func3, Tryz.ntmps3
    go_wp2_with fail
    with_reducible refine HAw.out.mono ?_
    rintro e w1 ⟨rfl, hb1⟩
    have HB1 := Lib.hid hb1
    clear hb1 HAw
    go_upto_region 7 with fail
    obtain ⟨x0, hx⟩ : ∃ x0, x0 = (w1.alloc (.cells #[.string ⟨#[98, 97, 115, 101, 54, 52]⟩, .string ⟨#[81, 117, 111, 116, 101, 100, 45, 80, 114, 105, 110, 116, 97, 98, 108, 101]⟩, .string ⟨#[56, 98, 105, 116]⟩, .string ⟨#[120, 45, 110, 111, 110, 101]⟩, .string ⟨#[98, 97, 115, 101, 54, 52]⟩] 9)) := ⟨_, rfl⟩
    have HC0 : Hid (Below w.heap.size w x0) := by unfold Hid; rw [hx]; exact HB1.out.alloc HB1.out.size _
    rw [← hx]
    clear hx
    have k1 := bytesArg_string (bytesArg.below HV.out HC0.out)
    obtain ⟨S, hS⟩ : ∃ S : ByteArray, S = ⟨l.toArray⟩ := ⟨_, rfl⟩
    rw [← hS] at k1
    have HS : Hid (S.data.toList = l) := by unfold Hid; rw [hS]
    have HSs : Hid (∀ W u, bytesArg W u l → (convert 22 9 u).run Tryz.prog W = .ok (.string S) W) := fun W u h => by rw [hS]; exact bytesArg_string h
    clear hS
    have hEn := encode_anyQ (.slice ao l.length cap) l x0 (bytesArg.below HV.out HC0.out) (by have := HLb.out; omega)
    obtain ⟨s, hse⟩ : ∃ s, s = encQ l := ⟨_, rfl⟩
    have hsl : s.length ≤ 2000 := by rw [hse]; have a := encQ_len l; have b := HLb.out; omega
    have htel : telL (undoL encQF s) = (l, 0) := by rw [hse, undo_qp, decQ_encQ]; rfl
    rw [← hse] at hEn
    have HEn := Lib.hid hEn
    clear hEn hse
    go_wp2_with fail
    with_reducible refine HEn.out.mono ?_
    rintro e x1 ⟨u, rfl, ho, hb⟩
    have hu := bytesArg_owned ho
    have HC1 := Lib.hid (HC0.out.trans (hb.mono HC0.out.size))
    have k2 := bytesArg_string hu
    obtain ⟨uo, uc, rfl, _, _, _⟩ := hu
    obtain ⟨S2, hS2⟩ : ∃ S2 : ByteArray, S2 = ⟨s.toArray⟩ := ⟨_, rfl⟩
    rw [← hS2] at k2
    have hs2 : S2.data.toList = s := by rw [hS2]
    have hz2 : S2.size = s.length := by rw [hS2]; rfl
    have HSt : Hid (∀ W u, bytesArg W u s → (convert 22 9 u).run Tryz.prog W = .ok (.string S2) W) := fun W u h => by rw [hS2]; exact bytesArg_string h
    clear hS2 ho hb
    obtain ⟨m, N, hme, hpa, hge, hra⟩ := bm_all frtQ s (by rw [List.length_append, frtQ.len]; omega) (by decide)
    rw [htel] at hge
    obtain ⟨K, hK⟩ : ∃ K : Nat, K = 47 := ⟨_, rfl⟩
    rw [← hK] at hpa hge hra
    have hcm : (⟨#[67, 111, 110, 116, 101, 110, 116, 45, 84, 114, 97, 110, 115, 102, 101, 114, 45, 69, 110, 99, 111, 100, 105, 110, 103, 58, 32]⟩ ++ ⟨#[81, 117, 111, 116, 101, 100, 45, 80, 114, 105, 110, 116, 97, 98, 108, 101]⟩ ++ ⟨#[13, 10, 13, 10]⟩ ++ S2 : ByteArray).data.toList = m := by
      rw [cat_toList, hs2, hme]
      rfl
    have hcz : (⟨#[67, 111, 110, 116, 101, 110, 116, 45, 84, 114, 97, 110, 115, 102, 101, 114, 45, 69, 110, 99, 111, 100, 105, 110, 103, 58, 32]⟩ ++ ⟨#[81, 117, 111, 116, 101, 100, 45, 80, 114, 105, 110, 116, 97, 98, 108, 101]⟩ ++ ⟨#[13, 10, 13, 10]⟩ ++ S2 : ByteArray).size = 47 + s.length := by
      rw [← len_toList, hcm, hme, List.length_append, frtQ.len]
    obtain ⟨y0, yc, kcv, hya, hyb⟩ := HKc.out x1 (⟨#[67, 111, 110, 116, 101, 110, 116, 45, 84, 114, 97, 110, 115, 102, 101, 114, 45, 69, 110, 99, 111, 100, 105, 110, 103, 58, 32]⟩ ++ ⟨#[81, 117, 111, 116, 101, 100, 45, 80, 114, 105, 110, 116, 97, 98, 108, 101]⟩ ++ ⟨#[13, 10, 13, 10]⟩ ++ S2 : ByteArray) (by rw [hcz]; unfold maxLen; omega)
    rw [hcm] at hya
    obtain ⟨Z, hZ⟩ : ∃ Z, Z = (⟨#[67, 111, 110, 116, 101, 110, 116, 45, 84, 114, 97, 110, 115, 102, 101, 114, 45, 69, 110, 99, 111, 100, 105, 110, 103, 58, 32]⟩ ++ ⟨#[81, 117, 111, 116, 101, 100, 45, 80, 114, 105, 110, 116, 97, 98, 108, 101]⟩ ++ ⟨#[13, 10, 13, 10]⟩ ++ S2 : ByteArray).size := ⟨_, rfl⟩
    rw [← hZ] at kcv hya
    have g1 : ¬ 9223372036854775807 < 47 + S2.size := by rw [hz2]; omega
    have HY := Lib.hid hya
    have HD0 := Lib.hid (HC1.out.trans (hyb.mono HC1.out.size))
    have HPa := Lib.hid hpa
    have HGe := Lib.hid hge
    have HRa := Lib.hid hra
    clear hpa hge hra hya hyb hcm hcz hme hZ htel hs2 hK
    go_wp2_with fail
    with_reducible refine (HPa.out _ _ HY.out (HE.out.below HD0.out)).mono ?_
    rintro e y1 ⟨ka, kc, ca, cn, cc, rfl, hta, hb⟩
    have HTa := Lib.hid hta
    have HY1 := Lib.hid (bytesArg.below HY.out hb)
    have HD1 := Lib.hid (HD0.out.trans (hb.mono HD0.out.size))
    clear hta hb
    go_upto_region 17 with fail
    have HX0 : Hid ((y1.alloc (.cells #[.int .i64 0, .int .i64 0, .int .i64 (K : Int), .int .i64 (K : Int), .int .i64 (N : Int), .slice ka 0 kc, .slice ca cn cc, .int .i64 0, .int .i64 0] 32)).heap[y1.heap.size]? = some (partO 0 0 K K N (.slice ka 0 kc) (.slice ca cn cc) 0 0)) := heap_alloc_new y1 _
    have HE0 : Hid (Below y1.heap.size y1 (y1.alloc (.cells #[.int .i64 0, .int .i64 0, .int .i64 (K : Int), .int .i64 (K : Int), .int .i64 (N : Int), .slice ka 0 kc, .slice ca cn cc, .int .i64 0, .int .i64 0] 32))) := (Below.refl _ _).alloc (Nat.le_refl _) _
    generalize (y1.alloc (.cells #[.int .i64 0, .int .i64 0, .int .i64 (K : Int), .int .i64 (K : Int), .int .i64 (N : Int), .slice ka 0 kc, .slice ca cn cc, .int .i64 0, .int .i64 0] 32)) = y2 at HX0 HE0 ⊢
    obtain ⟨t0, t1, t2, t3, t4, t5, t6, t7, t8⟩ := part_cells HX0.out
    have hy2 : y1.heap.size < y2.heap.size := (Array.getElem?_eq_some_iff.1 HX0.out).1
    unfold bgetPost at HGe
    simp only at HGe
    go_wp2_with fail
    with_reducible refine (HGe.out _ _ _ _ 1 _ ?k1 ?k2 ?k3 ?k4).mono ?_
    case k1 => exact bytesArg.below HY1.out (HE0.out.alloc HE0.out.size _)
    case k2 => exact HTa.out.below (HE0.out.alloc HE0.out.size _)
    case k3 => exact rowOf_one _ _ _
    case k4 => exact HLs.out.below (HD1.out.trans ((HE0.out.alloc HE0.out.size _).mono HD1.out.size))
    rintro e y3 ⟨u3, rfl, hu3, hb⟩
    have hg3 : Below y2.heap.size y2 y3 := ((Below.refl _ _).alloc (Nat.le_refl _) _).trans (hb.mono (by simp))
    have HU3 := Lib.hid hu3
    have HX3 := Lib.hid ((hg3.block _ hy2).trans HX0.out)
    have HE3 := Lib.hid (HE0.out.trans (hg3.mono HE0.out.size))
    clear hu3 hb hg3 t0 t1 t2 t3 t4 t5 t6 t7 t8
    obtain ⟨uo3, uc3, rfl, _, _, _⟩ := HU3.out
    obtain ⟨t0, t1, t2, t3, t4, t5, t6, t7, t8⟩ := part_cells HX3.out
    have hy3 : y1.heap.size < y3.heap.size := (Array.getElem?_eq_some_iff.1 HX3.out).1
    go_wp2_with fail
    unfold bytesPost at HRa
    with_reducible refine (HRa.out _ _ _ _ 1 _ ?k1 ?k2 ?k3).mono ?_
    case k1 => exact bytesArg.below HY1.out (HE3.out.alloc HE3.out.size _)
    case k2 => exact HTa.out.below (HE3.out.alloc HE3.out.size _)
    case k3 => exact rowOf_one _ _ _
    rintro e y4 ⟨u4, rfl, hu4, hb⟩
    have hg4 : Below y3.heap.size y3 y4 := ((Below.refl _ _).alloc (Nat.le_refl _) _).trans (hb.mono (by simp))
    have HE4 := Lib.hid (HE3.out.trans (hg4.mono HE3.out.size))
    have k3 := HSs.out y4 _ (bytesArg.below HU3.out hg4)
    have k4 := HSs.out y4 _ (bytesArg.below HV.out (HD1.out.trans (HE4.out.mono HD1.out.size)))
    have k5 := HSt.out y4 _ hu4
    have e1 : (S.toList == S.toList) = true := str_eq rfl
    have e2 : (S2.toList == S2.toList) = true := str_eq rfl
    clear hb hg4 t0 t1 t2 t3 t4 t5 t6 t7 t8
    obtain ⟨uo4, uc4, rfl, _, _, _⟩ := hu4
    go_wp2_with fail
    go_ret
    exact ⟨rfl, HD1.out.trans (HE4.out.mono HD1.out.size)⟩
  · have m1 : (how : Int) % 5 = 2 := by omega
    have m2 : (how : Int).tmod 5 = 2 := by rw [Int.tmod_eq_emod_of_nonneg (by omega)]; exact m1
    have HW0 := Lib.hid hwd
    clear hr hh hwd
    go_enter Tryz.func3, Tryz.ntmps3
    go_wp2_with fail
    with_reducible refine HAw.out.mono ?_
    rintro e w1 ⟨rfl, hb1⟩
    have HB1 := Lib.hid hb1
    clear hb1 HAw
    go_upto_region 7 with fail
    obtain ⟨x0, hx⟩ : ∃ x0, x0 = (w1.alloc (.cells #[.string ⟨#[98, 97, 115, 101, 54, 52]⟩, .string ⟨#[81, 117, 111, 116, 101, 100, 45, 80, 114, 105, 110, 116, 97, 98, 108, 101]⟩, .string ⟨#[56, 98, 105, 116]⟩, .string ⟨#[120, 45, 110, 111, 110, 101]⟩, .string ⟨#[98, 97, 115, 101, 54, 52]⟩] 9)) := ⟨_, rfl⟩
    have HC0 : Hid (Below w.heap.size w x0) := by unfold Hid; rw [hx]; exact HB1.out.alloc HB1.out.size _
    rw [← hx]
    clear hx
    have k1 := bytesArg_string (bytesArg.below HV.out HC0.out)
    obtain ⟨S, hS⟩ : ∃ S : ByteArray, S = ⟨l.toArray⟩ := ⟨_, rfl⟩
    rw [← hS] at k1
    have HS : Hid (S.data.toList = l) := by unfold Hid; rw [hS]
    have HSs : Hid (∀ W u, bytesArg W u l → (convert 22 9 u).run Tryz.prog W = .ok (.string S) W) := fun W u h => by rw [hS]; exact bytesArg_string h
    clear hS
    obtain ⟨s, hse⟩ : ∃ s, s = l := ⟨_, rfl⟩
    have hsl : s.length ≤ 2000 := by rw [hse]; have := HLb.out; omega
    have htel : telL (undoL encEF s) = (l, 0) := by rw [hse]; rw [undo_8]; rfl
    have hs2 : S.data.toList = s := by rw [hse]; exact HS.out
    have hz2 : S.size = s.length := by rw [← hs2]; rfl
    have HSt : Hid (∀ W u, bytesArg W u s → (convert 22 9 u).run Tryz.prog W = .ok (.string S) W) := fun W u h => by rw [hse] at h; exact HSs.out W u h
    clear hse
    obtain ⟨m, N, hme, hpa, hge, hra⟩ := bm_all frtE s (by rw [List.length_append, frtE.len]; omega) (by decide)
    rw [htel] at hge
    obtain ⟨K, hK⟩ : ∃ K : Nat, K = 35 := ⟨_, rfl⟩
    rw [← hK] at hpa hge hra
    have hcm : (⟨#[67, 111, 110, 116, 101, 110, 116, 45, 84, 114, 97, 110, 115, 102, 101, 114, 45, 69, 110, 99, 111, 100, 105, 110, 103, 58, 32]⟩ ++ ⟨#[56, 98, 105, 116]⟩ ++ ⟨#[13, 10, 13, 10]⟩ ++ S : ByteArray).data.toList = m := by
      rw [cat_toList, hs2, hme]
      rfl
    have hcz : (⟨#[67, 111, 110, 116, 101, 110, 116, 45, 84, 114, 97, 110, 115, 102, 101, 114, 45, 69, 110, 99, 111, 100, 105, 110, 103, 58, 32]⟩ ++ ⟨#[56, 98, 105, 116]⟩ ++ ⟨#[13, 10, 13, 10]⟩ ++ S : ByteArray).size = 35 + s.length := by
      rw [← len_toList, hcm, hme, List.length_append, frtE.len]
    obtain ⟨y0, yc, kcv, hya, hyb⟩ := HKc.out x0 (⟨#[67, 111, 110, 116, 101, 110, 116, 45, 84, 114, 97, 110, 115, 102, 101, 114, 45, 69, 110, 99, 111, 100, 105, 110, 103, 58, 32]⟩ ++ ⟨#[56, 98, 105, 116]⟩ ++ ⟨#[13, 10, 13, 10]⟩ ++ S : ByteArray) (by rw [hcz]; unfold maxLen; omega)
    rw [hcm] at hya
    obtain ⟨Z, hZ⟩ : ∃ Z, Z = (⟨#[67, 111, 110, 116, 101, 110, 116, 45, 84, 114, 97, 110, 115, 102, 101, 114, 45, 69, 110, 99, 111, 100, 105, 110, 103, 58, 32]⟩ ++ ⟨#[56, 98, 105, 116]⟩ ++ ⟨#[13, 10, 13, 10]⟩ ++ S : ByteArray).size := ⟨_, rfl⟩
    rw [← hZ] at kcv hya
    have g1 : ¬ 9223372036854775807 < 35 + S.size := by rw [hz2]; omega
    have HY := Lib.hid hya
    have HD0 := Lib.hid (HC0.out.trans (hyb.mono HC0.out.size))
    have HPa := Lib.hid hpa
    have HGe := Lib.hid hge
    have HRa := Lib.hid hra
    clear hpa hge hra hya hyb hcm hcz hme hZ htel hs2 hK
    go_wp2_with fail
    with_reducible refine (HPa.out _ _ HY.out (HE.out.below HD0.out)).mono ?_
    rintro e y1 ⟨ka, kc, ca, cn, cc, rfl, hta, hb⟩
    have HTa := Lib.hid hta
    have HY1 := Lib.hid (bytesArg.below HY.out hb)
    have HD1 := Lib.hid (HD0.out.trans (hb.mono HD0.out.size))
    clear hta hb
    go_upto_region 17 with fail
    have HX0 : Hid ((y1.alloc (.cells #[.int .i64 0, .int .i64 0, .int .i64 (K : Int), .int .i64 (K : Int), .int .i64 (N : Int), .slice ka 0 kc, .slice ca cn cc, .int .i64 0, .int .i64 0] 32)).heap[y1.heap.size]? = some (partO 0 0 K K N (.slice ka 0 kc) (.slice ca cn cc) 0 0)) := heap_alloc_new y1 _
    have HE0 : Hid (Below y1.heap.size y1 (y1.alloc (.cells #[.int .i64 0, .int .i64 0, .int .i64 (K : Int), .int .i64 (K : Int), .int .i64 (N : Int), .slice ka 0 kc, .slice ca cn cc, .int .i64 0, .int .i64 0] 32))) := (Below.refl _ _).alloc (Nat.le_refl _) _
    generalize (y1.alloc (.cells #[.int .i64 0, .int .i64 0, .int .i64 (K : Int), .int .i64 (K : Int), .int .i64 (N : Int), .slice ka 0 kc, .slice ca cn cc, .int .i64 0, .int .i64 0] 32)) = y2 at HX0 HE0 ⊢
    obtain ⟨t0, t1, t2, t3, t4, t5, t6, t7, t8⟩ := part_cells HX0.out
    have hy2 : y1.heap.size < y2.heap.size := (Array.getElem?_eq_some_iff.1 HX0.out).1
    unfold bgetPost at HGe
    simp only at HGe
    go_wp2_with fail
    with_reducible refine (HGe.out _ _ _ _ 1 _ ?k1 ?k2 ?k3 ?k4).mono ?_
    case k1 => exact bytesArg.below HY1.out (HE0.out.alloc HE0.out.size _)
    case k2 => exact HTa.out.below (HE0.out.alloc HE0.out.size _)
    case k3 => exact rowOf_one _ _ _
    case k4 => exact HLs.out.below (HD1.out.trans ((HE0.out.alloc HE0.out.size _).mono HD1.out.size))
    rintro e y3 ⟨u3, rfl, hu3, hb⟩
    have hg3 : Below y2.heap.size y2 y3 := ((Below.refl _ _).alloc (Nat.le_refl _) _).trans (hb.mono (by simp))
    have HU3 := Lib.hid hu3
    have HX3 := Lib.hid ((hg3.block _ hy2).trans HX0.out)
    have HE3 := Lib.hid (HE0.out.trans (hg3.mono HE0.out.size))
    clear hu3 hb hg3 t0 t1 t2 t3 t4 t5 t6 t7 t8
    obtain ⟨uo3, uc3, rfl, _, _, _⟩ := HU3.out
    obtain ⟨t0, t1, t2, t3, t4, t5, t6, t7, t8⟩ := part_cells HX3.out
    have hy3 : y1.heap.size < y3.heap.size := (Array.getElem?_eq_some_iff.1 HX3.out).1
    go_wp2_with fail
    unfold bytesPost at HRa
    with_reducible refine (HRa.out _ _ _ _ 1 _ ?k1 ?k2 ?k3).mono ?_
    case k1 => exact bytesArg.below HY1.out (HE3.out.alloc HE3.out.size _)
    case k2 => exact HTa.out.below (HE3.out.alloc HE3.out.size _)
    case k3 => exact rowOf_one _ _ _
    rintro e y4 ⟨u4, rfl, hu4, hb⟩
    have hg4 : Below y3.heap.size y3 y4 := ((Below.refl _ _).alloc (Nat.le_refl _) _).trans (hb.mono (by simp))
    have HE4 := Lib.hid (HE3.out.trans (hg4.mono HE3.out.size))
    have k3 := HSs.out y4 _ (bytesArg.below HU3.out hg4)
    have k4 := HSs.out y4 _ (bytesArg.below HV.out (HD1.out.trans (HE4.out.mono HD1.out.size)))
    have k5 := HSt.out y4 _ hu4
    have e1 : (S.toList == S.toList) = true := str_eq rfl
    have e2 : (S.toList == S.toList) = true := str_eq rfl
    clear hb hg4 t0 t1 t2 t3 t4 t5 t6 t7 t8
    obtain ⟨uo4, uc4, rfl, _, _, _⟩ := hu4
    go_wp2_with fail
    go_ret
    exact ⟨rfl, HD1.out.trans (HE4.out.mono HD1.out.size)⟩
  · have m1 : (how : Int) % 5 = 3 := by omega
    have m2 : (how : Int).tmod 5 = 3 := by rw [Int.tmod_eq_emod_of_nonneg (by omega)]; exact m1
    have HW0 := Lib.hid hwd
    clear hr hh hwd
    go_enter Tryz.func3, Tryz.ntmps3
    go_wp2_with fail
    with_reducible refine HAw.out.mono ?_
    rintro e w1 ⟨rfl, hb1⟩
    have HB1 := Lib.hid hb1
    clear hb1 HAw
    go_upto_region 7 with fail
    obtain ⟨x0, hx⟩ : ∃ x0, x0 = (w1.alloc (.cells #[.string ⟨#[98, 97, 115, 101, 54, 52]⟩, .string ⟨#[81, 117, 111, 116, 101, 100, 45, 80, 114, 105, 110, 116, 97, 98, 108, 101]⟩, .string ⟨#[56, 98, 105, 116]⟩, .string ⟨#[120, 45, 110, 111, 110, 101]⟩, .string ⟨#[98, 97, 115, 101, 54, 52]⟩] 9)) := ⟨_, rfl⟩
    have HC0 : Hid (Below w.heap.size w x0) := by unfold Hid; rw [hx]; exact HB1.out.alloc HB1.out.size _
    rw [← hx]
    clear hx
    have k1 := bytesArg_string (bytesArg.below HV.out HC0.out)
    obtain ⟨S, hS⟩ : ∃ S : ByteArray, S = ⟨l.toArray⟩ := ⟨_, rfl⟩
    rw [← hS] at k1
    have HS : Hid (S.data.toList = l) := by unfold Hid; rw [hS]
    have HSs : Hid (∀ W u, bytesArg W u l → (convert 22 9 u).run Tryz.prog W = .ok (.string S) W) := fun W u h => by rw [hS]; exact bytesArg_string h
    clear hS
    obtain ⟨s, hse⟩ : ∃ s, s = l := ⟨_, rfl⟩
    have hsl : s.length ≤ 2000 := by rw [hse]; have := HLb.out; omega
    have htel : telL (undoL encXF s) = ([], 22) := by rw [hse]; rw [undo_x]; rfl
    have hs2 : S.data.toList = s := by rw [hse]; exact HS.out
    have hz2 : S.size = s.length := by rw [← hs2]; rfl
    have HSt : Hid (∀ W u, bytesArg W u s → (convert 22 9 u).run Tryz.prog W = .ok (.string S) W) := fun W u h => by rw [hse] at h; exact HSs.out W u h
    clear hse
    obtain ⟨m, N, hme, hpa, hge, hra⟩ := bm_all frtX s (by rw [List.length_append, frtX.len]; omega) (by decide)
    rw [htel] at hge
    obtain ⟨K, hK⟩ : ∃ K : Nat, K = 37 := ⟨_, rfl⟩
    rw [← hK] at hpa hge hra
    have hcm : (⟨#[67, 111, 110, 116, 101, 110, 116, 45, 84, 114, 97, 110, 115, 102, 101, 114, 45, 69, 110, 99, 111, 100, 105, 110, 103, 58, 32]⟩ ++ ⟨#[120, 45, 110, 111, 110, 101]⟩ ++ ⟨#[13, 10, 13, 10]⟩ ++ S : ByteArray).data.toList = m := by
      rw [cat_toList, hs2, hme]
      rfl
    have hcz : (⟨#[67, 111, 110, 116, 101, 110, 116, 45, 84, 114, 97, 110, 115, 102, 101, 114, 45, 69, 110, 99, 111, 100, 105, 110, 103, 58, 32]⟩ ++ ⟨#[120, 45, 110, 111, 110, 101]⟩ ++ ⟨#[13, 10, 13, 10]⟩ ++ S : ByteArray).size = 37 + s.length := by
      rw [← len_toList, hcm, hme, List.length_append, frtX.len]
    obtain ⟨y0, yc, kcv, hya, hyb⟩ := HKc.out x0 (⟨#[67, 111, 110, 116, 101, 110, 116, 45, 84, 114, 97, 110, 115, 102, 101, 114, 45, 69, 110, 99, 111, 100, 105, 110, 103, 58, 32]⟩ ++ ⟨#[120, 45, 110, 111, 110, 101]⟩ ++ ⟨#[13, 10, 13, 10]⟩ ++ S : ByteArray) (by rw [hcz]; unfold maxLen; omega)
    rw [hcm] at hya
    obtain ⟨Z, hZ⟩ : ∃ Z, Z = (⟨#[67, 111, 110, 116, 101, 110, 116, 45, 84, 114, 97, 110, 115, 102, 101, 114, 45, 69, 110, 99, 111, 100, 105, 110, 103, 58, 32]⟩ ++ ⟨#[120, 45, 110, 111, 110, 101]⟩ ++ ⟨#[13, 10, 13, 10]⟩ ++ S : ByteArray).size := ⟨_, rfl⟩
    rw [← hZ] at kcv hya
    have g1 : ¬ 9223372036854775807 < 37 + S.size := by rw [hz2]; omega
    have HY := Lib.hid hya
    have HD0 := Lib.hid (HC0.out.trans (hyb.mono HC0.out.size))
    have HPa := Lib.hid hpa
    have HGe := Lib.hid hge
    have HRa := Lib.hid hra
    clear hpa hge hra hya hyb hcm hcz hme hZ htel hs2 hK
    go_wp2_with fail
    with_reducible refine (HPa.out _ _ HY.out (HE.out.below HD0.out)).mono ?_
    rintro e y1 ⟨ka, kc, ca, cn, cc, rfl, hta, hb⟩
    have HTa := Lib.hid hta
    have HY1 := Lib.hid (bytesArg.below HY.out hb)
    have HD1 := Lib.hid (HD0.out.trans (hb.mono HD0.out.size))
    clear hta hb
    go_upto_region 17 with fail
    have HX0 : Hid ((y1.alloc (.cells #[.int .i64 0, .int .i64 0, .int .i64 (K : Int), .int .i64 (K : Int), .int .i64 (N : Int), .slice ka 0 kc, .slice ca cn cc, .int .i64 0, .int .i64 0] 32)).heap[y1.heap.size]? = some (partO 0 0 K K N (.slice ka 0 kc) (.slice ca cn cc) 0 0)) := heap_alloc_new y1 _
    have HE0 : Hid (Below y1.heap.size y1 (y1.alloc (.cells #[.int .i64 0, .int .i64 0, .int .i64 (K : Int), .int .i64 (K : Int), .int .i64 (N : Int), .slice ka 0 kc, .slice ca cn cc, .int .i64 0, .int .i64 0] 32))) := (Below.refl _ _).alloc (Nat.le_refl _) _
    generalize (y1.alloc (.cells #[.int .i64 0, .int .i64 0, .int .i64 (K : Int), .int .i64 (K : Int), .int .i64 (N : Int), .slice ka 0 kc, .slice ca cn cc, .int .i64 0, .int .i64 0] 32)) = y2 at HX0 HE0 ⊢
    obtain ⟨t0, t1, t2, t3, t4, t5, t6, t7, t8⟩ := part_cells HX0.out
    have hy2 : y1.heap.size < y2.heap.size := (Array.getElem?_eq_some_iff.1 HX0.out).1
    unfold bgetPost at HGe
    simp only at HGe
    go_wp2_with fail
    with_reducible refine (HGe.out _ _ _ _ 1 _ ?k1 ?k2 ?k3 ?k4).mono ?_
    case k1 => exact bytesArg.below HY1.out (HE0.out.alloc HE0.out.size _)
    case k2 => exact HTa.out.below (HE0.out.alloc HE0.out.size _)
    case k3 => exact rowOf_one _ _ _
    case k4 => exact HLs.out.below (HD1.out.trans ((HE0.out.alloc HE0.out.size _).mono HD1.out.size))
    rintro e y3 ⟨u3, rfl, hu3, hb⟩
    have hg3 : Below y2.heap.size y2 y3 := ((Below.refl _ _).alloc (Nat.le_refl _) _).trans (hb.mono (by simp))
    have HU3 := Lib.hid hu3
    have HX3 := Lib.hid ((hg3.block _ hy2).trans HX0.out)
    have HE3 := Lib.hid (HE0.out.trans (hg3.mono HE0.out.size))
    clear hu3 hb hg3 t0 t1 t2 t3 t4 t5 t6 t7 t8
    obtain ⟨uo3, uc3, rfl, _, _, _⟩ := HU3.out
    obtain ⟨t0, t1, t2, t3, t4, t5, t6, t7, t8⟩ := part_cells HX3.out
    have hy3 : y1.heap.size < y3.heap.size := (Array.getElem?_eq_some_iff.1 HX3.out).1
    go_wp2_with fail
    go_ret
    exact ⟨rfl, HD1.out.trans (HE3.out.mono HD1.out.size)⟩
  · have m1 : (how : Int) % 5 = 4 := by omega
    have m2 : (how : Int).tmod 5 = 4 := by rw [Int.tmod_eq_emod_of_nonneg (by omega)]; exact m1
    have HW0 := Lib.hid hwd
    clear hr hh hwd
    go_enter Tryz.func3, Tryz.ntmps3
    go_wp2_with fail
    with_reducible refine HAw.out.mono ?_
    rintro e w1 ⟨rfl, hb1⟩
    have HB1 := Lib.hid hb1
    clear hb1 HAw
    go_upto_region 7 with fail
    obtain ⟨x0, hx⟩ : ∃ x0, x0 = (w1.alloc (.cells #[.string ⟨#[98, 97, 115, 101, 54, 52]⟩, .string ⟨#[81, 117, 111, 116, 101, 100, 45, 80, 114, 105, 110, 116, 97, 98, 108, 101]⟩, .string ⟨#[56, 98, 105, 116]⟩, .string ⟨#[120, 45, 110, 111, 110, 101]⟩, .string ⟨#[98, 97, 115, 101, 54, 52]⟩] 9)) := ⟨_, rfl⟩
    have HC0 : Hid (Below w.heap.size w x0) := by unfold Hid; rw [hx]; exact HB1.out.alloc HB1.out.size _
    rw [← hx]
    clear hx
    have k1 := bytesArg_string (bytesArg.below HV.out HC0.out)
    obtain ⟨S, hS⟩ : ∃ S : ByteArray, S = ⟨l.toArray⟩ := ⟨_, rfl⟩
    rw [← hS] at k1
    have HS : Hid (S.data.toList = l) := by unfold Hid; rw [hS]
    have HSs : Hid (∀ W u, bytesArg W u l → (convert 22 9 u).run Tryz.prog W = .ok (.string S) W) := fun W u h => by rw [hS]; exact bytesArg_string h
    clear hS
    obtain ⟨s, hse⟩ : ∃ s : List UInt8, s = [65] := ⟨_, rfl⟩
    have hsl : s.length ≤ 2000 := by rw [hse]; decide
    have htel : telL (undoL encBF s) = ([], 22) := by rw [hse, undo_b64]; rfl
    have hs2 : (⟨#[65]⟩ : ByteArray).data.toList = s := by rw [hse]
    have hz2 : (⟨#[65]⟩ : ByteArray).size = s.length := by rw [hse]; rfl
    clear hse
    obtain ⟨m, N, hme, hpa, hge, hra⟩ := bm_all frtB s (by rw [List.length_append, frtB.len]; omega) (by decide)
    rw [htel] at hge
    obtain ⟨K, hK⟩ : ∃ K : Nat, K = 37 := ⟨_, rfl⟩
    rw [← hK] at hpa hge hra
    have hcm : (⟨#[67, 111, 110, 116, 101, 110, 116, 45, 84, 114, 97, 110, 115, 102, 101, 114, 45, 69, 110, 99, 111, 100, 105, 110, 103, 58, 32]⟩ ++ ⟨#[98, 97, 115, 101, 54, 52]⟩ ++ ⟨#[13, 10, 13, 10]⟩ ++ (⟨#[65]⟩ : ByteArray) : ByteArray).data.toList = m := by
      rw [cat_toList, hs2, hme]
      rfl
    have hcz : (⟨#[67, 111, 110, 116, 101, 110, 116, 45, 84, 114, 97, 110, 115, 102, 101, 114, 45, 69, 110, 99, 111, 100, 105, 110, 103, 58, 32]⟩ ++ ⟨#[98, 97, 115, 101, 54, 52]⟩ ++ ⟨#[13, 10, 13, 10]⟩ ++ (⟨#[65]⟩ : ByteArray) : ByteArray).size = 37 + s.length := by
      rw [← len_toList, hcm, hme, List.length_append, frtB.len]
    obtain ⟨y0, yc, kcv, hya, hyb⟩ := HKc.out x0 (⟨#[67, 111, 110, 116, 101, 110, 116, 45, 84, 114, 97, 110, 115, 102, 101, 114, 45, 69, 110, 99, 111, 100, 105, 110, 103, 58, 32]⟩ ++ ⟨#[98, 97, 115, 101, 54, 52]⟩ ++ ⟨#[13, 10, 13, 10]⟩ ++ (⟨#[65]⟩ : ByteArray) : ByteArray) (by rw [hcz]; unfold maxLen; omega)
    rw [hcm] at hya
    obtain ⟨Z, hZ⟩ : ∃ Z, Z = (⟨#[67, 111, 110, 116, 101, 110, 116, 45, 84, 114, 97, 110, 115, 102, 101, 114, 45, 69, 110, 99, 111, 100, 105, 110, 103, 58, 32]⟩ ++ ⟨#[98, 97, 115, 101, 54, 52]⟩ ++ ⟨#[13, 10, 13, 10]⟩ ++ (⟨#[65]⟩ : ByteArray) : ByteArray).size := ⟨_, rfl⟩
    rw [← hZ] at kcv hya
    have g1 : ¬ 9223372036854775807 < 37 + (⟨#[65]⟩ : ByteArray).size := by rw [hz2]; omega
    have HY := Lib.hid hya
    have HD0 := Lib.hid (HC0.out.trans (hyb.mono HC0.out.size))
    have HPa := Lib.hid hpa
    have HGe := Lib.hid hge
    have HRa := Lib.hid hra
    clear hpa hge hra hya hyb hcm hcz hme hZ htel hs2 hK
    go_wp2_with fail
    with_reducible refine (HPa.out _ _ HY.out (HE.out.below HD0.out)).mono ?_
    rintro e y1 ⟨ka, kc, ca, cn, cc, rfl, hta, hb⟩
    have HTa := Lib.hid hta
    have HY1 := Lib.hid (bytesArg.below HY.out hb)
    have HD1 := Lib.hid (HD0.out.trans (hb.mono HD0.out.size))
    clear hta hb
    go_upto_region 17 with fail
    have HX0 : Hid ((y1.alloc (.cells #[.int .i64 0, .int .i64 0, .int .i64 (K : Int), .int .i64 (K : Int), .int .i64 (N : Int), .slice ka 0 kc, .slice ca cn cc, .int .i64 0, .int .i64 0] 32)).heap[y1.heap.size]? = some (partO 0 0 K K N (.slice ka 0 kc) (.slice ca cn cc) 0 0)) := heap_alloc_new y1 _
    have HE0 : Hid (Below y1.heap.size y1 (y1.alloc (.cells #[.int .i64 0, .int .i64 0, .int .i64 (K : Int), .int .i64 (K : Int), .int .i64 (N : Int), .slice ka 0 kc, .slice ca cn cc, .int .i64 0, .int .i64 0] 32))) := (Below.refl _ _).alloc (Nat.le_refl _) _
    generalize (y1.alloc (.cells #[.int .i64 0, .int .i64 0, .int .i64 (K : Int), .int .i64 (K : Int), .int .i64 (N : Int), .slice ka 0 kc, .slice ca cn cc, .int .i64 0, .int .i64 0] 32)) = y2 at HX0 HE0 ⊢
    obtain ⟨t0, t1, t2, t3, t4, t5, t6, t7, t8⟩ := part_cells HX0.out
    have hy2 : y1.heap.size < y2.heap.size := (Array.getElem?_eq_some_iff.1 HX0.out).1
    unfold bgetPost at HGe
    simp only at HGe
    go_wp2_with fail
    with_reducible refine (HGe.out _ _ _ _ 1 _ ?k1 ?k2 ?k3 ?k4).mono ?_
    case k1 => exact bytesArg.below HY1.out (HE0.out.alloc HE0.out.size _)
    case k2 => exact HTa.out.below (HE0.out.alloc HE0.out.size _)
    case k3 => exact rowOf_one _ _ _
    case k4 => exact HLs.out.below (HD1.out.trans ((HE0.out.alloc HE0.out.size _).mono HD1.out.size))
    rintro e y3 ⟨u3, rfl, hu3, hb⟩
    have hg3 : Below y2.heap.size y2 y3 := ((Below.refl _ _).alloc (Nat.le_refl _) _).trans (hb.mono (by simp))
    have HU3 := Lib.hid hu3
    have HX3 := Lib.hid ((hg3.block _ hy2).trans HX0.out)
    have HE3 := Lib.hid (HE0.out.trans (hg3.mono HE0.out.size))
    clear hu3 hb hg3 t0 t1 t2 t3 t4 t5 t6 t7 t8
    obtain ⟨uo3, uc3, rfl, _, _, _⟩ := HU3.out
    obtain ⟨t0, t1, t2, t3, t4, t5, t6, t7, t8⟩ := part_cells HX3.out
    have hy3 : y1.heap.size < y3.heap.size := (Array.getElem?_eq_some_iff.1 HX3.out).1
    go_wp2_with fail
    go_ret
    exact ⟨rfl, HD1.out.trans (HE3.out.mono HD1.out.size)⟩
end Go.Proofs.YteallnjbpikhhaaGreatDoor

/- The laws of layer 17 (binary), as their cards take them. -/
namespace Go.Proofs.YteallnjbpikhhaaGreatDoor
open Go Go.RowKit

theorem binaryBack_any (v : Value) (l : List UInt8) (how width : UInt8) (w : World) (hv : bytesArg w v l) (he : env w) (hls : lets w) :
    Calls Tryz.prog 3 #[v, .int .u8 (how.toNat : Int), .int .u8 (width.toNat : Int)] w fun e w' => e = .returned (.bool true) ∧ Below w.heap.size w w' :=
  bback_any v l how.toNat width.toNat w hv how.toNat_lt width.toNat_lt he hls
end Go.Proofs.YteallnjbpikhhaaGreatDoor
