/- Statement WordsMany: encoded words one behind the other, with whatever blanks between, are their texts, one behind the other. -/
import Derived.Test.YtolkjaebhhbilaaDoorWdI
import Derived.Deep.DeepCutAuto
import Derived.BigQuiet
namespace Go.Proofs.YtolkjaebhhbilaaDoor
open Go Go.RowKit

/-! ### Plain -/
def hexUp (n : Nat) : UInt8 := ([48, 49, 50, 51, 52, 53, 54, 55, 56, 57, 65, 66, 67, 68, 69, 70] : List UInt8).getD n 0
def hx2 (c : UInt8) : List UInt8 := [hexUp (c.toNat / 16), hexUp (c.toNat % 16)]
def hexW (c : UInt8) : List UInt8 := [61, 63, 73, 83, 79, 45, 56, 56, 53, 57, 45, 49, 63, 113, 63, 61] ++ hx2 c ++ [63, 61]
def gapL (g : UInt8) : List UInt8 := match g.toNat % 4 with | 0 => [] | 1 => [32] | 2 => [9] | _ => [32, 32]
def manyL : Bool → List UInt8 → List UInt8 → List UInt8
  | _, [], _ => []
  | _, c :: l, [] => hexW c ++ manyL false l []
  | b, c :: l, g :: gs => (if b then [] else gapL g) ++ hexW c ++ manyL false l gs
theorem manyL_nil (b : Bool) (gs : List UInt8) : manyL b [] gs = [] := by cases gs <;> rfl
theorem hexUp_facts : ∀ n, n < 16 → hexUp n ≠ 63 ∧ blk (hexUp n) = false ∧ hexV (hexUp n) = some n := by decide
theorem hx2_hexs (c : UInt8) : hexs 0 (hx2 c) = some c.toNat := by
  have hc := c.toNat_lt
  unfold hx2
  rw [hexs_two, (hexUp_facts _ (show c.toNat / 16 < 16 by omega)).2.2, (hexUp_facts _ (show c.toNat % 16 < 16 by omega)).2.2]
  show some (16 * (c.toNat / 16) + c.toNat % 16) = _
  congr 1
  omega
theorem kIso : kindL (starL [73, 83, 79, 45, 56, 56, 53, 57, 45, 49]) = 2 := by decide
theorem text_hex (c : UInt8) : textW [73, 83, 79, 45, 56, 56, 53, 57, 45, 49] 113 (61 :: hx2 c) = some (enc8 c) := by
  have h := hx2_hexs c
  unfold textW
  rw [kIso]
  unfold readL
  rw [if_neg (by decide), if_pos (by decide)]
  have e : qL (61 :: hx2 c) = some [c] := by
    unfold hx2 at h ⊢
    rw [qL_code [] h, byteN_self]
    rfl
  rw [e, Option.bind_some]
  unfold textK textM mostN
  have hc := c.toNat_lt
  rw [if_neg (by decide), if_neg (by decide), if_pos (by simp; omega)]
  simp
theorem word_hex (c : UInt8) (r : List UInt8) : ewL (hexW c ++ r) = some (enc8 c, (hexW c).length) := by
  have hc := c.toNat_lt
  have e : hexW c ++ r = 61 :: 63 :: ([73, 83, 79, 45, 56, 56, 53, 57, 45, 49] ++ 63 :: 113 :: 63 :: ((61 :: hx2 c) ++ 63 :: 61 :: r)) := by
    unfold hexW
    simp
  have f1 := hexUp_facts _ (show c.toNat / 16 < 16 by omega)
  have f2 := hexUp_facts _ (show c.toNat % 16 < 16 by omega)
  have hq : (63 : UInt8) ∉ 61 :: hx2 c := by
    unfold hx2
    simp only [List.mem_cons, List.not_mem_nil, or_false]
    rintro (h | h | h)
    · exact absurd h (by decide)
    · exact f1.1 h.symm
    · exact f2.1 h.symm
  have hb : (61 :: hx2 c).any blk = false := by
    unfold hx2
    rw [List.any_cons, List.any_cons, List.any_cons, f1.2.1, f2.2.1]
    rfl
  rw [e, ewL_make (by decide) (by decide) hq hb (text_hex c)]
  rfl
theorem gap_blk (g : UInt8) : ∀ c ∈ gapL g, blk c = true := by
  unfold gapL
  split <;> decide
theorem dec_many : ∀ l gs : List UInt8, l.length ≤ gs.length → decM (some []) (manyL false l gs) = l.flatMap enc8
  | [], _, _ => by unfold manyL; rw [decM_nil]; rfl
  | c :: l, [], h => by simp at h
  | c :: l, g :: gs, h => by
    have ih := dec_many l gs (by simpa using h)
    unfold manyL
    rw [if_neg (by decide), List.append_assoc, decM_blanks _ (gapL g) [] (gap_blk g), decM_word _ (word_hex c _), List.drop_left, ih, List.flatMap_cons]
theorem dec_first_many (l gs : List UInt8) (h : l.length ≤ gs.length) : decM none (manyL true l gs) = l.flatMap enc8 := by
  match l, gs, h with
  | [], _, _ => unfold manyL; rw [decM_nil]; rfl
  | c :: l, [], h => simp at h
  | c :: l, g :: gs, h =>
    unfold manyL
    rw [if_pos rfl, List.nil_append, decM_word _ (word_hex c _), List.drop_left, dec_many l gs (by simpa using h), List.flatMap_cons]
theorem many_step {l gs : List UInt8} {k : Nat} {b : Bool} (h1 : k < l.length) (h2 : k < gs.length) : manyL b (l.drop k) (gs.drop k) = (if b then [] else gapL gs[k]) ++ hexW l[k] ++ manyL false (l.drop (k + 1)) (gs.drop (k + 1)) := by
  rw [List.drop_eq_getElem_cons h1, List.drop_eq_getElem_cons h2]
  rfl
theorem and15 (b : UInt8) : bits .and .u8 (b.toNat : Int) 15 = ((b.toNat % 16 : Nat) : Int) := by
  have := and_u8 b.toNat 15 b.toNat_lt (by omega)
  rw [show (15 : Nat) = 2 ^ 4 - 1 from rfl, Nat.and_two_pow_sub_one_eq_mod] at this
  exact this
theorem and3w (b : UInt8) : bits .and .u8 (b.toNat : Int) 3 = ((b.toNat % 4 : Nat) : Int) := by
  have := and_u8 b.toNat 3 b.toNat_lt (by omega)
  rw [show (3 : Nat) = 2 ^ 2 - 1 from rfl, Nat.and_two_pow_sub_one_eq_mod] at this
  exact this
theorem conv_rune (R : Nat) (W : World) : (convert 21 9 (.int .i32 (R : Int))).run Tryd.prog W = .ok (.string (Utf8.encode (R : Int))) W := by kernel_rfl
theorem utf8_enc (R : Nat) (h : R < 256) : (Utf8.encode (R : Int)).data.toList = Lib.encodeRune (R : Int) := by
  have hv : Utf8.valid (R : Int) = true := by
    simp [Utf8.valid]
    omega
  unfold Lib.encodeRune
  by_cases h1 : R < 128
  · rw [Lib.encodeRuneZ_one (by omega) (by omega)]
    simp only [List.map_cons, List.map_nil]
    rw [toU8 (n := R) rfl]
    unfold Utf8.encode
    simp only [hv, if_true, Int.toNat_natCast]
    rw [if_pos h1]
    rfl
  · rw [Lib.encodeRuneZ_two (by omega) (by omega)]
    simp only [List.map_cons, List.map_nil]
    rw [toU8 (n := 192 + R / 64) (by omega), toU8 (n := 128 + R % 64) (by omega)]
    unfold Utf8.encode
    simp only [hv, if_true, Int.toNat_natCast]
    rw [if_neg h1, if_pos (by omega)]
    rfl
theorem rune_text (c : UInt8) : (Utf8.encode (c.toNat : Int)).data.toList = enc8 c := by
  have hc := c.toNat_lt
  rw [utf8_enc c.toNat (by omega), ← enc8_rune c.toNat (by omega), byteN_self]
def gapS (m : Nat) : ByteArray := match m with | 0 => ⟨#[]⟩ | 1 => ⟨#[32]⟩ | 2 => ⟨#[9]⟩ | _ => ⟨#[32, 32]⟩
theorem gap_cell (W : World) (t : TypeId) (m : Nat) (h : m < 4) : (W.alloc (.cells #[.string ⟨#[]⟩, .string ⟨#[32]⟩, .string ⟨#[9]⟩, .string ⟨#[32, 32]⟩] t)).cell? ⟨W.heap.size, m, none⟩ = some (.string (gapS m)) := by
  simp only [World.cell?, heap_alloc_new]
  rcases (show m = 0 ∨ m = 1 ∨ m = 2 ∨ m = 3 by omega) with rfl | rfl | rfl | rfl <;> rfl
theorem gap_list (g : UInt8) : (gapS (g.toNat % 4)).data.toList = gapL g := by
  have h : g.toNat % 4 < 4 := Nat.mod_lt _ (by decide)
  unfold gapL
  rcases (show g.toNat % 4 = 0 ∨ g.toNat % 4 = 1 ∨ g.toNat % 4 = 2 ∨ g.toNat % 4 = 3 by omega) with e | e | e | e <;> (rw [e]; rfl)
theorem gap_size (m : Nat) (h : m < 4) : (gapS m).size ≤ 2 := by
  rcases (show m = 0 ∨ m = 1 ∨ m = 2 ∨ m = 3 by omega) with rfl | rfl | rfl | rfl <;> decide
def tabU : ByteArray := ⟨#[48, 49, 50, 51, 52, 53, 54, 55, 56, 57, 65, 66, 67, 68, 69, 70]⟩
theorem tab_at (x : Nat) (h : x < 16) : ((⟨#[48, 49, 50, 51, 52, 53, 54, 55, 56, 57, 65, 66, 67, 68, 69, 70]⟩ : ByteArray).extract x (x + 1)).data.toList = [hexUp x] := by
  rcases (show x = 0 ∨ x = 1 ∨ x = 2 ∨ x = 3 ∨ x = 4 ∨ x = 5 ∨ x = 6 ∨ x = 7 ∨ x = 8 ∨ x = 9 ∨ x = 10 ∨ x = 11 ∨ x = 12 ∨ x = 13 ∨ x = 14 ∨ x = 15 by omega) with rfl | rfl | rfl | rfl | rfl | rfl | rfl | rfl | rfl | rfl | rfl | rfl | rfl | rfl | rfl | rfl <;> rfl

set_option maxRecDepth 100000 in
set_option maxHeartbeats 8000000 in
theorem wordsMany_any (v : Value) (l : List UInt8) (gv : Value) (gs : List UInt8) (w : World) (hv : bytesArg w v l) (hg : bytesArg w gv gs) (hE : env w) :
    Calls Tryd.prog 5 #[v, gv] w fun e w' => e = .returned (.bool true) ∧ Below w.heap.size w w' := by
  have HAw := Lib.hid (awake_any w hE)
  have HEn := Lib.hid hE
  clear hE
  obtain ⟨ao, cap, rfl, hc, hm, hs⟩ := hv
  obtain ⟨go, gap, rfl, hgc, hgm, hgs⟩ := hg
  unfold maxLen at hm hgm
  have HS := Lib.hid hs
  have HG := Lib.hid hgs
  clear hs hgs
  by_cases h1 : 20 < l.length
  · have q2 : (20 : Int) < (l.length : Int) := by omega
    have q1 : decide ((20 : Int) < (l.length : Int)) = true := decide_eq_true q2
    go_enter Tryd.func5, Tryd.ntmps5
    go_wp2_with fail
    with_reducible refine HAw.out.mono ?_
    rintro e w1 ⟨rfl, hb1⟩
    go_wp2_with fail
    go_ret
    exact ⟨rfl, hb1⟩
  have q2 : ¬ (20 : Int) < (l.length : Int) := by omega
  have q1 : decide ((20 : Int) < (l.length : Int)) = false := decide_eq_false q2
  by_cases h2 : gs.length < l.length
  · have q4 : (gs.length : Int) < (l.length : Int) := by omega
    have q3 : decide ((gs.length : Int) < (l.length : Int)) = true := decide_eq_true q4
    go_enter Tryd.func5, Tryd.ntmps5
    go_wp2_with fail
    with_reducible refine HAw.out.mono ?_
    rintro e w1 ⟨rfl, hb1⟩
    go_wp2_with fail
    go_ret
    exact ⟨rfl, hb1⟩
  have q4 : ¬ (gs.length : Int) < (l.length : Int) := by omega
  have q3 : decide ((gs.length : Int) < (l.length : Int)) = false := decide_eq_false q4
  have HDe := Lib.hid (fun (X : ByteArray) (hX : X.size ≤ 100000) W (hb : Below w.heap.size w W) => Decode_any X W hX (HEn.out.below hb))
  go_enter Tryd.func5, Tryd.ntmps5
  go_wp2_with fail
  with_reducible refine HAw.out.mono ?_
  rintro e w1 ⟨rfl, hb1⟩
  have HB1 := Lib.hid hb1
  clear hb1
  go_wp2_with fail
  go_loopg [6, 7, 8, 9, 10] l.length (fun g v6 v7 v8 v9 v10 wr => ∃ (k : Nat) (S T : ByteArray), g = l.length - k ∧ k ≤ l.length ∧ v8 = .int .i64 (k : Int) ∧ v6 = .string S ∧ v7 = .string T ∧ S.size ≤ 30 * k ∧ T.size ≤ 2 * k ∧ Hid (S.data.toList ++ manyL (decide (k = 0)) (l.drop k) (gs.drop k) = manyL true l gs) ∧
    Hid (T.data.toList ++ (l.drop k).flatMap enc8 = l.flatMap enc8) ∧ Hid (Below w.heap.size w wr))
  case atStart => exact ⟨0, ⟨#[]⟩, ⟨#[]⟩, rfl, Nat.zero_le _, rfl, rfl, rfl, Nat.le_refl _, Nat.le_refl _, rfl, rfl, HB1.out⟩
  case round =>
    obtain ⟨k, S, T, rfl, hk, rfl, rfl, rfl, hSz, hTz, HM, HT, HB⟩ := hrel
    by_cases hlt : k < l.length
    · have hlti : (k : Int) < (l.length : Int) := by omega
      have hltg : k < gs.length := by omega
      have hltgi : (k : Int) < (gs.length : Int) := by omega
      have HSt := Lib.hid (many_step (b := decide (k = 0)) hlt hltg)
      have HTs := Lib.hid (List.drop_eq_getElem_cons hlt)
      rcases HS.out with e | ⟨b, off, rfl, hb, hcell⟩
      · rw [e] at hlt; simp at hlt
      rcases HG.out with e | ⟨gb, goff, rfl, hgb, hgcell⟩
      · rw [e] at hltg; simp at hltg
      have x0 := hcell k hlt
      have y0 := hgcell k hltg
      obtain ⟨c, hc0⟩ : ∃ c, c = l[k] := ⟨_, rfl⟩
      obtain ⟨g, hg0⟩ : ∃ g, g = gs[k] := ⟨_, rfl⟩
      rw [← hc0] at x0 HSt HTs
      rw [← hg0] at y0 HSt
      have hx0 : wr.cell? ⟨b, off + k, none⟩ = some (.int .u8 (c.toNat : Int)) := (HB.out.cell (p := ⟨b, off + k, none⟩) hb).trans x0
      have HY0 : Hid (∀ W, Below w.heap.size w W → W.cell? ⟨gb, goff + k, none⟩ = some (.int .u8 (g.toNat : Int))) := fun W hW => (hW.cell (p := ⟨gb, goff + k, none⟩) hgb).trans y0
      have hct := c.toNat_lt
      have hgt := g.toNat_lt
      clear x0 y0 hcell hgcell hc0 hg0
      obtain ⟨x, hx⟩ : ∃ x, x = c.toNat / 16 := ⟨_, rfl⟩
      obtain ⟨y, hy⟩ : ∃ y, y = c.toNat % 16 := ⟨_, rfl⟩
      have e4 : (c.toNat : Int) / 16 = (x : Int) := by omega
      have a15 := and15 c
      rw [← hy] at a15
      have hx16 : x < 16 := by omega
      have hy16 : y < 16 := by omega
      have e5 : ((x : Int) + 1) % 256 = (x : Int) + 1 := by omega
      have e6 : ((y : Int) + 1) % 256 = (y : Int) + 1 := by omega
      have e7 : (x : Int) + 1 ≤ 16 := by omega
      have e8 : (y : Int) + 1 ≤ 16 := by omega
      have HX := Lib.hid (tab_at x hx16)
      have HY := Lib.hid (tab_at y hy16)
      have HH : Hid (hx2 c = [hexUp x, hexUp y]) := by unfold Hid hx2; rw [hx, hy]
      clear hx hy
      go_wp2_with fail
      go_quiet (fail)
      obtain ⟨w2, hw2⟩ : ∃ w2, w2 = wr.drewN nq := ⟨_, rfl⟩
      have HB2 : Hid (Below w.heap.size w w2) := by rw [hw2]; exact HB.out.trans ((below_drewN' nq).mono HB.out.size)
      rw [← hw2]
      obtain ⟨HX2, hHX⟩ : ∃ H : ByteArray, H = (⟨#[48, 49, 50, 51, 52, 53, 54, 55, 56, 57, 65, 66, 67, 68, 69, 70]⟩ : ByteArray).extract x (x + 1) ++ (⟨#[48, 49, 50, 51, 52, 53, 54, 55, 56, 57, 65, 66, 67, 68, 69, 70]⟩ : ByteArray).extract y (y + 1) := ⟨_, rfl⟩
      have HHl : Hid (HX2.data.toList = hx2 c) := by
        unfold Hid
        rw [hHX, cat_toList, HX.out, HY.out, HH.out]
        rfl
      have hhz : HX2.size = 2 := by rw [bytes_len, HHl.out]; rfl
      rw [← hHX]
      obtain ⟨C8, hC8⟩ : ∃ C8 : ByteArray, C8 = Utf8.encode (c.toNat : Int) := ⟨_, rfl⟩
      have HC8 : Hid (C8.data.toList = enc8 c) := by unfold Hid; rw [hC8]; exact rune_text c
      have hcz : C8.size ≤ 2 := by rw [bytes_len, HC8.out]; exact (enc8_len c).2
      have hcr : ∀ W, (convert 21 9 (.int .i32 (c.toNat : Int))).run Tryd.prog W = .ok (.string C8) W := fun W => by rw [hC8]; exact conv_rune c.toNat W
      have c32 : IntKind.i32.wrap (c.toNat : Int) = (c.toNat : Int) := by rw [IntKind.wrap_i32]; omega
      have c32w : wrap32 (c.toNat : Int) = (c.toNat : Int) := by unfold wrap32; omega
      clear hw2 hHX hC8 e4 e5 e6 e7 e8 a15 hx16 hy16 hx0
      by_cases hk0 : k = 0
      · subst hk0
        have hres : Hid ((S ++ ((⟨#[61, 63, 73, 83, 79, 45, 56, 56, 53, 57, 45, 49, 63, 113, 63, 61]⟩ : ByteArray) ++ HX2 ++ ⟨#[63, 61]⟩)).data.toList = S.data.toList ++ hexW c) := by
          unfold Hid hexW
          rw [cat_toList, cat_toList, cat_toList, HHl.out]
        go_wp2_with fail
        go_roundg (l.length - 1)
        case measure => omega
        case rel =>
          refine ⟨1, _, _, rfl, hlt, rfl, rfl, rfl, ?_, ?_, ?_, ?_, HB2.out⟩
          · rw [ByteArray.size_append, ByteArray.size_append, ByteArray.size_append]
            show S.size + (16 + HX2.size + 2) ≤ _
            omega
          · rw [ByteArray.size_append]; omega
          · unfold Hid
            rw [← HM.out, HSt.out, hres.out]
            simp
          · unfold Hid
            rw [← HT.out, HTs.out, cat_toList, HC8.out]
            simp
      · have hk0i : (0 : Int) < (k : Int) := by omega
        have a3 := and3w g
        obtain ⟨m, hmm⟩ : ∃ m, m = g.toNat % 4 := ⟨_, rfl⟩
        have hm4 : m < 4 := by omega
        have HGl : Hid ((gapS m).data.toList = gapL g) := by rw [hmm]; exact gap_list g
        have hgz := gap_size m hm4
        have hgc2 := gap_cell w2 9 m hm4
        have hy0 : (w2.alloc (.cells #[.string ⟨#[]⟩, .string ⟨#[32]⟩, .string ⟨#[9]⟩, .string ⟨#[32, 32]⟩] 9)).cell? ⟨gb, goff + k, none⟩ = some (.int .u8 (g.toNat : Int)) := HY0.out _ (HB2.out.alloc HB2.out.size _)
        have HB3 : Hid (Below w.heap.size w (w2.alloc (.cells #[.string ⟨#[]⟩, .string ⟨#[32]⟩, .string ⟨#[9]⟩, .string ⟨#[32, 32]⟩] 9))) := HB2.out.alloc HB2.out.size _
        rw [← hmm] at a3
        have hm4i : (m : Int) < 4 := by omega
        obtain ⟨G, hG⟩ : ∃ G, G = gapS m := ⟨_, rfl⟩
        rw [← hG] at HGl hgz hgc2
        have hres : Hid ((S ++ G ++ ((⟨#[61, 63, 73, 83, 79, 45, 56, 56, 53, 57, 45, 49, 63, 113, 63, 61]⟩ : ByteArray) ++ HX2 ++ ⟨#[63, 61]⟩)).data.toList = S.data.toList ++ (gapL g ++ hexW c)) := by
          unfold Hid hexW
          rw [cat_toList, cat_toList, cat_toList, cat_toList, HHl.out, HGl.out, List.append_assoc]
        have HSt2 : Hid (manyL (decide (k = 0)) (l.drop k) (gs.drop k) = gapL g ++ hexW c ++ manyL false (l.drop (k + 1)) (gs.drop (k + 1))) := by
          unfold Hid
          rw [HSt.out, if_neg (by simpa using hk0)]
        clear hmm hG hk0 HSt
        go_wp2_with fail
        go_roundg (l.length - (k + 1))
        case measure => omega
        case rel =>
          refine ⟨k + 1, _, _, rfl, hlt, by go_num, rfl, rfl, ?_, ?_, ?_, ?_, HB3.out⟩
          · rw [ByteArray.size_append, ByteArray.size_append, ByteArray.size_append, ByteArray.size_append]
            show S.size + G.size + (16 + HX2.size + 2) ≤ _
            omega
          · rw [ByteArray.size_append]; omega
          · unfold Hid
            rw [← HM.out, HSt2.out, hres.out]
            simp
          · unfold Hid
            rw [← HT.out, HTs.out, cat_toList, HC8.out]
            simp
    · have hni : ¬ (k : Int) < (l.length : Int) := by omega
      obtain rfl : k = l.length := by omega
      have HX : Hid (decM none S.data.toList = T.data.toList) := by
        have e1 := HM.out
        have e2 := HT.out
        rw [List.drop_length] at e1 e2
        rw [manyL_nil, List.append_nil] at e1
        rw [List.flatMap_nil, List.append_nil] at e2
        unfold Hid
        rw [e1, e2]
        exact dec_first_many l gs (by omega)
      have HD1 := Lib.hid (HDe.out S (by omega) wr HB.out)
      rw [HX.out] at HD1
      obtain ⟨D, hD⟩ : ∃ D : ByteArray, D = ⟨T.data.toList.toArray⟩ := ⟨_, rfl⟩
      have r1 : (D.toList == T.toList) = true := str_eq (by rw [hD])
      rw [← hD] at HD1
      clear hD
      go_wp2_with fail
      with_reducible refine HD1.out.mono ?_
      rintro e w3 ⟨rfl, hb3⟩
      have HB3 := Lib.hid (HB.out.trans (hb3.mono HB.out.size))
      clear hb3
      go_wp2_with fail
      go_ret
      exact ⟨rfl, HB3.out⟩
end Go.Proofs.YtolkjaebhhbilaaDoor
