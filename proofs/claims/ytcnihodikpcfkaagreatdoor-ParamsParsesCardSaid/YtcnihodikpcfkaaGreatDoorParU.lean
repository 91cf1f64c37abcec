/- Contracts of package params: Get; the example that every statement asks first. -/
import Derived.Test.YtcnihodikpcfkaaGreatDoorParT
import Derived.Test.YtcnihodikpcfkaaGreatDoorParE
namespace Go.Proofs.YtcnihodikpcfkaaGreatDoor
open Go Go.RowKit

def getP (ps : List Prm) (nm : List UInt8) : Option (List UInt8) := (ps.find? (fun p => foldS p.1 == foldS nm)).map (·.2)
theorem getP_nil (nm : List UInt8) : getP [] nm = none := rfl
theorem getP_hit {p : Prm} {ps : List Prm} {nm : List UInt8} (h : foldS p.1 = foldS nm) : getP (p :: ps) nm = some p.2 := by
  unfold getP
  rw [List.find?_cons_of_pos (by simpa using h)]
  rfl
theorem getP_miss {p : Prm} {ps : List Prm} {nm : List UInt8} (h : ¬ foldS p.1 = foldS nm) : getP (p :: ps) nm = getP ps nm := by
  unfold getP
  rw [List.find?_cons_of_neg (by simpa using h)]
def exText : ByteArray := ⟨#[116, 101, 120, 116, 47, 112, 108, 97, 105, 110, 59, 32, 99, 104, 97, 114, 115, 101, 116, 61, 34, 97, 32, 98, 34, 59, 32, 120, 42, 49, 61, 99, 59, 32, 120, 42, 48, 42, 61, 39, 39, 37, 52, 49]⟩
def exPrms : List Prm := [([99, 104, 97, 114, 115, 101, 116], [97, 32, 98]), ([120, 42, 49], [99]), ([120, 42, 48, 42], [39, 39, 37, 52, 49])]
theorem ex_pars : parsL 34 (exText.data.toList.drop 10) = exPrms := by kernel_rfl
theorem ex_piece0 : pieceL exPrms [120] 0 = some [65] := by
  unfold pieceL
  rw [Lib.decDigits_one (by decide)]
  kernel_rfl
theorem ex_piece1 : pieceL exPrms [120] 1 = some [99] := by
  unfold pieceL
  rw [Lib.decDigits_one (by decide)]
  kernel_rfl
theorem ex_piece2 : pieceL exPrms [120] 2 = none := by
  unfold pieceL
  rw [Lib.decDigits_one (by decide)]
  kernel_rfl
theorem ex_told : toldL exPrms [120] = some [65, 99] := by
  have h : toldL exPrms [120] = if (pieceL exPrms [120] 0).isSome then some (pcsL exPrms [120] 4 0) else none := by kernel_rfl
  rw [h, ex_piece0, pcsL_step ex_piece0, pcsL_step ex_piece1, pcsL_end ex_piece2]
  rfl
theorem ex_join : joinL exPrms = [([99, 104, 97, 114, 115, 101, 116], [97, 32, 98]), ([120], [65, 99])] := by
  have h : joinL exPrms = ([99, 104, 97, 114, 115, 101, 116], [97, 32, 98]) :: (match toldL exPrms [120] with
      | some v => ([120], v) :: joinA exPrms [[120], [99, 104, 97, 114, 115, 101, 116]] [([120, 42, 48, 42], [39, 39, 37, 52, 49])]
      | none => joinA exPrms [[120], [99, 104, 97, 114, 115, 101, 116]] [([120, 42, 48, 42], [39, 39, 37, 52, 49])]) := by kernel_rfl
  rw [h, ex_told]
  rfl
theorem ex_parse : parseL exText.data.toList true = some ⟨[116, 101, 120, 116], [112, 108, 97, 105, 110], [([99, 104, 97, 114, 115, 101, 116], [97, 32, 98]), ([120], [65, 99])]⟩ := by
  have h : parseL exText.data.toList true = some ⟨[116, 101, 120, 116], [112, 108, 97, 105, 110], joinL (parsL 34 (exText.data.toList.drop 10))⟩ := by kernel_rfl
  rw [h, ex_pars, ex_join]
theorem ex_none : parseL (⟨#[116, 101, 120, 116]⟩ : ByteArray).data.toList true = none := by kernel_rfl

def small1 (ps : List Prm) : Prop := ∀ p ∈ ps, p.1.length ≤ 1000000
set_option maxRecDepth 100000 in
set_option maxHeartbeats 2000000 in
theorem get_any (ts sb : ByteArray) (u : Value) (ps : List Prm) (nm : ByteArray) (w : World) (hu : prmAt w u ps) (hps : small1 ps) :
    Calls Tryz.prog 10 #[.agg #[.string ts, .string sb, u], .string nm] w fun e w' => e = .returned (getOV (getP ps nm.data.toList)) ∧ Below w.heap.size w w' := by
  have HU := Lib.hid hu
  obtain ⟨ao, cap, rfl, hcl, hcm, hcell⟩ := hu
  unfold maxLen at hcm
  clear hcell
  have HSa := Lib.hid (fun (a : ByteArray) W h => same_any a nm W h)
  go_enter Tryz.func10, Tryz.ntmps10
  go_wp2_with fail
  go_loopg [11] ps.length (fun g v11 wr => ∃ k : Nat, g = ps.length - k ∧ k ≤ ps.length ∧ v11 = .int .i64 (k : Int) ∧ Hid (Below w.heap.size w wr) ∧ Hid (getP ps nm.data.toList = getP (ps.drop k) nm.data.toList))
  case atStart => exact ⟨0, by omega, by omega, rfl, (Below.refl _ _).alloc (Nat.le_refl _) _, rfl⟩
  case round =>
    obtain ⟨k, rfl, hk, rfl, HB, HS⟩ := hrel
    by_cases hlt : k < ps.length
    · obtain ⟨_, _, e0, _, _, hc⟩ := HU.out.below HB.out
      cases e0
      rcases hc with h0 | ⟨g, rfl, hg, hcc⟩
      · rw [h0] at hlt
        simp at hlt
      · obtain ⟨d0, d1⟩ := hcc k hlt
        have hsm := hps ps[k] (List.getElem_mem hlt)
        have HStep : Hid (ps.drop k = ps[k] :: ps.drop (k + 1)) := List.drop_eq_getElem_cons hlt
        rw [HStep.out] at HS
        obtain ⟨p, hp⟩ : ∃ p, p = ps[k] := ⟨_, rfl⟩
        rw [← hp] at d0 d1 HS hsm
        obtain ⟨pn, pv⟩ := p
        have HA : Hid (Below wr.heap.size wr (wr.alloc (.cells #[.string ⟨pn.toArray⟩, .string ⟨pv.toArray⟩] 42))) := (Below.refl _ _).alloc (Nat.le_refl _) _
        have HSa1 := Lib.hid (HSa.out ⟨pn.toArray⟩ (wr.alloc (.cells #[.string ⟨pn.toArray⟩, .string ⟨pv.toArray⟩] 42)) (by rw [toArr_size]; exact Nat.le_trans hsm (by omega)))
        clear hcc hp HStep
        by_cases hf : foldS pn = foldS nm.data.toList
        · have HF : Hid (decide (foldS (⟨pn.toArray⟩ : ByteArray).data.toList = foldS nm.data.toList) = true) := decide_eq_true hf
          have HG : Hid (getP ((pn, pv) :: ps.drop (k + 1)) nm.data.toList = some pv) := getP_hit hf
          rw [HF.out] at HSa1
          clear hf
          go_wp2_with fail
          with_reducible refine HSa1.out.mono ?_
          rintro e w2 ⟨rfl, n, hw2⟩
          have hb2 : Below (wr.alloc (.cells #[.string ⟨pn.toArray⟩, .string ⟨pv.toArray⟩] 42)).heap.size (wr.alloc (.cells #[.string ⟨pn.toArray⟩, .string ⟨pv.toArray⟩] 42)) w2 := by rw [hw2]; exact below_drewN' _
          obtain ⟨e0, e1⟩ := box2_cells hb2
          have HB2 : Hid (Below w.heap.size w w2) := (HB.out.trans (HA.out.mono HB.out.size)).trans (hb2.mono (by have := HB.out.size; simp; omega))
          clear hw2 hb2 e0
          go_wp2_with fail
          go_ret2
          exact ⟨by rw [HS.out, HG.out]; rfl, HB2.out⟩
        · have HF : Hid (decide (foldS (⟨pn.toArray⟩ : ByteArray).data.toList = foldS nm.data.toList) = false) := decide_eq_false hf
          have HG : Hid (getP ((pn, pv) :: ps.drop (k + 1)) nm.data.toList = getP (ps.drop (k + 1)) nm.data.toList) := getP_miss hf
          rw [HF.out] at HSa1
          clear hf
          go_wp2_with fail
          with_reducible refine HSa1.out.mono ?_
          rintro e w2 ⟨rfl, n, hw2⟩
          have hb2 : Below (wr.alloc (.cells #[.string ⟨pn.toArray⟩, .string ⟨pv.toArray⟩] 42)).heap.size (wr.alloc (.cells #[.string ⟨pn.toArray⟩, .string ⟨pv.toArray⟩] 42)) w2 := by rw [hw2]; exact below_drewN' _
          have HB2 : Hid (Below w.heap.size w w2) := (HB.out.trans (HA.out.mono HB.out.size)).trans (hb2.mono (by have := HB.out.size; simp; omega))
          clear hw2 hb2
          go_wp2_with fail
          go_roundg (ps.length - (k + 1))
          case measure => omega
          case rel => exact ⟨k + 1, rfl, by omega, by go_num, HB2.out, by unfold Hid; rw [HS.out, HG.out]⟩
    · have HN : Hid (ps.drop k = []) := List.drop_eq_nil_of_le (by omega)
      go_wp2_with fail
      go_ret2
      exact ⟨by rw [HS.out, HN.out]; rfl, HB.out⟩

theorem own_slice {w : World} {base : Nat} {e : TypeId} {size : Nat} {v : Value} {n : Nat} {xs : List Value} (h : w.ownsRow base e size v n xs) : ∃ a m c, v = .slice a m c := by
  rcases h.2 with ⟨h, _⟩ | ⟨g, cp, cur, h, _⟩
  · exact ⟨_, _, _, h⟩
  · exact ⟨_, _, _, h⟩
/-- A value that was told. -/
theorem parse_some (s : ByteArray) (two : Bool) (V : Val) (hV : parseL s.data.toList two = some V) (w : World) (hl : s.size ≤ 100000) (he : env w) :
    Calls Tryz.prog 8 #[.string s, .bool two] w fun e w' => ∃ a n c, e = .returned (.tuple #[.agg #[.string ⟨V.type.toArray⟩, .string ⟨V.sub.toArray⟩, .slice a n c], .bool true]) ∧ prmAt w' (.slice a n c) V.params ∧ Below w.heap.size w w' :=
  (parse_any s two w hl he).mono fun e w' ⟨t, sb, u, ps, b, he, hown, hb, hc⟩ => by
    rw [hV] at hc
    obtain ⟨rfl, rfl, rfl, rfl⟩ := hc
    obtain ⟨a, n, c, rfl⟩ := own_slice hown
    exact ⟨a, n, c, he, prmAt_owned hown, hb⟩
theorem parse_none (s : ByteArray) (two : Bool) (hV : parseL s.data.toList two = none) (w : World) (hl : s.size ≤ 100000) (he : env w) :
    Calls Tryz.prog 8 #[.string s, .bool two] w fun e w' => ∃ a n c, e = .returned (.tuple #[.agg #[.string ⟨#[]⟩, .string ⟨#[]⟩, .slice a n c], .bool false]) ∧ prmAt w' (.slice a n c) [] ∧ Below w.heap.size w w' :=
  (parse_any s two w hl he).mono fun e w' ⟨t, sb, u, ps, b, he, hown, hb, hc⟩ => by
    rw [hV] at hc
    obtain ⟨rfl, rfl, rfl, rfl⟩ := hc
    obtain ⟨a, n, c, rfl⟩ := own_slice hown
    exact ⟨a, n, c, he, prmAt_owned hown, hb⟩
theorem box3_cells {W W' : World} {t : TypeId} {a b c : Value} (h : Below (W.alloc (.cells #[a, b, c] t)).heap.size (W.alloc (.cells #[a, b, c] t)) W') :
    W'.cell? ⟨W.heap.size, 0, none⟩ = some a ∧ W'.cell? ⟨W.heap.size, 1, none⟩ = some b ∧ W'.cell? ⟨W.heap.size, 2, none⟩ = some c := by
  have e : W'.heap[W.heap.size]? = some (.cells #[a, b, c] t (0, 0)) := (h.block _ (by simp)).trans (heap_alloc_new W _)
  simp [World.cell?, e]
def exOut : List Prm := [([99, 104, 97, 114, 115, 101, 116], [97, 32, 98]), ([120], [65, 99])]
theorem ex_get : getP exOut (⟨#[88]⟩ : ByteArray).data.toList = some [65, 99] := by kernel_rfl
theorem ex_quote : quoteL (⟨#[97, 34]⟩ : ByteArray).data.toList = [34, 97, 92, 34, 34] := by kernel_rfl

set_option maxRecDepth 100000 in
set_option maxHeartbeats 4000000 in
theorem awake_any (w : World) (he : env w) :
    Calls Tryz.prog 7 #[] w fun e w' => e = .returned (.bool true) ∧ Below w.heap.size w w' := by
  have HE := Lib.hid he
  have HP1 := Lib.hid (parse_some exText true _ ex_parse w (by decide) he)
  have HP2 := Lib.hid (fun W h => parse_none ⟨#[116, 101, 120, 116]⟩ true ex_none W (by decide) h)
  have HQ := Lib.hid (fun W => quoted_any ⟨#[97, 34]⟩ W (by decide))
  rw [ex_quote] at HQ
  have HG := Lib.hid (fun u W h1 => get_any ⟨#[116, 101, 120, 116]⟩ ⟨#[112, 108, 97, 105, 110]⟩ u exOut ⟨#[88]⟩ W h1 (by intro p hp; have : p.1.length ≤ 7 := by { simp [exOut] at hp; rcases hp with rfl | rfl <;> simp }; omega))
  rw [ex_get] at HG
  unfold exText at HP1
  clear he
  go_enter Tryz.func7, Tryz.ntmps7
  go_wp2_with fail
  with_reducible refine HP1.out.mono ?_
  rintro e w1 ⟨a1, n1, c1, rfl, hpr1, hb1⟩
  have HB1 := Lib.hid hb1
  obtain ⟨a, cap, hsl, hc1, hc2, hcell⟩ := hpr1
  cases hsl
  rcases hcell with h0 | ⟨g, rfl, hg, hcell⟩
  · cases h0
  have hcx := (hcell 0 (by decide)).2
  have HPr : Hid (prmAt w1 (.slice (some ⟨g, 0, none⟩) 2 c1) exOut) := ⟨_, c1, rfl, hc1, hc2, .inr ⟨g, rfl, hg, hcell⟩⟩
  have HC := Lib.hid hcx
  have hA : Below w1.heap.size w1 (w1.alloc (.cells #[.string ⟨#[116, 101, 120, 116]⟩, .string ⟨#[112, 108, 97, 105, 110]⟩, .slice (some ⟨g, 0, none⟩) 2 c1] 25)) := (Below.refl _ _).alloc (Nat.le_refl _) _
  have HA := Lib.hid hA
  have HG1 := Lib.hid (HG.out _ _ (HPr.out.below hA))
  clear hcell hc1 hc2 hcx hb1 HP1 HG hA
  simp only [List.length_cons, List.length_nil]
  go_wp2_with fail
  with_reducible refine HG1.out.mono ?_
  rintro e w2 ⟨rfl, hb2⟩
  obtain ⟨x0, x1, x2⟩ := box3_cells hb2
  have HB2 : Hid (Below w1.heap.size w1 w2) := HA.out.trans (hb2.mono (by simp))
  have hl2 : w1.heap.size < w2.heap.size := World.block_lt_of_cell? _ _ x0
  have HP2' := Lib.hid (HP2.out w2 (HE.out.below (HB1.out.trans (HB2.out.mono HB1.out.size))))
  clear hb2 HG1 HP2 HA
  unfold getOV
  go_wp2_with fail
  with_reducible refine HP2'.out.mono ?_
  rintro e w3 ⟨a3, n3, c3, rfl, _, hb3⟩
  replace x0 := (hb3.cell (p := ⟨w1.heap.size, 0, none⟩) hl2).trans x0
  replace x1 := (hb3.cell (p := ⟨w1.heap.size, 1, none⟩) hl2).trans x1
  replace x2 := (hb3.cell (p := ⟨w1.heap.size, 2, none⟩) hl2).trans x2
  have HB3 : Hid (Below w1.heap.size w1 w3) := HB2.out.trans (hb3.mono HB2.out.size)
  have hl3 : w1.heap.size < w3.heap.size := Nat.lt_of_lt_of_le hl2 hb3.size
  have hx := (HB3.out.cell (p := ⟨g, 0 * 2 + 1, none⟩) hg).trans HC.out
  clear hb3 HP2' HB2
  have y0 := (((Below.refl _ w3).alloc (Nat.le_refl _) (.cells #[.string ⟨#[]⟩, .string ⟨#[]⟩, .slice a3 n3 c3] 25)).cell (p := ⟨w1.heap.size, 0, none⟩) hl3).trans x0
  have y1 := (((Below.refl _ w3).alloc (Nat.le_refl _) (.cells #[.string ⟨#[]⟩, .string ⟨#[]⟩, .slice a3 n3 c3] 25)).cell (p := ⟨w1.heap.size, 1, none⟩) hl3).trans x1
  have y2 := (((Below.refl _ w3).alloc (Nat.le_refl _) (.cells #[.string ⟨#[]⟩, .string ⟨#[]⟩, .slice a3 n3 c3] 25)).cell (p := ⟨w1.heap.size, 2, none⟩) hl3).trans x2
  have yx := (((Below.refl _ w3).alloc (Nat.le_refl _) (.cells #[.string ⟨#[]⟩, .string ⟨#[]⟩, .slice a3 n3 c3] 25)).cell (p := ⟨g, 0 * 2 + 1, none⟩) (Nat.lt_of_lt_of_le hg HB3.out.size)).trans hx
  simp only [Nat.zero_mul, Nat.zero_add] at yx
  go_wp2_with (go_at_call 14; refine (HQ.out _).mono ?_; rintro e w5 ⟨rfl, hb5⟩)
  go_ret
  exact ⟨rfl, HB1.out.trans (((HB3.out.alloc HB3.out.size _).trans (hb5.mono (by have := HB3.out.size; simp; omega))).mono HB1.out.size)⟩
end Go.Proofs.YtcnihodikpcfkaaGreatDoor
