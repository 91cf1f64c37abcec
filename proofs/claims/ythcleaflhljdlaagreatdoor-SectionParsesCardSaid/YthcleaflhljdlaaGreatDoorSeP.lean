/- Contracts of package section: Put. -/
import Derived.Test.YthcleaflhljdlaaGreatDoorSeL
import Derived.Deep.RegionHeld
namespace Go.Proofs.YthcleaflhljdlaaGreatDoor
open Go Go.RowKit

def env (w : World) : Prop := tab w ∧ wrds w
theorem env.below {w w' : World} (h : env w) (hb : Below w.heap.size w w') : env w' := ⟨h.1.below hb, h.2.below hb⟩
theorem itoa_len (n : Int) (h0 : 0 ≤ n) (h1 : n ≤ 4294967295) : (Lib.itoa n).length ≤ 30 := by
  have := Lib.itoa_length_le n (by omega) (by omega)
  omega
theorem wrds.at {W : World} (h : wrds W) (k : Nat) (hk : k < 6) : W.cell? ⟨0, k, none⟩ = some (.string (wordB k)) := by
  obtain ⟨t, fr, h⟩ := h
  rcases (by omega : k = 0 ∨ k = 1 ∨ k = 2 ∨ k = 3 ∨ k = 4 ∨ k = 5) with rfl | rfl | rfl | rfl | rfl | rfl <;> simp [World.cell?, h, wrdA]
theorem numOk_iff (l n : Int) : numOk l n = true ↔ l ≤ n ∧ n ≤ 4294967295 := by simp [numOk]
set_option maxRecDepth 100000 in
set_option maxHeartbeats 4000000 in
theorem askedText_any (s : Spc) (a1 a2 : Option Addr) (c1 c2 : Nat) (w : World) (h : SpA w s a1 a2 c1 c2) (hp : ∀ n ∈ s.path, 1 ≤ n ∧ n ≤ 4294967295) (hpl : s.path.length ≤ 64) (hq0 : 0 ≤ s.what) (hq1 : s.what ≤ 5) (he : env w) :
    Calls Tryz.prog 26 #[spV s a1 a2 c1 c2] w fun e w' => e = .returned (strV (askT s)) ∧ Below w.heap.size w w' := by
  obtain ⟨i0, hi, hz⟩ := Option.map_eq_some_iff.1 Tryz.infoStr
  simp only [Prod.mk.injEq] at hz
  obtain ⟨hz0, hz1, hz2⟩ := hz
  obtain ⟨p, q, ns, c, x, y⟩ := s
  unfold spV
  simp only at hp hpl hq0 hq1 ⊢
  obtain ⟨qn, rfl⟩ : ∃ qn : Nat, q = (qn : Int) := ⟨q.toNat, by omega⟩
  have HR := Lib.hid (fun W (hb : Below w.heap.size w W) => (h.below hb).rp)
  have HP := Lib.hid hp
  have HEn := Lib.hid (fun W (hb : Below w.heap.size w W) => he.below hb)
  have HD := Lib.hid (fun n W h0 h1 ht => digits_any n h0 h1 W ht)
  have HJ := Lib.hid (fun v ws W h hw => joinS_any v ws ⟨#[46]⟩ w.heap.size W h hw (by decide))
  have HB0 : Hid (Below w.heap.size w (w.alloc (boxO p qn ns c x y a1 a2 c1 c2))) := (Below.refl _ _).alloc (Nat.le_refl _) _
  have hbx : Box (w.alloc (boxO p qn ns c x y a1 a2 c1 c2)) w.heap.size (.slice a1 p.length c1) qn (.slice a2 ns.length c2) c x y := heap_alloc_new w _
  unfold boxO at HB0 hbx
  have HBx := Lib.hid hbx
  have hg := he.2.lt
  clear h hp he hbx
  go_enter Tryz.func26, Tryz.ntmps26
  go_wp2_with fail
  go_loopg [3, 9] p.length (fun q v xi wr => ∃ (i : Nat) (acc : List (List UInt8)), i ≤ p.length ∧ q = p.length - i ∧ xi = .int .i64 (i : Int) ∧ Hid (acc = (p.take i).map Lib.itoa) ∧ acc.length ≤ 1000 ∧ Hid (wr.ownsRow (w.heap.size + 1) 9 1 v acc.length (acc.map strV)) ∧ Hid (Below w.heap.size w wr) ∧ Hid (Box wr w.heap.size (.slice a1 p.length c1) qn (.slice a2 ns.length c2) c x y))
  case atStart => exact ⟨0, [], by omega, by omega, rfl, rfl, by simp, ⟨rfl, .inl ⟨rfl, rfl⟩⟩, HB0.out, HBx.out⟩
  case round =>
    obtain ⟨i, acc, hi2, rfl, rfl, HAc, hac, HO, HB, HX⟩ := hrel
    by_cases hlt : i < p.length
    · obtain ⟨b, off, rfl, hb, hc⟩ := (HR.out wr HB.out).at i (by simpa using hlt)
      have hc' : wr.cell? ⟨b, off + i, none⟩ = some (.int .i64 p[i]) := by rw [hc]; simp [intV]
      have hpi := HP.out _ (List.getElem_mem hlt)
      have HNi := Lib.hid (HD.out p[i] wr (by omega) (by omega) (HEn.out wr HB.out).1)
      have HT : Hid (acc ++ [Lib.itoa p[i]] = (p.take (i + 1)).map Lib.itoa) := by
        unfold Hid
        rw [List.take_succ_eq_append_getElem hlt, HAc.out, List.map_append]
        rfl
      have HL1 : Hid (acc.length + 1 ≤ 1000) := by
        unfold Hid
        rw [HAc.out, List.length_map, List.length_take]
        omega
      obtain ⟨u, hu⟩ : ∃ u, u = p[i] := ⟨_, rfl⟩
      obtain ⟨t, ht⟩ : ∃ t, t = Lib.itoa p[i] := ⟨_, rfl⟩
      rw [← ht] at HT HNi
      rw [← hu] at hc' HNi
      clear hc hu ht hpi
      go_wp2_with fail
      with_reducible refine HNi.out.mono ?_
      rintro e w2 ⟨rfl, hb2⟩
      have HB2 := Lib.hid (HB.out.trans (hb2.mono HB.out.size))
      have HO2 := Lib.hid (ownsRow_below HO.out hb2)
      have HX2 := Lib.hid (HX.out.below hb2)
      have HZ2 : Hid (w.heap.size + 1 ≤ w2.heap.size) := HX2.out.lt
      clear hb2 HO HB HNi hc' HX
      go_wp2_with (at_builtin; refine wpList_append_own _ rfl _ _ 24 rfl (w.heap.size + 1) 9 i0 (.string ⟨#[]⟩) 1 16 Tryz.underlying24 hi hz0 hz1 hz2 rfl (by decide) _ _ _ rfl (HO2.out.alloc _) ⟨w2.heap.size, 0, none⟩ 1 1 [.string ⟨t.toArray⟩] rfl rfl ?c1 ?c2 ?c3 ?c4 ?c5 ?_)
      case c1 => exact cell_one_new w2 _ _
      case c2 => intro u hu; simp at hu; subst hu; rfl
      case c3 => unfold maxLen; omega
      case c4 => omega
      case c5 => have := HZ2.out; simp; omega
      intro v' w3 hown hgrow _
      have hge := own_ge HO2.out
      have HO3 : Hid (w3.ownsRow (w.heap.size + 1) 9 1 v' (acc ++ [t]).length ((acc ++ [t]).map strV)) := wsCast hown (by simp) (by simp [strV])
      have HB3 : Hid (Below w.heap.size w w3) := (HB2.out.alloc (by have := HZ2.out; omega) _).grown hgrow (by have := HZ2.out; simp; omega) (fun q hq => by have := hge q hq; omega)
      have HX3 := Lib.hid (grown_box (HX2.out.below ((Below.refl _ _).alloc (Nat.le_refl _) (.cells #[.string ⟨t.toArray⟩] 9))) hgrow hge (Nat.lt_succ_self _))
      clear hown hgrow hge
      go_wp2_with fail
      go_roundg (p.length - (i + 1))
      case measure => omega
      case rel => exact ⟨i + 1, acc ++ [t], by omega, rfl, by go_num, HT.out, by have := HL1.out; simp; omega, HO3.out, HB3.out, HX3.out⟩
    · obtain rfl : i = p.length := by omega
      have hal := HAc.out
      rw [List.take_of_length_le (Nat.le_refl _)] at hal
      have HAl := Lib.hid hal
      have HWs : Hid (wsW acc ≤ 64 * 31) := by
        unfold Hid
        have h1 := wsW_le 30 acc (fun a ha => by
          rw [hal] at ha
          obtain ⟨n, hn, rfl⟩ := List.mem_map.1 ha
          have := HP.out n hn
          exact itoa_len n (by omega) this.2)
        have h2 : acc.length * (30 + 1) ≤ 64 * (30 + 1) := Nat.mul_le_mul_right _ (by rw [hal, List.length_map]; exact hpl)
        omega
      obtain ⟨k0, k1, k2, k3, k4, k5⟩ := HX.out.c
      have HEr := Lib.hid (HEn.out wr HB.out)
      clear hal HAc
      by_cases hq : qn = 0
      · subst hq
        have HE : Hid (askT ⟨p, ((0 : Nat) : Int), ns, c, x, y⟩ = Lib.join acc [46]) := by
          unfold Hid askT
          simp only
          rw [if_pos (show ((0 : Nat) : Int) = 0 from rfl), List.append_nil, HAl.out]
        have HJ1 := Lib.hid (HJ.out _ acc wr (own_base HO.out (Nat.le_succ _)) (by have := HWs.out; omega))
        go_wp2_with fail
        with_reducible refine HJ1.out.mono ?_
        rintro e w2 ⟨rfl, hb2⟩
        have HB2 := Lib.hid (HB.out.trans (hb2.mono HB.out.size))
        clear hb2
        go_wp2_with fail
        go_ret
        exact ⟨by rw [HE.out]; rfl, HB2.out⟩
      · have b1 : ((qn : Int) != 0) = true := bne_yes (by omega)
        have HE : Hid (askT ⟨p, (qn : Int), ns, c, x, y⟩ = Lib.join (acc ++ [wordL qn]) [46]) := by
          unfold Hid askT
          simp only
          rw [if_neg (by omega), HAl.out, Int.toNat_natCast]
        have hcw := HEr.out.2.at qn (by omega)
        have hq6 : (qn : Int) < 6 := by omega
        have HWd : Hid ((wordL qn).length ≤ 30) := by
          unfold Hid
          rcases (by omega : qn = 1 ∨ qn = 2 ∨ qn = 3 ∨ qn = 4 ∨ qn = 5) with rfl | rfl | rfl | rfl | rfl <;> decide
        have hwb : wordB qn = ⟨(wordL qn).toArray⟩ := rfl
        rw [hwb] at hcw
        obtain ⟨t, ht⟩ : ∃ t, t = wordL qn := ⟨_, rfl⟩
        rw [← ht] at HE hcw HWd
        have HZ : Hid (w.heap.size + 1 ≤ wr.heap.size) := HX.out.lt
        clear ht hwb hq
        go_wp2_with (at_builtin; refine wpList_append_own _ rfl _ _ 24 rfl (w.heap.size + 1) 9 i0 (.string ⟨#[]⟩) 1 16 Tryz.underlying24 hi hz0 hz1 hz2 rfl (by decide) _ _ _ rfl (HO.out.alloc _) ⟨wr.heap.size, 0, none⟩ 1 1 [.string ⟨t.toArray⟩] rfl rfl ?c1 ?c2 ?c3 ?c4 ?c5 ?_)
        case c1 => exact cell_one_new wr _ _
        case c2 => intro u hu; simp at hu; subst hu; rfl
        case c3 => unfold maxLen; omega
        case c4 => omega
        case c5 => have := HZ.out; simp; omega
        intro v' w3 hown hgrow _
        have hge := own_ge HO.out
        have HO3 : Hid (w3.ownsRow (w.heap.size + 1) 9 1 v' (acc ++ [t]).length ((acc ++ [t]).map strV)) := wsCast hown (by simp) (by simp [strV])
        have HB3 : Hid (Below w.heap.size w w3) := (HB.out.alloc (by have := HZ.out; omega) _).grown hgrow (by have := HZ.out; simp; omega) (fun q hq => by have := hge q hq; omega)
        have HJ1 := Lib.hid (HJ.out _ (acc ++ [t]) w3 (own_base HO3.out (Nat.le_succ _)) (by have h1 := HWs.out; have h2 := HWd.out; rw [wsW_app]; simp [wsW] at h1 ⊢; omega))
        clear hown hgrow hge
        obtain ⟨J, hJ⟩ : ∃ J, J = acc ++ [t] := ⟨_, rfl⟩
        rw [← hJ] at HJ1 HE
        clear hJ
        go_wp2_with fail
        with_reducible refine HJ1.out.mono ?_
        rintro e w4 ⟨rfl, hb4⟩
        have HB4 := Lib.hid (HB3.out.trans (hb4.mono HB3.out.size))
        clear hb4
        go_wp2_with fail
        go_ret
        exact ⟨by rw [HE.out]; rfl, HB4.out⟩
end Go.Proofs.YthcleaflhljdlaaGreatDoor
