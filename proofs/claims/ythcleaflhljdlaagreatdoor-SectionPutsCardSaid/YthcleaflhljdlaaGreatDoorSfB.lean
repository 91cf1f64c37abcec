/- Contracts of the document's layer 15: Put. -/
import Derived.Test.YthcleaflhljdlaaGreatDoorSeY
import Derived.Test.YthcleaflhljdlaaGreatDoorSeZ
import Derived.Test.YthcleaflhljdlaaGreatDoorSeQ
import Derived.Test.YthcleaflhljdlaaGreatDoorSeT
namespace Go.Proofs.YthcleaflhljdlaaGreatDoor
open Go Go.RowKit

theorem join_snoc (sep x : List UInt8) : ∀ (xs : List (List UInt8)), Lib.join (xs ++ [x]) sep = if xs = [] then x else Lib.join xs sep ++ (sep ++ x)
  | [] => by
    rw [List.nil_append, Lib.join_one, if_pos rfl]
  | y :: r => by
    rw [if_neg (by simp), List.cons_append, Lib.join_cons, Lib.join_cons]
    have e : Lib.joinTail sep (r ++ [x]) = Lib.joinTail sep r ++ (sep ++ x) := by simp [Lib.joinTail]
    rw [e, List.append_assoc]
theorem join_len_snoc (sep x : List UInt8) (xs : List (List UInt8)) : (Lib.join (xs ++ [x]) sep).length ≤ (Lib.join xs sep).length + sep.length + x.length := by
  rw [join_snoc]
  split
  · omega
  · simp only [List.length_append]; omega
theorem refDigT (n : Int) (h0 : 0 ≤ n) (h1 : n ≤ 4294967295) : ∃ t : List UInt8, t.length ≤ 30 ∧ Lib.itoa n = t ∧ ∀ W, Calls Tryz.prog 16 #[.int .i64 n] W fun e w' => e = .returned (.string ⟨t.toArray⟩) ∧ Below W.heap.size W w' :=
  ⟨Lib.itoa n, itoa_len n h0 h1, rfl, fun W => (refDigits_any n (by omega) (by omega) W).mono fun e w' ⟨he, k, hw⟩ => ⟨he, by rw [hw]; exact below_drewN' k⟩⟩
/-- The names so far. -/
def nmsP (ns : List (List UInt8)) : List UInt8 := if ns = [] then [] else [32, 40] ++ Lib.join (ns.map nameT) [32]
theorem nmsP_snoc (ns : List (List UInt8)) (a : List UInt8) : nmsP (ns ++ [a]) = nmsP ns ++ ((if ns = [] then [32, 40] else [32]) ++ nameT a) := by
  unfold nmsP
  rw [if_neg (by simp), List.map_append, List.map_cons, List.map_nil, join_snoc]
  by_cases h : ns = []
  · subst h; simp
  · rw [if_neg h, if_neg h, if_neg (by simpa using h)]
    simp
theorem nmsT_P (ns : List (List UInt8)) : nmsT ns = nmsP ns ++ (if ns = [] then [] else [41]) := by
  unfold nmsT nmsP
  by_cases h : ns = []
  · rw [if_pos h, if_pos h, if_pos h]; rfl
  · rw [if_neg h, if_neg h, if_neg h]; simp
theorem askT_P (p : List Int) (qn : Nat) (ns : List (List UInt8)) (c : Bool) (x y : Int) : askT ⟨p, (qn : Int), ns, c, x, y⟩ = Lib.join (p.map Lib.itoa) [46] ++ ((if p ≠ [] ∧ qn ≠ 0 then [46] else []) ++ wordL qn) := by
  unfold askT
  simp only
  by_cases hq : qn = 0
  · subst hq
    rw [if_pos (show ((0 : Nat) : Int) = 0 from rfl), if_neg (by simp)]
    simp [wordL]
  · rw [if_neg (by omega), join_snoc, Int.toNat_natCast]
    by_cases hp : p = []
    · subst hp
      simp [Lib.join_nil]
    · rw [if_neg (by simpa using hp), if_pos ⟨hp, hq⟩]
theorem ret_strT {T : ByteArray} {l : List UInt8} (h : T.data.toList = l) : Ending.returned (.string T) = .returned (strV l) := by
  unfold strV
  exact ret_str (bytes_eq (by rw [h]))
theorem cat3 (a b : ByteArray) {x y : List UInt8} (h1 : a.data.toList = x) (h2 : b.data.toList = y) : (a ++ b).data.toList = x ++ y := by rw [cat_toList, h1, h2]
set_option maxRecDepth 100000 in
set_option maxHeartbeats 8000000 in
theorem refPut_any (s : Spc) (answer : Bool) (a1 a2 : Option Addr) (c1 c2 : Nat) (w : World) (h : SpA w s a1 a2 c1 c2) (hpl : s.path.length ≤ 1000000000) (hnl : s.names.length ≤ 1000000000) (hn : ∀ a ∈ s.names, a.length ≤ 1000) :
    Calls Tryz.prog 15 #[spV s a1 a2 c1 c2, .bool answer] w fun e w' => e = .returned (strV (putS s answer)) ∧ Below w.heap.size w w' := by
  have HCh := Lib.hid (fun W (hb : Below w.heap.size w W) => refCheck_any s a1 a2 c1 c2 W (h.below hb) hpl hnl)
  unfold errS at HCh
  cases hc : checkS s with
  | false =>
    have HE : Hid (putS s answer = []) := by unfold Hid putS; rw [hc]; rfl
    rw [hc] at HCh
    clear h hc
    obtain ⟨pt, hpt⟩ : ∃ pt, pt = putS s answer := ⟨_, rfl⟩
    rw [← hpt] at HE ⊢
    clear hpt
    obtain ⟨p, q, ns, c, x, y⟩ := s
    unfold spV at HCh ⊢
    simp only at HCh ⊢
    have HB0 : Hid (Below w.heap.size w (w.alloc (boxR p q ns c x y a1 a2 c1 c2))) := (Below.refl _ _).alloc (Nat.le_refl _) _
    unfold boxR at HB0
    have HCb := Lib.hid (HCh.out _ HB0.out)
    go_enter Tryz.func15, Tryz.ntmps15
    go_wp2_with fail
    with_reducible refine HCb.out.mono ?_
    rintro e w2 ⟨rfl, hb2⟩
    have HB2 := Lib.hid (HB0.out.trans (hb2.mono HB0.out.size))
    clear hb2
    go_wp2_with fail
    go_ret
    exact ⟨by rw [HE.out]; rfl, HB2.out⟩
  | true =>
    obtain ⟨h1, h2, h3, h4, h5, h6⟩ := checkS_parts hc
    have HE : Hid (putS s answer = [91] ++ (askT s ++ (nmsT s.names ++ ([93] ++ cutT s answer)))) := by unfold Hid putS; rw [hc]; rfl
    rw [hc] at HCh
    have HRp := Lib.hid (fun W (hb : Below w.heap.size w W) => (h.below hb).rp)
    have HRn := Lib.hid (fun W (hb : Below w.heap.size w W) => (h.below hb).rn)
    clear h hc
    obtain ⟨pt, hpt⟩ : ∃ pt, pt = putS s answer := ⟨_, rfl⟩
    rw [← hpt] at HE ⊢
    clear hpt
    obtain ⟨p, q, ns, c, x, y⟩ := s
    unfold spV at HCh ⊢
    simp only at HCh HE h1 h2 h3 h4 h5 hn hpl hnl HRp HRn ⊢
    obtain ⟨qn, rfl⟩ : ∃ qn : Nat, q = (qn : Int) := ⟨q.toNat, by omega⟩
    rw [askT_P, nmsT_P] at HE
    have HP := Lib.hid h1
    have HN := Lib.hid hn
    have HD := Lib.hid refDigT
    have HNm := Lib.hid (fun (T : ByteArray) W (hl : T.size ≤ 1000) => refName_sec T W (by omega))
    have HWd := Lib.hid (fun W => refWord_sec qn (by omega) W)
    have HC6 := Lib.hid h6
    have HP5 := Lib.hid h2
    have HQ5 := Lib.hid h4
    have HB0 : Hid (Below w.heap.size w (w.alloc (boxR p qn ns c x y a1 a2 c1 c2))) := (Below.refl _ _).alloc (Nat.le_refl _) _
    have hbx : BoxR (w.alloc (boxR p qn ns c x y a1 a2 c1 c2)) w.heap.size (.slice a1 p.length c1) qn (.slice a2 ns.length c2) c x y := heap_alloc_new w _
    unfold boxR at HB0 hbx
    have HCb := Lib.hid (HCh.out _ HB0.out)
    have HBx := Lib.hid hbx
    obtain ⟨R, hR⟩ : ∃ R, R = w.heap.size := ⟨_, rfl⟩
    rw [← hR] at HBx
    have HR := Lib.hid hR
    clear hbx hR HCh h1 hn h6
    go_enter Tryz.func15, Tryz.ntmps15
    go_wp2_with fail
    with_reducible refine HCb.out.mono ?_
    rintro e w2 ⟨rfl, hb2⟩
    have HB2 := Lib.hid (HB0.out.trans (hb2.mono HB0.out.size))
    have HBx2 := Lib.hid (HBx.out.below hb2)
    rw [← HR.out]
    clear hb2 HBx HB0 HCb
    go_wp2_with fail
    go_loopg [5, 6] p.length (fun qq ov xi wr => ∃ (i : Nat) (T : ByteArray), i ≤ p.length ∧ qq = p.length - i ∧ xi = .int .i64 (i : Int) ∧ ov = .string T ∧ T.size ≤ 1 + 31 * i ∧ Hid (T.data.toList = [91] ++ Lib.join ((p.take i).map Lib.itoa) [46]) ∧ Hid (Below w.heap.size w wr) ∧ Hid (BoxR wr R (.slice a1 p.length c1) qn (.slice a2 ns.length c2) c x y))
    case atStart => exact ⟨0, ⟨#[91]⟩, by omega, by omega, rfl, rfl, by decide, rfl, HB2.out, HBx2.out⟩
    case round =>
      obtain ⟨i, T, hi, rfl, rfl, rfl, hTs, HT, HB, HX⟩ := hrel
      obtain ⟨k0, k1, k2, k3, k4, k5⟩ := HX.out.c
      by_cases hlt : i < p.length
      · obtain ⟨b, off, rfl, hb, hc⟩ := (HRp.out wr HB.out).at i (by simpa using hlt)
        obtain ⟨u, hu⟩ : ∃ u, u = p[i] := ⟨_, rfl⟩
        have hc' : wr.cell? ⟨b, off + i, none⟩ = some (.int .i64 u) := by rw [hc, hu]; simp [intV]
        have hpi := HP.out _ (List.getElem_mem hlt)
        rw [← hu] at hpi
        obtain ⟨t, ht1, ht2, ht3⟩ := HD.out u (by omega) hpi.2
        have HDt := Lib.hid ht3
        have hd : (i : Int) < (p.length : Int) := by omega
        have HJ : Hid (Lib.join ((p.take (i + 1)).map Lib.itoa) [46] = if (p.take i).map Lib.itoa = [] then t else Lib.join ((p.take i).map Lib.itoa) [46] ++ ([46] ++ t)) := by
          unfold Hid
          rw [List.take_succ_eq_append_getElem hlt, List.map_append, List.map_cons, List.map_nil, ← hu, ht2, join_snoc]
        clear hc hu ht2 ht3
        by_cases h0 : i = 0
        · subst h0
          have HJ0 : Hid (Lib.join ((p.take 1).map Lib.itoa) [46] = t) := by unfold Hid; rw [HJ.out]; rfl
          have hc0 : wr.cell? ⟨b, off, none⟩ = some (.int .i64 u) := hc'
          go_wp2_with fail
          with_reducible refine (HDt.out _).mono ?_
          rintro e w3 ⟨rfl, hb3⟩
          have HB3 := Lib.hid (HB.out.trans (hb3.mono HB.out.size))
          have HX3 := Lib.hid (HX.out.below hb3)
          clear hb3
          go_wp2_with fail
          go_roundg (p.length - 1)
          case measure => omega
          case rel =>
            refine ⟨1, _, by omega, rfl, rfl, rfl, ?_, ?_, HB3.out, HX3.out⟩
            · have e2 : (⟨t.toArray⟩ : ByteArray).size = t.length := List.size_toArray
              rw [ByteArray.size_append, e2]
              omega
            · unfold Hid
              rw [HJ0.out, cat_toList, HT.out]
              rfl
        · have hi0 : 0 < (i : Int) := by omega
          have HJ1 : Hid (Lib.join ((p.take (i + 1)).map Lib.itoa) [46] = Lib.join ((p.take i).map Lib.itoa) [46] ++ ([46] ++ t)) := by
            unfold Hid
            rw [HJ.out, if_neg]
            intro e
            have hz : ((p.take i).map Lib.itoa).length = 0 := by rw [e]; rfl
            rw [List.length_map, List.length_take] at hz
            omega
          go_wp2_with fail
          with_reducible refine (HDt.out _).mono ?_
          rintro e w3 ⟨rfl, hb3⟩
          have HB3 := Lib.hid (HB.out.trans (hb3.mono HB.out.size))
          have HX3 := Lib.hid (HX.out.below hb3)
          clear hb3
          go_wp2_with fail
          go_roundg (p.length - (i + 1))
          case measure => omega
          case rel =>
            refine ⟨i + 1, _, by omega, rfl, by go_num, rfl, ?_, ?_, HB3.out, HX3.out⟩
            · have e2 : (⟨t.toArray⟩ : ByteArray).size = t.length := List.size_toArray
              have e3 : (⟨#[46]⟩ : ByteArray).size = 1 := rfl
              rw [ByteArray.size_append, ByteArray.size_append, e2, e3]
              omega
            · unfold Hid
              rw [HJ1.out, cat_toList, cat_toList, HT.out]
              simp
      · obtain rfl : i = p.length := by omega
        have hps := HP5.out
        have HT1 : Hid (T.data.toList = [91] ++ Lib.join (p.map Lib.itoa) [46]) := by
          unfold Hid
          rw [HT.out, List.take_of_length_le (by simp)]
        clear HT
        go_upto_region 10 with fail
        go_cut [38] (fun v38 wx => v38 = .bool (decide (0 < p.length) && decide (qn ≠ 0)) ∧ wr = wx)
        case first =>
          by_cases hp0 : 0 < (p.length : Int)
          · have bp : decide (0 < p.length) = true := decide_eq_true (by omega)
            by_cases hq0 : (qn : Int) = 0
            · have bq : ((qn : Int) != 0) = false := bne_no hq0
              have bq2 : decide (qn ≠ 0) = false := decide_eq_false (by omega)
              have HE2 : Hid ((decide (0 < p.length) && decide (qn ≠ 0)) = false) := by unfold Hid; rw [bp, bq2]; rfl
              clear bq2
              go_wp2_with fail
              go_meet
              exact ⟨by rw [HE2.out], rfl⟩
            · have bq : ((qn : Int) != 0) = true := bne_yes hq0
              have bq2 : decide (qn ≠ 0) = true := decide_eq_true (by omega)
              have HE2 : Hid ((decide (0 < p.length) && decide (qn ≠ 0)) = true) := by unfold Hid; rw [bp, bq2]; rfl
              clear bq2
              go_wp2_with fail
              go_meet
              exact ⟨by rw [HE2.out], rfl⟩
          · have bp : decide (0 < p.length) = false := decide_eq_false (by omega)
            have HE2 : Hid ((decide (0 < p.length) && decide (qn ≠ 0)) = false) := by unfold Hid; rw [bp]; rfl
            go_wp2_with fail
            go_meet
            exact ⟨by rw [HE2.out], rfl⟩
        case rest =>
          obtain ⟨rfl, rfl⟩ := hcut
          obtain ⟨dt, hdt⟩ : ∃ dt, dt = (decide (0 < p.length) && decide (qn ≠ 0)) := ⟨_, rfl⟩
          have HDt : Hid ((if p ≠ [] ∧ qn ≠ 0 then [46] else [] : List UInt8) = if dt = true then [46] else []) := by
            unfold Hid
            rw [hdt]
            cases p with
            | nil => simp
            | cons a l => by_cases hq0 : qn = 0 <;> simp [hq0]
          rw [← hdt]
          clear hdt
          go_upto_if 38 with fail
          go_cut [5] (fun v5 wx => ∃ T2 : ByteArray, v5 = .string T2 ∧ T2.size ≤ T.size + 1 ∧ Hid (T2.data.toList = T.data.toList ++ (if dt = true then [46] else [])) ∧ wr = wx)
          case first =>
            cases dt with
            | true =>
              go_wp2_with fail
              go_meet
              exact ⟨_, rfl, by rw [ByteArray.size_append]; exact Nat.le_refl _, cat_toList _ _, rfl⟩
            | false =>
              go_wp2_with fail
              go_meet
              exact ⟨_, rfl, by omega, (List.append_nil _).symm, rfl⟩
          case rest =>
            obtain ⟨T2, rfl, hT2s, HT2, rfl⟩ := hcut
            have hwl : (wordL qn).length ≤ 30 := by
              have := HQ5.out
              rcases (show qn = 0 ∨ qn = 1 ∨ qn = 2 ∨ qn = 3 ∨ qn = 4 ∨ qn = 5 by omega) with rfl | rfl | rfl | rfl | rfl | rfl <;> decide
            have hws : (wordB qn).size ≤ 30 := by rw [← len_toList, wordB_list]; exact hwl
            have hwe : (wordB qn).data.toList = wordL qn := wordB_list qn
            obtain ⟨Wd, hWd⟩ : ∃ Wd, Wd = wordB qn := ⟨_, rfl⟩
            have HWr := Lib.hid (HWd.out wr)
            rw [← hWd] at hws hwe HWr
            have HWe := Lib.hid hwe
            clear hWd hwe hwl HWd
            go_wp2_with fail
            with_reducible refine HWr.out.mono ?_
            rintro e w3 ⟨rfl, hb3⟩
            have HB3 := Lib.hid (HB.out.trans (hb3.mono HB.out.size))
            have HX3 := Lib.hid (HX.out.below hb3)
            clear hb3 k0 k1 k2 k3 k4 k5
            have hT3s : (T2 ++ Wd).size ≤ 3000 := by rw [ByteArray.size_append]; omega
            obtain ⟨A, hA⟩ : ∃ A, A = [91] ++ (Lib.join (p.map Lib.itoa) [46] ++ ((if p ≠ [] ∧ qn ≠ 0 then [46] else []) ++ wordL qn)) := ⟨_, rfl⟩
            have HT3 : Hid ((T2 ++ Wd).data.toList = A) := by
              unfold Hid
              rw [cat_toList, HT2.out, HWe.out, HT1.out, hA, HDt.out]
              simp
            have HEA : Hid (pt = A ++ (nmsP ns ++ ((if ns = [] then [] else [41]) ++ ([93] ++ cutT ⟨p, (qn : Int), ns, c, x, y⟩ answer)))) := by
              unfold Hid
              rw [HE.out, hA]
              simp
            clear hA
            obtain ⟨T3, hT3⟩ : ∃ T3, T3 = T2 ++ Wd := ⟨_, rfl⟩
            rw [← hT3] at hT3s HT3
            go_wp2_with fail
            rw [← hT3]
            clear hT3
            go_loopg [5, 7] ns.length (fun qq ov xi wr2 => ∃ (i : Nat) (T : ByteArray), i ≤ ns.length ∧ qq = ns.length - i ∧ xi = .int .i64 (i : Int) ∧ ov = .string T ∧ T.size ≤ 3000 + 2010 * i ∧ Hid (T.data.toList = A ++ nmsP (ns.take i)) ∧ Hid (Below w.heap.size w wr2) ∧ Hid (BoxR wr2 R (.slice a1 p.length c1) qn (.slice a2 ns.length c2) c x y))
            case atStart => exact ⟨0, T3, by omega, by omega, rfl, rfl, by omega, (by unfold Hid; rw [HT3.out]; simp [nmsP]), HB3.out, HX3.out⟩
            case round =>
              obtain ⟨i, T4, hi, rfl, rfl, rfl, hT4s, HT4, HB4, HX4⟩ := hrel
              obtain ⟨k0, k1, k2, k3, k4, k5⟩ := HX4.out.c
              by_cases hlt : i < ns.length
              · obtain ⟨b, off, rfl, hb, hc⟩ := (HRn.out wr HB4.out).at i (by simpa using hlt)
                obtain ⟨u, hu⟩ : ∃ u, u = ns[i] := ⟨_, rfl⟩
                have hul := HN.out _ (List.getElem_mem hlt)
                rw [← hu] at hul
                obtain ⟨U, hU⟩ : ∃ U : ByteArray, U = ⟨u.toArray⟩ := ⟨_, rfl⟩
                have hc' : wr.cell? ⟨b, off + i, none⟩ = some (.string U) := by rw [hc, hU, hu]; simp [strV]
                have hUs : U.size ≤ 1000 := by rw [hU]; exact Nat.le_trans (Nat.le_of_eq List.size_toArray) hul
                have HDn := Lib.hid (HNm.out U wr hUs)
                have HUl : Hid (U.data.toList = u) := by unfold Hid; rw [hU]
                have hd : (i : Int) < (ns.length : Int) := by omega
                have HJ : Hid (nmsP (ns.take (i + 1)) = nmsP (ns.take i) ++ ((if i = 0 then [32, 40] else [32]) ++ nameT u)) := by
                  unfold Hid
                  rw [List.take_succ_eq_append_getElem hlt, nmsP_snoc, ← hu]
                  by_cases h0 : i = 0
                  · subst h0; rfl
                  · rw [if_neg h0, if_neg]
                    intro e
                    have hz : (ns.take i).length = 0 := by rw [e]; rfl
                    rw [List.length_take] at hz
                    omega
                have HNl : Hid ((nameT u).length ≤ 2002) := by unfold Hid; have := nameT_len u; omega
                clear hc hu hU hul
                by_cases h0 : i = 0
                · subst h0
                  have hc0 : wr.cell? ⟨b, off, none⟩ = some (.string U) := hc'
                  go_wp2_with fail
                  with_reducible refine HDn.out.mono ?_
                  rintro e w5 ⟨V, rfl, hV, rfl⟩
                  have hVl : V.size ≤ 2002 := by rw [← len_toList, hV, HUl.out]; exact HNl.out
                  have HV := Lib.hid hV
                  clear hV
                  go_wp2_with fail
                  go_roundg (ns.length - 1)
                  case measure => omega
                  case rel =>
                    refine ⟨1, _, by omega, rfl, rfl, rfl, ?_, ?_, HB4.out, HX4.out⟩
                    · have e3 : (⟨#[32, 40]⟩ : ByteArray).size = 2 := rfl
                      rw [ByteArray.size_append, ByteArray.size_append, e3]
                      omega
                    · have e := HJ.out
                      rw [if_pos trivial] at e
                      unfold Hid
                      rw [cat_toList, cat_toList, HT4.out, HV.out, HUl.out, show (1 : Nat) = 0 + 1 from rfl, e]
                      simp
                · have h0i : ¬ (i : Int) = 0 := by omega
                  have hbi : ((i : Int) == 0) = false := beq_no h0i
                  go_wp2_with fail
                  with_reducible refine HDn.out.mono ?_
                  rintro e w5 ⟨V, rfl, hV, rfl⟩
                  have hVl : V.size ≤ 2002 := by rw [← len_toList, hV, HUl.out]; exact HNl.out
                  have HV := Lib.hid hV
                  clear hV
                  go_wp2_with fail
                  go_roundg (ns.length - (i + 1))
                  case measure => omega
                  case rel =>
                    refine ⟨i + 1, _, by omega, rfl, by go_num, rfl, ?_, ?_, HB4.out, HX4.out⟩
                    · have e3 : (⟨#[32]⟩ : ByteArray).size = 1 := rfl
                      rw [ByteArray.size_append, ByteArray.size_append, e3]
                      omega
                    · have e := HJ.out
                      rw [if_neg h0] at e
                      unfold Hid
                      rw [cat_toList, cat_toList, HT4.out, HV.out, HUl.out, e]
                      simp
              · obtain rfl : i = ns.length := by omega
                have HT5 : Hid (T4.data.toList = A ++ nmsP ns) := by
                  unfold Hid
                  rw [HT4.out, List.take_of_length_le (Nat.le_refl _)]
                clear HT4
                obtain ⟨dn, hdn⟩ : ∃ dn, dn = decide (0 < ns.length) := ⟨_, rfl⟩
                have HDn : Hid ((if ns = [] then [] else [41] : List UInt8) = if dn = true then [41] else []) := by
                  unfold Hid
                  rw [hdn]
                  cases ns with
                  | nil => simp
                  | cons a l => rw [decide_eq_true (by simp), if_pos rfl, if_neg (by simp)]
                have HDd := Lib.hid hdn
                go_upto_if 70 with fail
                rw [← hdn]
                clear hdn
                go_cut [5] (fun v5 wx => ∃ T2 : ByteArray, v5 = .string T2 ∧ T2.size ≤ T4.size + 1 ∧ Hid (T2.data.toList = T4.data.toList ++ (if dn = true then [41] else [])) ∧ wr = wx)
                case first =>
                  cases dn with
                  | true =>
                    go_wp2_with fail
                    go_meet
                    exact ⟨_, rfl, by rw [ByteArray.size_append]; exact Nat.le_refl _, cat_toList _ _, rfl⟩
                  | false =>
                    go_wp2_with fail
                    go_meet
                    exact ⟨_, rfl, by omega, (List.append_nil _).symm, rfl⟩
                case rest =>
                  obtain ⟨T6, rfl, hT6s, HT6, rfl⟩ := hcut
                  have HE6 : Hid (pt = T6.data.toList ++ ([93] ++ cutT ⟨p, (qn : Int), ns, c, x, y⟩ answer)) := by
                    unfold Hid
                    rw [HEA.out, HT6.out, HT5.out, HDn.out]
                    simp
                  unfold cutT at HE6
                  unfold cutOk at HC6
                  simp only at HE6 HC6
                  cases c with
                  | false =>
                    have HE7 : Hid (pt = T6.data.toList ++ [93]) := by unfold Hid; rw [HE6.out, if_pos rfl]; simp
                    go_wp2_with fail
                    go_ret
                    exact ⟨ret_strT (by rw [cat_toList, HE7.out]), HB4.out⟩
                  | true =>
                    have hcx := HC6.out
                    rw [if_pos rfl, Bool.and_eq_true] at hcx
                    have hx := (numOk_iff 0 x).1 hcx.1
                    have hy := (numOk_iff 1 y).1 hcx.2
                    clear hcx HC6
                    obtain ⟨tx, htx1, htx2, htx3⟩ := HD.out x hx.1 hx.2
                    have HXd := Lib.hid (htx3 wr)
                    obtain ⟨ty, hty1, hty2, hty3⟩ := HD.out y (by omega) hy.2
                    have HYd := Lib.hid hty3
                    rw [htx2, hty2] at HE6
                    have htxs : (⟨tx.toArray⟩ : ByteArray).size ≤ 30 := Nat.le_trans (Nat.le_of_eq List.size_toArray) htx1
                    have htys : (⟨ty.toArray⟩ : ByteArray).size ≤ 30 := Nat.le_trans (Nat.le_of_eq List.size_toArray) hty1
                    clear htx2 htx3 hty2 hty3
                    cases answer with
                    | true =>
                      have HE7 : Hid (pt = T6.data.toList ++ [93] ++ ([60] ++ tx) ++ [62]) := by unfold Hid; rw [HE6.out, if_neg (by decide), if_pos rfl]; simp
                      go_wp2_with fail
                      with_reducible refine HXd.out.mono ?_
                      rintro e w5 ⟨rfl, hb5⟩
                      have HB5 := Lib.hid (HB4.out.trans (hb5.mono HB4.out.size))
                      clear hb5
                      go_wp2_with fail
                      go_ret
                      exact ⟨ret_strT (by rw [cat_toList, cat_toList, cat_toList, cat_toList, HE7.out]), HB5.out⟩
                    | false =>
                      have HE7 : Hid (pt = T6.data.toList ++ [93] ++ ([60] ++ tx) ++ ([46] ++ ty) ++ [62]) := by unfold Hid; rw [HE6.out, if_neg (by decide), if_neg (by decide)]; simp
                      go_wp2_with fail
                      with_reducible refine HXd.out.mono ?_
                      rintro e w5 ⟨rfl, hb5⟩
                      have HB5 := Lib.hid (HB4.out.trans (hb5.mono HB4.out.size))
                      have HX5 := Lib.hid (HX4.out.below hb5)
                      clear hb5 k0 k1 k2 k3 k4 k5
                      obtain ⟨k0, k1, k2, k3, k4, k5⟩ := HX5.out.c
                      go_wp2_with fail
                      with_reducible refine (HYd.out _).mono ?_
                      rintro e w6 ⟨rfl, hb6⟩
                      have HB6 := Lib.hid (HB5.out.trans (hb6.mono HB5.out.size))
                      clear hb6
                      go_wp2_with fail
                      go_ret
                      exact ⟨ret_strT (by rw [cat_toList, cat_toList, cat_toList, cat_toList, cat_toList, cat_toList, HE7.out]), HB6.out⟩
/-! Plain: the text that Put writes is the spec's. -/
theorem join_more (x sep : List UInt8) : ∀ r : List (List UInt8), r ≠ [] → Lib.join (x :: r) sep = x ++ (sep ++ Lib.join r sep)
  | [], h => (h rfl).elim
  | y :: r, _ => by
    rw [Lib.join_cons, Lib.join_cons]
    simp [Lib.joinTail]
theorem whatOf_wordL (k : Nat) (h : k ≤ 5) : whatOf (wordL k) = some k := by
  rcases (show k = 0 ∨ k = 1 ∨ k = 2 ∨ k = 3 ∨ k = 4 ∨ k = 5 by omega) with rfl | rfl | rfl | rfl | rfl | rfl <;> decide
theorem ask_put (k : Nat) (hk : k ≤ 5) : ∀ p : List Int, (∀ n ∈ p, 1 ≤ n ∧ n ≤ 4294967295) → AskTx (Lib.join (p.map Lib.itoa ++ (if k = 0 then [] else [wordL k])) [46]) p k
  | [], _ => by
    rw [List.map_nil, List.nil_append]
    by_cases h0 : k = 0
    · subst h0
      rw [if_pos rfl, Lib.join_nil]
      exact .word [] 0 whatOf_nil
    · rw [if_neg h0, Lib.join_one]
      exact .word _ k (whatOf_wordL k hk)
  | n :: p, h => by
    have hn := h n (List.mem_cons_self ..)
    obtain ⟨m, rfl⟩ : ∃ m : Nat, n = (m : Int) := ⟨n.toNat, by omega⟩
    have hm := numSpec_itoa m (by omega)
    by_cases he : p = [] ∧ k = 0
    · obtain ⟨rfl, rfl⟩ := he
      rw [if_pos rfl, List.append_nil, List.map_cons, List.map_nil, Lib.join_one]
      exact .last _ m hm
    · have hne : p.map Lib.itoa ++ (if k = 0 then [] else [wordL k]) ≠ [] := by
        intro e
        rw [List.append_eq_nil_iff, List.map_eq_nil_iff] at e
        apply he
        refine ⟨e.1, ?_⟩
        by_cases h0 : k = 0
        · exact h0
        · rw [if_neg h0] at e
          cases e.2
      rw [List.map_cons, List.cons_append, join_more _ _ _ hne]
      exact .more _ m _ p k hm (ask_put k hk p (fun x hx => h x (List.mem_cons_of_mem _ hx))) he
theorem nameT_tx (a : List UInt8) : NameTx (nameT a) a := by
  unfold nameT
  split
  · next h =>
    unfold atomS at h
    simp only [Bool.and_eq_true] at h
    refine .atom a ?_ ?_
    · rintro rfl
      revert h
      decide
    · exact h.1
  · exact .quo a
theorem nms_put : ∀ (ns : List (List UInt8)), ns ≠ [] → NmsTx (Lib.join (ns.map nameT) [32]) ns
  | [], h => (h rfl).elim
  | [a], _ => by
    rw [List.map_cons, List.map_nil, Lib.join_one]
    exact .one _ a (nameT_tx a)
  | a :: b :: r, _ => by
    rw [List.map_cons, join_more _ _ _ (by simp)]
    exact .more _ a _ (b :: r) (nameT_tx a) (nms_put (b :: r) (by simp))
theorem nopt_put (ns : List (List UInt8)) : NOpt (nmsT ns) ns := by
  unfold nmsT
  by_cases h : ns = []
  · rw [if_pos h]
    exact .inl ⟨rfl, h⟩
  · rw [if_neg h]
    exact .inr ⟨Lib.join (ns.map nameT) [32], by simp, nms_put ns h⟩
theorem cut_put (s : Spc) (h : cutOk s = true) : CutTx (cutT s false) s.cut s.frm s.many := by
  unfold cutOk at h
  unfold cutT
  cases hc : s.cut with
  | false =>
    rw [hc, if_neg (by decide), Bool.and_eq_true, decide_eq_true_eq, decide_eq_true_eq] at h
    rw [if_pos rfl]
    exact .inl ⟨rfl, rfl, h.1, h.2⟩
  | true =>
    rw [hc, if_pos rfl, Bool.and_eq_true] at h
    have hx := (numOk_iff 0 _).1 h.1
    have hy := (numOk_iff 1 _).1 h.2
    obtain ⟨a, ha⟩ : ∃ a : Nat, s.frm = (a : Int) := ⟨s.frm.toNat, by omega⟩
    obtain ⟨b, hb⟩ : ∃ b : Nat, s.many = (b : Int) := ⟨s.many.toNat, by omega⟩
    rw [if_neg (by decide), if_neg (by decide), ha, hb]
    exact .inr ⟨Lib.itoa (a : Int), Lib.itoa (b : Int), a, b, by simp, numSpec_itoa a (by omega), numSpec_itoa b (by omega), rfl, rfl, rfl⟩
theorem put_text (s : Spc) (h : checkS s = true) : TextOf (putS s false) s := by
  obtain ⟨h1, h2, h3, h4, h5, h6⟩ := checkS_parts h
  unfold putS
  rw [if_pos h]
  refine ⟨askT s, nmsT s.names, cutT s false, s.what.toNat, by simp, ?_, by omega, nopt_put _, cut_put s h6⟩
  have hk := ask_put s.what.toNat (by omega) s.path h1
  unfold askT
  have e : (if s.what = 0 then [] else [wordL s.what.toNat] : List (List UInt8)) = if s.what.toNat = 0 then [] else [wordL s.what.toNat] := by
    by_cases h0 : s.what = 0
    · rw [if_pos h0, if_pos (by omega)]
    · rw [if_neg h0, if_neg (by omega)]
  rw [e]
  exact hk
/-- What Parse says of Put's text. -/
theorem put_spec (s : Spc) : specC (putS s false) = if checkS s = true then some s else none := by
  by_cases h : checkS s = true
  · rw [if_pos h]
    unfold specC
    rw [(specL_iff _ s).2 (put_text s h)]
    simp only
    rw [if_pos h]
  · rw [if_neg h]
    unfold putS
    rw [if_neg h]
    rfl
theorem put_len (s : Spc) (answer : Bool) (hn : ∀ a ∈ s.names, a.length ≤ 1000) : (putS s answer).length ≤ 10000000 := by
  unfold putS
  by_cases h : checkS s = true
  · obtain ⟨h1, h2, h3, h4, h5, h6⟩ := checkS_parts h
    rw [if_pos h]
    have l1 := askT_len s h1 h2 h4
    have l2 := cutT_len s answer h6
    have l3 : (nmsT s.names).length ≤ 1000000 := by
      unfold nmsT
      split
      · simp
      · have g1 := join_len [32] (by decide) (s.names.map nameT)
        have g2 := wsW_le 2002 (s.names.map nameT) (fun a ha => by
          obtain ⟨c, hc, rfl⟩ := List.mem_map.1 ha
          have h1 := nameT_len c
          have h2 := hn c hc
          omega)
        have g3 : (s.names.map nameT).length * (2002 + 1) ≤ 100 * (2002 + 1) := Nat.mul_le_mul_right _ (by simpa using h5)
        simp only [List.length_append, List.length_cons, List.length_nil]
        omega
    simp only [List.length_append, List.length_cons, List.length_nil]
    omega
  · rw [if_neg h]
    simp
end Go.Proofs.YthcleaflhljdlaaGreatDoor
