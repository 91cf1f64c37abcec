/- The laws of layer 5 (lines): LinesJoined. -/
import Derived.Test.YtdiomfoeiiigfaaLinesI
import Derived.Test.YtdiomfoeiiigfaaLinesN
import Derived.Test.YtdiomfoeiiigfaaStrs
import Derived.Test.YtdiomfoeiiigfaaLinesL
import Derived.Deep.DeepCutAuto
import Derived.Deep.CutBlock
import Derived.Deep.RegionHeld
namespace Go.Proofs.Ytdiomfoeiiigfaa
open Go Go.RowKit

def strV (l : List UInt8) : Value := .string ⟨l.toArray⟩
theorem strV_bytes (s : ByteArray) : strV s.data.toList = .string s := by
  unfold strV
  congr 1
theorem Try.infoStr : (Try.prog.info? 9).map (fun i => (i.zero, i.size, i.bytes)) = some (some (.string ⟨#[]⟩), 1, 16) := by kernel_rfl
theorem bytes_one (s : ByteArray) (k : Nat) (h : k < s.size) : (s.extract k (k + 1)).data.toList = [s[k]] := by
  rw [extract_toList, drop_cons s k h, Nat.add_sub_cancel_left]
  rfl
theorem strRow_at {W : World} {base n : Nat} {e : TypeId} {v : Value} {wl : List (List UInt8)} (h : W.ownsRow base e 1 v n (wl.map strV)) (hn : n = wl.length) :
    ∃ ao cap, v = .slice ao wl.length cap ∧ wl.length ≤ cap ∧ cap ≤ maxLen ∧ ∀ j, (hj : j < wl.length) → ∃ g, ao = some ⟨g, 0, none⟩ ∧ g < W.heap.size ∧ W.cell? ⟨g, j, none⟩ = some (.string ⟨wl[j].toArray⟩) := by
  subst hn
  rcases h.2 with ⟨rfl, h0⟩ | ⟨g, cap, cur, rfl, _, hh, hc, hm, _, _⟩
  · exact ⟨none, 0, by rw [h0], by omega, Nat.zero_le _, fun j hj => by omega⟩
  · refine ⟨_, cap, rfl, hc, hm, fun j hj => ⟨g, rfl, (Array.getElem?_eq_some_iff.1 hh).1, ?_⟩⟩
    rw [(rowAt_owned h).cell j (by simpa using hj)]
    simp [strV]
theorem bytesRow_arg2 (W : World) (s : ByteArray) (e : TypeId) (fr : Nat × Nat) (hs : s.size ≤ maxLen) :
    bytesArg (W.alloc (.cells (bytesRow s (grownCap W.drew s.size 0 e)) e fr)).drew.drew (.slice (some ⟨W.heap.size, 0, none⟩) s.size (grownCap W.drew s.size 0 e)) s.data.toList := bytesRow_arg W.drew s e fr hs
/-- What is told: the lines of the bytes, by their texts. -/
def Told (b : List UInt8) (want : List (List UInt8)) : Prop := (linesS b 0 b.length).map (textOf b) = want

set_option maxRecDepth 100000 in
set_option maxHeartbeats 4000000 in
theorem linesJoined_any (vl : Value) (ls : List ByteArray) (ve : Value) (es : List UInt8) (last : Bool) (w : World) (hvl : strsArg w vl ls) (hve : bytesArg w ve es) :
    Calls Try.prog 5 #[vl, ve, .bool last] w fun e w' => e = .returned (.bool true) ∧ Below w.heap.size w w' := by
  obtain ⟨lo, lc, rfl, hlc, hlm, hlcell⟩ := hvl.at
  obtain ⟨eo, ec, rfl, hec, hem, hes⟩ := hve
  have HLC := Lib.hid hlcell
  have HES : Hid (sliceAt w eo es) := hes
  clear hvl hlcell hes
  unfold maxLen at hlm hem
  have hcases : 10 < ls.length ∨ (ls.length ≤ 10 ∧ es.length < ls.length) ∨ (ls.length ≤ 10 ∧ ls.length ≤ es.length) := by omega
  rcases hcases with hl | ⟨hl, hl2⟩ | ⟨hl, hl2⟩
  iterate 2
    · go_enter Try.func5, Try.ntmps5
      go_wp2_with fail
      refine (awake_any _).mono ?_
      rintro e w1 ⟨rfl, hb1⟩
      have HB1 := Lib.hid hb1; clear hb1
      go_wp2
      go_ret
      exact ⟨rfl, HB1.out⟩
  obtain ⟨i0, hi0, hz0, hz1, hz2⟩ := info_parts Try.infoStr
  have hd1 : decide ((10 : Int) < (ls.length : Int)) = false := decide_eq_false (by omega)
  have hd2 : decide (es.length < ls.length) = false := decide_eq_false (by omega)
  go_enter Try.func5, Try.ntmps5
  go_wp2_with fail
  refine (awake_any _).mono ?_
  rintro e w1 ⟨rfl, hb1⟩
  have HB1 := Lib.hid hb1; clear hb1
  go_upto_block 0 with fail
  go_cut [8, 9] (fun bv wv wx => ∃ (B : ByteArray) (wl : List (List UInt8)), bv = .string B ∧ B.size ≤ 230 ∧ wl.length ≤ 10 ∧ Hid (Told B.data.toList wl) ∧ Hid (wx.ownsRow w.heap.size 9 1 wv wl.length (wl.map strV)) ∧ Hid (Below w.heap.size w wx))
  case first =>
    go_wp2_with fail
    go_loopg [8, 9, 10] ls.length (fun q bv wv iv wr => ∃ (i : Nat) (B : ByteArray) (wl : List (List UInt8)), i ≤ ls.length ∧ q = ls.length - i ∧ iv = .int .i64 i ∧ bv = .string B ∧ B.size ≤ 22 * i ∧ wl.length ≤ i ∧ Hid (Joined B.data.toList wl) ∧ Hid (wr.ownsRow w.heap.size 9 1 wv wl.length (wl.map strV)) ∧ Hid (Below w.heap.size w wr))
    case atStart => exact ⟨0, ⟨#[]⟩, [], Nat.zero_le _, rfl, rfl, rfl, Nat.zero_le _, Nat.zero_le _, Joined.start, World.ownsRow_nil _ _ _ _, HB1.out⟩
    case round =>
      obtain ⟨i, B, wl, hi, rfl, rfl, rfl, hBs, hwl, HJ, HO, HB⟩ := hrel
      by_cases hlt : i < ls.length
      · obtain ⟨lb, loff, rfl, hlb, hcell, hsz⟩ := HLC.out i hlt
        obtain ⟨S, hS⟩ : ∃ S, S = ls[i] := ⟨_, rfl⟩
        rw [← hS] at hcell hsz
        clear hS
        unfold maxLen at hsz
        replace hcell := (HB.out.cell (p := ⟨lb, loff + i, none⟩) hlb).trans hcell
        go_upto_block 2 with fail
        go_cut [11] (fun tv wx => ∃ T : ByteArray, tv = .string T ∧ T.size ≤ 20 ∧ Hid (∀ c ∈ T.data.toList, plainB c = true) ∧ wr = wx)
        case first =>
          go_wp2_with fail
          go_loopg [11, 12] 20 (fun q tv kv wx => ∃ (k : Nat) (T : ByteArray), k ≤ 20 ∧ q = 20 - k ∧ kv = .int .i64 k ∧ tv = .string T ∧ T.size ≤ k ∧ Hid (∀ c ∈ T.data.toList, plainB c = true) ∧ wr = wx)
          case atStart => exact ⟨0, ⟨#[]⟩, Nat.zero_le _, rfl, rfl, rfl, Nat.zero_le _, by unfold Hid; simp, rfl⟩
          case round =>
            obtain ⟨k, T, hk, rfl, rfl, rfl, hT, HT, rfl⟩ := hrel
            by_cases hkS : k < S.size
            · by_cases hk20 : k < 20
              · by_cases h10 : S[k] = 10
                · have ht10 : ((S[k].toNat : Int) == 10) = true := by rw [h10]; rfl
                  have ht10' : ((S[k].toNat : Int) != 10) = false := by rw [h10]; rfl
                  clear h10
                  go_wp2_with fail
                  go_roundg (20 - (k + 1))
                  case measure => omega
                  case rel => exact ⟨k + 1, T, by omega, rfl, by go_num, rfl, by omega, HT, rfl⟩
                · have ht10 : ((S[k].toNat : Int) == 10) = false := beq_no fun e => h10 (toNat_eq (by show S[k].toNat = 10; omega))
                  have ht10' : ((S[k].toNat : Int) != 10) = true := bne_yes fun e => h10 (toNat_eq (by show S[k].toNat = 10; omega))
                  by_cases h13 : S[k] = 13
                  · have ht13 : ((S[k].toNat : Int) == 13) = true := by rw [h13]; rfl
                    have ht13' : ((S[k].toNat : Int) != 13) = false := by rw [h13]; rfl
                    clear h10 h13
                    go_wp2_with fail
                    go_roundg (20 - (k + 1))
                    case measure => omega
                    case rel => exact ⟨k + 1, T, by omega, rfl, by go_num, rfl, by omega, HT, rfl⟩
                  · have ht13 : ((S[k].toNat : Int) == 13) = false := beq_no fun e => h13 (toNat_eq (by show S[k].toNat = 13; omega))
                    have ht13' : ((S[k].toNat : Int) != 13) = true := bne_yes fun e => h13 (toNat_eq (by show S[k].toNat = 13; omega))
                    have HPl : Hid (plainB S[k] = true) := (plainB_iff _).2 ⟨h10, h13⟩
                    clear h10 h13
                    go_wp2_with fail
                    go_roundg (20 - (k + 1))
                    case measure => omega
                    case rel =>
                      refine ⟨k + 1, T ++ S.extract k (k + 1), by omega, rfl, by go_num, rfl, ?_, ?_, rfl⟩
                      · rw [ByteArray.size_append, extract_size' S k (k + 1) (by omega)]
                        omega
                      · intro c hc
                        rw [cat_toList, bytes_one S k hkS] at hc
                        rcases List.mem_append.1 hc with h | h
                        · exact HT.out c h
                        · rw [List.mem_singleton.1 h]
                          exact HPl.out
              · obtain rfl : k = 20 := by omega
                go_wp2_with fail
                go_meet
                exact ⟨T, rfl, by omega, HT, rfl⟩
            · go_wp2_with fail
              go_meet
              exact ⟨T, rfl, by omega, HT, rfl⟩
        case rest =>
          obtain ⟨T, rfl, hT, HT, rfl⟩ := hcut
          clear hcell
          by_cases hla : i + 1 = ls.length ∧ last = true
          · obtain ⟨hla1, rfl⟩ := hla
            have hda : ((i : Int) == (ls.length : Int) - 1) = true := beq_yes (by omega)
            have HI := Lib.hid hla1
            clear hla1
            by_cases h0 : T.size = 0
            · have hte : T.toList = [] := (toList_nil_iff T).2 h0
              go_wp2_with fail
              go_meet
              refine ⟨B ++ T, wl, rfl, by rw [ByteArray.size_append]; omega, by omega, ?_, HO, HB⟩
              have e : T.data.toList = [] := by rw [ByteArray.toList_eq] at hte; exact hte
              unfold Hid Told
              rw [cat_toList, e, List.append_nil]
              exact HJ.out.whole
            · have hte : (T.toList == []) = false := by
                rw [beq_eq_false_iff_ne]
                exact fun h => h0 ((toList_nil_iff T).1 h)
              go_wp2_with (at_builtin; refine wpList_append_own _ rfl _ _ 41 rfl w.heap.size 9 i0 (.string ⟨#[]⟩) 1 16 Try.underlying41 hi0 hz0 hz1 hz2 rfl (by decide) _ _ _ rfl (HO.out.alloc _) ⟨wr.heap.size, 0, none⟩ 1 1 [.string T] rfl rfl ?c1 ?c2 ?c3 ?c4 ?c5 ?_)
              case c1 => exact cell_one_new wr _ _
              case c2 => intro u hu; simp at hu; subst hu; rfl
              case c3 => unfold maxLen; omega
              case c4 => omega
              case c5 => simp; have := HB.out.size; omega
              intro v' w2 hown2 hgrow2 _
              have HO2 : Hid (w2.ownsRow w.heap.size 9 1 v' (wl ++ [T.data.toList]).length ((wl ++ [T.data.toList]).map strV)) := own_cast hown2 (by simp) (by rw [List.map_append, List.map_cons, List.map_nil, strV_bytes])
              have HB2 : Hid (Below w.heap.size w w2) := (HB.out.alloc HB.out.size _).grown hgrow2 (by have := HB.out.size; simp; omega) (fun q hq => (HO.out.lt q hq).1)
              clear hown2 hgrow2
              go_wp2_with fail
              go_meet
              refine ⟨B ++ T, _, rfl, by rw [ByteArray.size_append]; omega, by simp; omega, ?_, HO2, HB2⟩
              unfold Hid Told
              rw [cat_toList]
              exact HJ.out.left HT.out (fun e => h0 ((toList_nil_iff T).1 (by rw [ByteArray.toList_eq]; exact e)))
          · by_cases hne : i + 1 = ls.length
            · have hlf : last = false := by
                cases last
                · rfl
                · exact absurd ⟨hne, rfl⟩ hla
              have hda : ((i : Int) == (ls.length : Int) - 1) = true := beq_yes (by omega)
              subst hlf
              have HI := Lib.hid hne
              clear hne hla
              obtain ⟨eb, eoff, rfl, heb, hecell⟩ := sliceAt.cell HES.out i (by omega)
              replace hecell := (HB.out.cell (p := ⟨eb, eoff + i, none⟩) heb).trans hecell
              obtain ⟨y, hy⟩ : ∃ y, y = es[i] := ⟨_, rfl⟩
              rw [← hy] at hecell
              clear hy
              obtain ⟨z1, e1⟩ : ∃ z, bits .and .u8 (y.toNat : Int) 1 = z := ⟨_, rfl⟩
              rcases Bool.eq_false_or_eq_true (z1 == 1) with t1 | t1
              · go_wp2_with (at_builtin; refine wpList_append_own _ rfl _ _ 41 rfl w.heap.size 9 i0 (.string ⟨#[]⟩) 1 16 Try.underlying41 hi0 hz0 hz1 hz2 rfl (by decide) _ _ _ rfl (HO.out.alloc _) ⟨wr.heap.size, 0, none⟩ 1 1 [.string T] rfl rfl ?c1 ?c2 ?c3 ?c4 ?c5 ?_)
                case c1 => exact cell_one_new wr _ _
                case c2 => intro u hu; simp at hu; subst hu; rfl
                case c3 => unfold maxLen; omega
                case c4 => omega
                case c5 => simp; have := HB.out.size; omega
                intro v' w2 hown2 hgrow2 _
                have HO2 : Hid (w2.ownsRow w.heap.size 9 1 v' (wl ++ [T.data.toList]).length ((wl ++ [T.data.toList]).map strV)) := own_cast hown2 (by simp) (by rw [List.map_append, List.map_cons, List.map_nil, strV_bytes])
                have HB2 : Hid (Below w.heap.size w w2) := (HB.out.alloc HB.out.size _).grown hgrow2 (by have := HB.out.size; simp; omega) (fun q hq => (HO.out.lt q hq).1)
                clear hown2 hgrow2
                go_wp2_with fail
                go_roundg (ls.length - (i + 1))
                case measure => omega
                case rel =>
                  refine ⟨i + 1, B ++ T ++ ⟨#[13]⟩ ++ ⟨#[10]⟩, _, by omega, rfl, by go_num, rfl, ?_, by simp; omega, ?_, HO2, HB2⟩
                  · simp only [ByteArray.size_append]
                    have : (⟨#[10]⟩ : ByteArray).size = 1 := rfl
                    have : (⟨#[13]⟩ : ByteArray).size = 1 := rfl
                    omega
                  · have := HJ.out.step HT.out true
                    unfold Hid
                    simp only [cat_toList]
                    simpa using this
              · go_wp2_with (at_builtin; refine wpList_append_own _ rfl _ _ 41 rfl w.heap.size 9 i0 (.string ⟨#[]⟩) 1 16 Try.underlying41 hi0 hz0 hz1 hz2 rfl (by decide) _ _ _ rfl (HO.out.alloc _) ⟨wr.heap.size, 0, none⟩ 1 1 [.string T] rfl rfl ?c1 ?c2 ?c3 ?c4 ?c5 ?_)
                case c1 => exact cell_one_new wr _ _
                case c2 => intro u hu; simp at hu; subst hu; rfl
                case c3 => unfold maxLen; omega
                case c4 => omega
                case c5 => simp; have := HB.out.size; omega
                intro v' w2 hown2 hgrow2 _
                have HO2 : Hid (w2.ownsRow w.heap.size 9 1 v' (wl ++ [T.data.toList]).length ((wl ++ [T.data.toList]).map strV)) := own_cast hown2 (by simp) (by rw [List.map_append, List.map_cons, List.map_nil, strV_bytes])
                have HB2 : Hid (Below w.heap.size w w2) := (HB.out.alloc HB.out.size _).grown hgrow2 (by have := HB.out.size; simp; omega) (fun q hq => (HO.out.lt q hq).1)
                clear hown2 hgrow2
                go_wp2_with fail
                go_roundg (ls.length - (i + 1))
                case measure => omega
                case rel =>
                  refine ⟨i + 1, B ++ T ++ ⟨#[10]⟩, _, by omega, rfl, by go_num, rfl, ?_, by simp; omega, ?_, HO2, HB2⟩
                  · simp only [ByteArray.size_append]
                    have : (⟨#[10]⟩ : ByteArray).size = 1 := rfl
                    have : (⟨#[13]⟩ : ByteArray).size = 1 := rfl
                    omega
                  · have := HJ.out.step HT.out false
                    unfold Hid
                    simp only [cat_toList]
                    simpa using this
            · have hda : ((i : Int) == (ls.length : Int) - 1) = false := beq_no (by omega)
              clear hla
              obtain ⟨eb, eoff, rfl, heb, hecell⟩ := sliceAt.cell HES.out i (by omega)
              replace hecell := (HB.out.cell (p := ⟨eb, eoff + i, none⟩) heb).trans hecell
              obtain ⟨y, hy⟩ : ∃ y, y = es[i] := ⟨_, rfl⟩
              rw [← hy] at hecell
              clear hy
              obtain ⟨z1, e1⟩ : ∃ z, bits .and .u8 (y.toNat : Int) 1 = z := ⟨_, rfl⟩
              rcases Bool.eq_false_or_eq_true (z1 == 1) with t1 | t1
              · go_wp2_with (at_builtin; refine wpList_append_own _ rfl _ _ 41 rfl w.heap.size 9 i0 (.string ⟨#[]⟩) 1 16 Try.underlying41 hi0 hz0 hz1 hz2 rfl (by decide) _ _ _ rfl (HO.out.alloc _) ⟨wr.heap.size, 0, none⟩ 1 1 [.string T] rfl rfl ?c1 ?c2 ?c3 ?c4 ?c5 ?_)
                case c1 => exact cell_one_new wr _ _
                case c2 => intro u hu; simp at hu; subst hu; rfl
                case c3 => unfold maxLen; omega
                case c4 => omega
                case c5 => simp; have := HB.out.size; omega
                intro v' w2 hown2 hgrow2 _
                have HO2 : Hid (w2.ownsRow w.heap.size 9 1 v' (wl ++ [T.data.toList]).length ((wl ++ [T.data.toList]).map strV)) := own_cast hown2 (by simp) (by rw [List.map_append, List.map_cons, List.map_nil, strV_bytes])
                have HB2 : Hid (Below w.heap.size w w2) := (HB.out.alloc HB.out.size _).grown hgrow2 (by have := HB.out.size; simp; omega) (fun q hq => (HO.out.lt q hq).1)
                clear hown2 hgrow2
                go_wp2_with fail
                go_roundg (ls.length - (i + 1))
                case measure => omega
                case rel =>
                  refine ⟨i + 1, B ++ T ++ ⟨#[13]⟩ ++ ⟨#[10]⟩, _, by omega, rfl, by go_num, rfl, ?_, by simp; omega, ?_, HO2, HB2⟩
                  · simp only [ByteArray.size_append]
                    have : (⟨#[10]⟩ : ByteArray).size = 1 := rfl
                    have : (⟨#[13]⟩ : ByteArray).size = 1 := rfl
                    omega
                  · have := HJ.out.step HT.out true
                    unfold Hid
                    simp only [cat_toList]
                    simpa using this
              · go_wp2_with (at_builtin; refine wpList_append_own _ rfl _ _ 41 rfl w.heap.size 9 i0 (.string ⟨#[]⟩) 1 16 Try.underlying41 hi0 hz0 hz1 hz2 rfl (by decide) _ _ _ rfl (HO.out.alloc _) ⟨wr.heap.size, 0, none⟩ 1 1 [.string T] rfl rfl ?c1 ?c2 ?c3 ?c4 ?c5 ?_)
                case c1 => exact cell_one_new wr _ _
                case c2 => intro u hu; simp at hu; subst hu; rfl
                case c3 => unfold maxLen; omega
                case c4 => omega
                case c5 => simp; have := HB.out.size; omega
                intro v' w2 hown2 hgrow2 _
                have HO2 : Hid (w2.ownsRow w.heap.size 9 1 v' (wl ++ [T.data.toList]).length ((wl ++ [T.data.toList]).map strV)) := own_cast hown2 (by simp) (by rw [List.map_append, List.map_cons, List.map_nil, strV_bytes])
                have HB2 : Hid (Below w.heap.size w w2) := (HB.out.alloc HB.out.size _).grown hgrow2 (by have := HB.out.size; simp; omega) (fun q hq => (HO.out.lt q hq).1)
                clear hown2 hgrow2
                go_wp2_with fail
                go_roundg (ls.length - (i + 1))
                case measure => omega
                case rel =>
                  refine ⟨i + 1, B ++ T ++ ⟨#[10]⟩, _, by omega, rfl, by go_num, rfl, ?_, by simp; omega, ?_, HO2, HB2⟩
                  · simp only [ByteArray.size_append]
                    have : (⟨#[10]⟩ : ByteArray).size = 1 := rfl
                    have : (⟨#[13]⟩ : ByteArray).size = 1 := rfl
                    omega
                  · have := HJ.out.step HT.out false
                    unfold Hid
                    simp only [cat_toList]
                    simpa using this
      · obtain rfl : i = ls.length := by omega
        go_wp2_with fail
        go_meet
        exact ⟨B, wl, rfl, by omega, by omega, HJ.out.whole, HO, HB⟩
  case rest =>
    obtain ⟨B, wl, rfl, hBs, hwl, HTo, HO, HB⟩ := hcut
    obtain ⟨W1, bcap, hcv, hbarg, hb1⟩ := conv_bytesArg (P := Try.prog) wc 9 22 5 B (by unfold maxLen; omega) Try.underlying9 Try.underlying22 Try.underlying5
    have HBA := Lib.hid hbarg
    have hsl := len_toList B
    have HOf := Lib.hid (of_any _ B.data.toList 0 (B.size : Int) W1 hbarg (by omega))
    have hz : linesZ B.data.toList 0 (B.size : Int) = linesS B.data.toList 0 B.data.toList.length := by
      unfold linesZ
      rw [hsl, if_pos (withinB_yes ⟨Int.le_refl _, by omega, Int.le_refl _⟩)]
      rfl
    rw [hz] at HOf
    obtain ⟨xs, hxs⟩ : ∃ xs, xs = linesS B.data.toList 0 B.data.toList.length := ⟨_, rfl⟩
    rw [← hxs] at HOf
    have HX : Hid (∀ x ∈ xs, x.f ≤ x.t ∧ x.t ≤ B.data.toList.length) := by
      intro x hx
      rw [hxs, ← hz] at hx
      exact linesZ_within hx
    have HW : Hid (xs.map (textOf B.data.toList) = wl) := by unfold Hid; rw [hxs]; exact HTo.out
    have hlen : xs.length = wl.length := by have := congrArg List.length HW.out; simpa using this
    have HBW1 : Hid (Below w.heap.size w W1) := HB.out.trans (hb1.mono HB.out.size)
    have HO1 := Lib.hid (ownsRow_below HO.out hb1)
    clear hz hxs hbarg hb1 hsl HTo
    go_wp2_with fail
    with_reducible refine HOf.out.mono ?_
    rintro e w2 ⟨u, rfl, hown, hb2⟩
    have HB2 := Lib.hid (HBW1.out.trans (hb2.mono HBW1.out.size))
    have HO2 := Lib.hid (ownsRow_below HO1.out hb2)
    obtain ⟨xo, xc, rfl, hxc, hxm, hxcell⟩ := (rowLn_owned hown).at
    have HXC := Lib.hid hxcell
    clear hown hb2 hxcell hcv
    unfold maxLen at hxm
    obtain ⟨so, sc, rfl, hsc, hsm, hscell⟩ := strRow_at HO2.out rfl
    have HSC := Lib.hid hscell
    clear hscell
    unfold maxLen at hsm
    have hcvall := fun W : World => run_bytes_of_string (P := Try.prog) W 9 22 5 B Try.underlying9 Try.underlying22 Try.underlying5
    go_wp2_with fail
    go_loopg [14] wl.length (fun q iv wr => ∃ i : Nat, i ≤ wl.length ∧ q = wl.length - i ∧ iv = .int .i64 i ∧ Hid (Below w2.heap.size w2 wr))
    case atStart => exact ⟨0, Nat.zero_le _, rfl, rfl, Below.refl _ _⟩
    case round =>
      obtain ⟨i, hi, rfl, rfl, HBr⟩ := hrel
      by_cases hlt : i < wl.length
      · obtain ⟨g1, rfl, hg1, c0, c1, c2⟩ := HXC.out i (by omega)
        obtain ⟨g2, rfl, hg2, d0⟩ := HSC.out i hlt
        have hin := HX.out xs[i] (List.getElem_mem (by omega))
        have htx : textOf B.data.toList (xs[i]'(by omega)) = wl[i] := by
          have e := HW.out
          have e2 : (xs.map (textOf B.data.toList))[i]? = wl[i]? := by rw [e]
          rw [List.getElem?_map, List.getElem?_eq_getElem (by omega), List.getElem?_eq_getElem hlt] at e2
          simpa using e2
        obtain ⟨x, hx⟩ : ∃ x, x = xs[i]'(by omega) := ⟨_, rfl⟩
        rw [← hx] at c0 c1 c2 hin htx
        unfold textOf at htx
        obtain ⟨F, hF⟩ : ∃ F, F = x.f := ⟨_, rfl⟩
        obtain ⟨T, hT⟩ : ∃ T, T = x.t := ⟨_, rfl⟩
        obtain ⟨N, hN⟩ : ∃ N, N = x.n := ⟨_, rfl⟩
        rw [← hF] at c0 hin htx
        rw [← hT] at c1 hin htx
        rw [← hN] at c2
        obtain ⟨hFT, hTl⟩ := hin
        obtain ⟨O, hO⟩ : ∃ O : ByteArray, O = ⟨wl[i].toArray⟩ := ⟨_, rfl⟩
        have HT := Lib.hid (fun v W h => text_any v B.data.toList (F : Int) (T : Int) (N : Int) W h)
        rw [textS_nat _ hFT hTl, htx, ← hO] at HT
        rw [← hO] at d0
        replace c0 := (HBr.out.cell (p := ⟨g1, i * 3, none⟩) hg1).trans c0
        replace c1 := (HBr.out.cell (p := ⟨g1, i * 3 + 1, none⟩) hg1).trans c1
        replace c2 := (HBr.out.cell (p := ⟨g1, i * 3 + 2, none⟩) hg1).trans c2
        replace d0 := (HBr.out.cell (p := ⟨g2, i, none⟩) hg2).trans d0
        have hbw : Below wr.heap.size wr wr := Below.refl _ _
        have hOO : (O.toList != O.toList) = false := by simp
        clear hx hF hT hN hO htx hFT hTl
        go_wp2_with fail
        go_region_held (fun W' => W'.cell? ⟨g1, i * 3, none⟩ = some (.int .i64 (F : Int)) ∧ W'.cell? ⟨g1, i * 3 + 1, none⟩ = some (.int .i64 (T : Int)) ∧ W'.cell? ⟨g1, i * 3 + 2, none⟩ = some (.int .i64 (N : Int)) ∧ W'.cell? ⟨g2, i, none⟩ = some (.string O))
          (first | go_keep | (exact ⟨(BW.cell c0 ⟨_, by assumption⟩), (BW.cell c1 ⟨_, by assumption⟩), (BW.cell c2 ⟨_, by assumption⟩), (BW.cell d0 ⟨_, by assumption⟩)⟩))
          ((go_at_call 15; with_reducible refine (HT.out _ _ ?_).mono ?_; (exact bytesRow_arg2 _ B _ _ (by unfold maxLen; omega)); rintro e w5 ⟨rfl, hb5⟩; have hB5 : Below wr.heap.size wr w5 := (((Below.refl _ _).alloc (Nat.le_refl _) _).drew.drew).trans (hb5.mono (by simp))))
        have HZ : Hid (Below w2.heap.size w2 w5) := HBr.out.trans (hB5.mono HBr.out.size)
        clear hb5 hB5
        go_wp2_with fail
        go_roundg (wl.length - (i + 1))
        case measure => omega
        case rel => exact ⟨i + 1, by omega, rfl, by go_num, HZ⟩
      · obtain rfl : i = wl.length := by omega
        go_wp2_with fail
        go_ret
        exact ⟨rfl, HB2.out.trans (HBr.out.mono HB2.out.size)⟩
end Go.Proofs.Ytdiomfoeiiigfaa
