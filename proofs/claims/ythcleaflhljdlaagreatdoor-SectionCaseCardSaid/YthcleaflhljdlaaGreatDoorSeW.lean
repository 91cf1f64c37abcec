/- The law SectionCase. -/
import Derived.Test.YthcleaflhljdlaaGreatDoorSeU
import Derived.Test.YthcleaflhljdlaaGreatDoorSeV
import Derived.Test.YthcleaflhljdlaaGreatDoorQB
import Derived.Deep.DeepCutAuto
import Derived.Deep.CutBlock
namespace Go.Proofs.YthcleaflhljdlaaGreatDoor
open Go Go.RowKit

def csB (kk : Nat) : ByteArray := ⟨(csW kk ++ csN kk).toArray⟩
theorem digits_cut (n : Nat) (h : n < 9) : (⟨#[49, 50, 51, 52, 53, 54, 55, 56, 57]⟩ : ByteArray).extract n (n + 1) = ⟨#[byteN (49 + n)]⟩ := by
  rcases (by omega : n = 0 ∨ n = 1 ∨ n = 2 ∨ n = 3 ∨ n = 4 ∨ n = 5 ∨ n = 6 ∨ n = 7 ∨ n = 8) with rfl | rfl | rfl | rfl | rfl | rfl | rfl | rfl | rfl <;> (apply bytes_eq; rfl)
theorem csB_cell (w : World) (t : TypeId) (kk : Nat) (h : kk < 5) : (w.alloc (.cells #[.string ⟨#[72, 69, 65, 68, 69, 82]⟩, .string ⟨#[84, 69, 88, 84]⟩, .string ⟨#[77, 73, 77, 69]⟩, .string ⟨#[72, 69, 65, 68, 69, 82, 46, 70, 73, 69, 76, 68, 83, 32, 40, 97, 41]⟩, .string ⟨#[72, 69, 65, 68, 69, 82, 46, 70, 73, 69, 76, 68, 83, 46, 78, 79, 84, 32, 40, 98, 32, 99, 41]⟩] t)).cell? ⟨w.heap.size, kk, none⟩ = some (.string (csB kk)) := by
  simp only [World.cell?, heap_alloc_new]
  rcases five h with rfl | rfl | rfl | rfl | rfl <;> rfl
set_option maxRecDepth 100000 in
set_option maxHeartbeats 4000000 in
theorem sectionCase_any (k : UInt8) (caps : Nat) (v : Value) (l : List UInt8) (w : World) (_hcaps : caps ≤ 4294967295) (hv : bytesArg w v l) (he : env w) :
    Calls Tryz.prog 5 #[.int .u8 (k.toNat : Int), .int .u32 (caps : Int), v] w fun e w' => e = .returned (.bool true) ∧ Below w.heap.size w w' := by
  obtain ⟨kk, hkk⟩ : ∃ kk, kk = k.toNat % 5 := ⟨_, rfl⟩
  have hk5 : kk < 5 := by omega
  have m1 : (k.toNat : Int) % 5 = (kk : Int) := by omega
  have t1 : (k.toNat : Int).tmod 5 = (kk : Int) := by rw [Int.tmod_eq_emod_of_nonneg (by omega)]; exact m1
  have hki : (kk : Int) < 5 := by omega
  obtain ⟨ao, cap, rfl, hcap, hcm, hsl⟩ := hv.at
  have HSl := Lib.hid hsl
  have HA := Lib.hid (awake_any w he)
  have HE := Lib.hid he
  clear hv he hsl hkk
  by_cases h0 : l.length = 0
  · have b0 : ((l.length : Int) == 0) = true := beq_yes (by omega)
    clear h0
    go_enter Tryz.func5, Tryz.ntmps5
    go_wp2_with fail
    with_reducible refine HA.out.mono ?_
    rintro e w1 ⟨rfl, hb1⟩
    go_wp2_with fail
    go_ret
    exact ⟨rfl, hb1⟩
  · have b0 : ((l.length : Int) == 0) = false := beq_no (by omega)
    by_cases h10 : 10 < l.length
    · have i10 : 10 < (l.length : Int) := by omega
      clear h0 h10
      go_enter Tryz.func5, Tryz.ntmps5
      go_wp2_with fail
      with_reducible refine HA.out.mono ?_
      rintro e w1 ⟨rfl, hb1⟩
      go_wp2_with fail
      go_ret
      exact ⟨rfl, hb1⟩
    · have i10 : ¬ 10 < (l.length : Int) := by omega
      have hd10 : decide (10 < (l.length : Int)) = false := decide_eq_false i10
      have HL : Hid (l.length ≤ 10 ∧ l ≠ []) := ⟨by omega, fun e => h0 (by rw [e]; rfl)⟩
      clear h0 h10
      go_enter Tryz.func5, Tryz.ntmps5
      go_wp2_with fail
      with_reducible refine HA.out.mono ?_
      rintro e w1 ⟨rfl, hb1⟩
      have HB1 := Lib.hid hb1
      have hcs := csB_cell w1 9 kk hk5
      obtain ⟨wb, hwb⟩ : ∃ wb, wb = csB kk := ⟨_, rfl⟩
      rw [← hwb] at hcs
      have HWb := Lib.hid hwb
      clear hb1 HA hwb
      go_wp2_with fail
      go_loopg [9, 10] l.length (fun q sv xi wr => ∃ (i : Nat) (S : ByteArray), i ≤ l.length ∧ q = l.length - i ∧ xi = .int .i64 (i : Int) ∧ sv = .string S ∧ S.size ≤ 1 + 2 * i ∧ Hid (S.data.toList = 91 :: flatT (l.take i)) ∧ Hid (Below w.heap.size w wr))
      case atStart => exact ⟨0, ⟨#[91]⟩, by omega, by omega, rfl, rfl, by decide, rfl, HB1.out.alloc HB1.out.size _⟩
      case round =>
        obtain ⟨i, S, hi, rfl, rfl, rfl, hS, HS, HB⟩ := hrel
        by_cases hlt : i < l.length
        · obtain ⟨b, off, rfl, hbl, hcell⟩ := (HSl.out.below HB.out).cell i hlt
          obtain ⟨c, hc⟩ : ∃ c, c = l[i] := ⟨_, rfl⟩
          rw [← hc] at hcell
          obtain ⟨n, hn⟩ : ∃ n, n = c.toNat % 9 := ⟨_, rfl⟩
          have hn9 : n < 9 := by omega
          have n1 : (c.toNat : Int) % 9 = (n : Int) := by omega
          have n2 : (c.toNat : Int).tmod 9 = (n : Int) := by rw [Int.tmod_eq_emod_of_nonneg (by omega)]; exact n1
          have n3 : ((n : Int) + 1) % 256 = (n : Int) + 1 := by omega
          have n4 : (n : Int) + 1 ≤ 9 := by omega
          have hd : (i : Int) < (l.length : Int) := by omega
          have HN := Lib.hid hn
          have HCc := Lib.hid hc
          have C := BW.cell hcell
          have HDc := Lib.hid (digits_cut n hn9)
          clear hc hn hcell
          go_wp2_with fail
          refine wp_region_below (by kernel_rfl) (by kernel_rfl) ?_
          repeat (go_big_quiet_step (fail))
          refine wpQuiet_nil ?_
          rintro W2 ⟨⟨_, hb2⟩, rfl⟩
          have HB2 := Lib.hid (HB.out.trans (hb2.mono HB.out.size))
          obtain ⟨S2, hS2⟩ : ∃ S2, S2 = S ++ ((⟨#[49, 50, 51, 52, 53, 54, 55, 56, 57]⟩ : ByteArray).extract n (n + 1) ++ ⟨#[46]⟩) := ⟨_, rfl⟩
          have HS2l : Hid (S2.data.toList = 91 :: flatT (l.take (i + 1))) := by
            unfold Hid
            rw [List.take_succ_eq_append_getElem hlt, flatT_snoc, hS2, cat_toList, cat_toList, HDc.out, HS.out, ← HCc.out]
            unfold digB
            rw [← HN.out]
            rfl
          have hS2s : S2.size ≤ 1 + 2 * (i + 1) := by
            rw [← len_toList, HS2l.out]
            simp only [List.length_cons, flatT_len, List.length_take]
            omega
          rw [← hS2]
          clear hb2 hS2 C n1 n2 n3 n4
          go_wp2_with fail
          go_roundg (l.length - (i + 1))
          case measure => omega
          case rel => exact ⟨i + 1, S2, by omega, rfl, by go_num, rfl, hS2s, HS2l.out, HB2.out⟩
        · obtain rfl : i = l.length := by omega
          have hs1 := HS.out
          rw [List.take_of_length_le (Nat.le_refl _)] at hs1
          have HSt := Lib.hid hs1
          have HSx : Hid (S.size ≤ 100) := by have := HL.out.1; unfold Hid; omega
          obtain ⟨Wd, hWd⟩ : ∃ x, x = csW kk := ⟨_, rfl⟩
          obtain ⟨Wn, hWn⟩ : ∃ x, x = csN kk := ⟨_, rfl⟩
          have HWd := Lib.hid hWd
          have HWn := Lib.hid hWn
          have hsp : ∀ j, (h : j < Wd.length) → Wd[j] ≠ 32 ∧ Wd[j].toNat < 128 := by
            rw [hWd]
            rcases five hk5 with rfl | rfl | rfl | rfl | rfl <;> decide
          have hnh : ∀ h : 0 < Wn.length, Wn[0] = 32 := by
            rw [hWn]
            rcases five hk5 with rfl | rfl | rfl | rfl | rfl <;> decide
          have hwl : Wd.length + Wn.length ≤ 100 := by
            rw [hWd, hWn]
            rcases five hk5 with rfl | rfl | rfl | rfl | rfl <;> decide
          have hwl2 : wb.data.toList = Wd ++ Wn := by rw [HWb.out, hWd, hWn]; simp [csB]
          have hwz : wb.size = Wd.length + Wn.length := by rw [← len_toList, hwl2, List.length_append]
          have hwbs : wb.size ≤ 100 := by omega
          have hSs : S.size ≤ 100 := HSx.out
          have HSp := Lib.hid hsp
          have HNh := Lib.hid hnh
          have HW2 := Lib.hid hwl2
          have HWz := Lib.hid hwz
          clear hs1 hS HS hWd hWn hsp hnh hwl2 hwz hi hlt
          go_wp2_with (refine wpList_conv_bytes rfl (.tmp 61) 9 42 5 rfl _ rfl Tryz.underlying9 Tryz.underlying42 Tryz.underlying5 ?_; intro V1 p1 hrow1 hbv1 hp1)
          rw [HW2.out] at hrow1
          have HRow := Lib.hid hrow1
          have HB1v := Lib.hid (HB.out.trans (hbv1.mono HB.out.size))
          obtain ⟨Q, hQ⟩ : ∃ Q, Q = wr.heap.size := ⟨_, rfl⟩
          have hwQ : w.heap.size ≤ Q := by rw [hQ]; exact HB.out.size
          rw [← hQ] at HRow ⊢
          clear hrow1 hbv1 HB hQ
          go_loopg [12, 13] wb.size (fun q fv xi wr => ∃ (i : Nat) (cur : List UInt8), i ≤ wb.size ∧ q = wb.size - i ∧ xi = .int .i64 (i : Int) ∧ fv = .bool (decide (i ≤ Wd.length)) ∧ Hid (Turned (Wd ++ Wn) Wd cur i) ∧ Hid (rowAt wr Q 5 (cur.map byteV)) ∧ Hid (Below w.heap.size w wr))
          case atStart => exact ⟨0, Wd ++ Wn, by omega, by omega, rfl, by rw [decide_eq_true (Nat.zero_le _)], Turned.refl, HRow.out, HB1v.out⟩
          case round =>
            obtain ⟨i, cur, hi, rfl, rfl, rfl, HT, HR, HB⟩ := hrel
            by_cases hlt : i < wb.size
            · have hlW : i < (Wd ++ Wn).length := by rw [List.length_append, ← HWz.out]; exact hlt
              obtain ⟨hlc, hcg⟩ := HT.out.get hlW
              obtain ⟨c, hc⟩ : ∃ c, c = (Wd ++ Wn)[i] := ⟨_, rfl⟩
              have HCe := Lib.hid hc
              have hcell : wr.cell? ⟨Q, i, none⟩ = some (.int .u8 (c.toNat : Int)) := by
                have := HR.out.cell i (by simpa using hlc)
                rw [this, List.getElem_map, hcg, hc]
                rfl
              have hfr : wr.frozen? ⟨Q, i, none⟩ = false := HR.out.frozen i (by simpa using hlc)
              have hd : (i : Int) < (wb.size : Int) := by omega
              by_cases hw : i < Wd.length
              · have hcw : c = Wd[i] := by rw [hc]; exact List.getElem_append_left hw
                have hc32 := HSp.out i hw
                rw [← hcw] at hc32
                have e32 : ((c.toNat : Int) == 32) = false := beq_no (fun e => hc32.1 (toNat_eq (by have : (32 : UInt8).toNat = 32 := rfl; omega)))
                have hdw : decide (i ≤ Wd.length) = true := decide_eq_true (by omega)
                rw [hdw]
                clear hc hcg hcw hdw
                by_cases hz : bits .and .u32 ((caps : Int) / 2 ^ min i 32) 1 = 1
                · have bz := beq_yes hz
                  by_cases h65 : 65 ≤ (c.toNat : Int)
                  · by_cases h90 : (c.toNat : Int) ≤ 90
                    · have n3 : ((c.toNat : Int) + 32) % 256 = (c.toNat : Int) + 32 := by omega
                      obtain ⟨x, hx⟩ : ∃ x : UInt8, x = c + 32 := ⟨_, rfl⟩
                      have hxn : (x.toNat : Int) = (c.toNat : Int) + 32 := by
                        have h32 : (32 : UInt8).toNat = 32 := rfl
                        rw [hx, UInt8.toNat_add, h32]
                        omega
                      have HTx := Lib.hid (HT.out.turn hlW hw (x := x) (by
                        apply toNat_eq
                        rw [lowB_toNat, lowB_toNat, ← HCe.out, if_neg (by omega), if_pos (by omega)]
                        omega))
                      have HRx : Hid (rowAt (wr.setCell ⟨Q, i, none⟩ (.int .u8 ((c.toNat : Int) + 32))) Q 5 ((cur.set i x).map byteV)) := by
                        have := HR.out.set i (byteV x)
                        rw [← List.map_set] at this
                        unfold byteV at this
                        rw [hxn] at this
                        exact this
                      clear hx hxn
                      go_wp2_with fail
                      go_roundg (wb.size - (i + 1))
                      case measure => omega
                      case rel => exact ⟨i + 1, cur.set i x, by omega, rfl, by go_num, by rw [decide_eq_true (by omega)], HTx.out, HRx.out, HB.out.setCell hwQ _⟩
                    · clear hz
                      go_wp2_with fail
                      go_roundg (wb.size - (i + 1))
                      case measure => omega
                      case rel => exact ⟨i + 1, cur, by omega, rfl, by go_num, by rw [decide_eq_true (by omega)], HT.out.next, HR.out, HB.out⟩
                  · clear hz
                    go_wp2_with fail
                    go_roundg (wb.size - (i + 1))
                    case measure => omega
                    case rel => exact ⟨i + 1, cur, by omega, rfl, by go_num, by rw [decide_eq_true (by omega)], HT.out.next, HR.out, HB.out⟩
                · have bz := beq_no hz
                  go_wp2_with fail
                  go_roundg (wb.size - (i + 1))
                  case measure => omega
                  case rel => exact ⟨i + 1, cur, by omega, rfl, by go_num, by rw [decide_eq_true (by omega)], HT.out.next, HR.out, HB.out⟩
              · have HNo : Hid (decide (i + 1 ≤ Wd.length) = false) := decide_eq_false (by omega)
                by_cases h32 : (c.toNat : Int) = 32
                · have e32 := beq_yes h32
                  obtain ⟨fb, hfb⟩ : ∃ fb, fb = decide (i ≤ Wd.length) := ⟨_, rfl⟩
                  rw [← hfb]
                  clear hfb h32 hc hcg
                  go_wp2_with fail
                  go_roundg (wb.size - (i + 1))
                  case measure => omega
                  case rel => exact ⟨i + 1, cur, by omega, rfl, by go_num, by rw [HNo.out], HT.out.next, HR.out, HB.out⟩
                · have e32 := beq_no h32
                  have hne : i ≠ Wd.length := by
                    intro e
                    subst e
                    have h2 : 0 < Wn.length := by have := HWz.out; omega
                    have h3 := HNh.out h2
                    apply h32
                    rw [hc, List.getElem_append_right (Nat.le_refl _)]
                    simp only [Nat.sub_self]
                    rw [h3]
                    rfl
                  have hdw : decide (i ≤ Wd.length) = false := decide_eq_false (by omega)
                  rw [hdw]
                  clear hdw h32 hc hcg
                  go_wp2_with fail
                  go_roundg (wb.size - (i + 1))
                  case measure => omega
                  case rel => exact ⟨i + 1, cur, by omega, rfl, by go_num, by rw [HNo.out], HT.out.next, HR.out, HB.out⟩
            · obtain rfl : i = wb.size := by omega
              have hcl : cur.length = wb.size := by rw [HT.out.len, List.length_append]; exact HWz.out.symm
              have hcl2 : cur.length ≤ 100 := by omega
              have HStr := Lib.hid (run_string_of_row (P := Tryz.prog) (src := 42) (dst := 9) (cap := p1) Tryz.underlying42 Tryz.underlying5 Tryz.underlying9 HR.out hcl.symm)
              obtain ⟨fb, hfb⟩ : ∃ fb, fb = decide (wb.size ≤ Wd.length) := ⟨_, rfl⟩
              rw [← hfb]
              obtain ⟨w', hw'⟩ : ∃ w', w' = cur.take Wd.length := ⟨_, rfl⟩
              have hcur : cur = w' ++ Wn := by
                have h1 := HT.out.rest
                rw [List.drop_left] at h1
                rw [hw', ← h1, List.take_append_drop]
              have hfw : foldS w' = foldS (csW kk) := by rw [hw', ← HWd.out]; exact HT.out.fold
              have hwlen : w'.length ≤ 100 := by rw [hw', List.length_take]; omega
              have HC1 := Lib.hid (case_good hk5 l w' HL.out.1 HL.out.2 hfw)
              have HC2 := Lib.hid (case_good hk5 l (csW kk) HL.out.1 HL.out.2 rfl)
              have HC3 := Lib.hid (case_x hk5 l)
              have HC4 := Lib.hid (case_open hk5 l)
              have HC5 := Lib.hid (case_more (kk := kk) l)
              have hckk := cs_check hk5 l HL.out.1 HL.out.2
              rw [← HWn.out] at HC1 HC2 HC3 HC4 HC5
              rw [← HWd.out] at HC2 HC3 HC4 HC5
              have hSl : S.data.toList = 91 :: flatT l := HSt.out
              have hWl : wb.data.toList = Wd ++ Wn := HW2.out
              have hfl : (flatT l).length ≤ 20 := by rw [flatT_len]; have := HL.out.1; omega
              obtain ⟨T1, hT1⟩ : ∃ T : ByteArray, T = S ++ (⟨cur.toArray⟩ : ByteArray) ++ ⟨#[93]⟩ := ⟨_, rfl⟩
              have hlT1 : T1.data.toList = 91 :: (flatT l ++ (w' ++ (Wn ++ [93]))) := by rw [hT1]; simp [ByteArray.data_append, hSl, hcur]
              have hzT1 : T1.size ≤ 1000 := by rw [← len_toList, hlT1]; simp; omega
              rw [← hlT1] at HC1
              have HT1 : Hid (S ++ (⟨cur.toArray⟩ : ByteArray) ++ ⟨#[93]⟩ = T1) := hT1.symm
              obtain ⟨T2, hT2⟩ : ∃ T : ByteArray, T = S ++ wb ++ ⟨#[93]⟩ := ⟨_, rfl⟩
              have hlT2 : T2.data.toList = 91 :: (flatT l ++ (Wd ++ (Wn ++ [93]))) := by rw [hT2]; simp [ByteArray.data_append, hSl, hWl]
              have hzT2 : T2.size ≤ 1000 := by rw [← len_toList, hlT2]; simp; omega
              rw [← hlT2] at HC2
              have HT2 : Hid (S ++ wb ++ ⟨#[93]⟩ = T2) := hT2.symm
              obtain ⟨T3, hT3⟩ : ∃ T : ByteArray, T = S ++ ⟨#[88]⟩ ++ wb ++ ⟨#[93]⟩ := ⟨_, rfl⟩
              have hlT3 : T3.data.toList = 91 :: (flatT l ++ (88 :: (Wd ++ (Wn ++ [93])))) := by rw [hT3]; simp [ByteArray.data_append, hSl, hWl]
              have hzT3 : T3.size ≤ 1000 := by rw [← len_toList, hlT3]; simp; omega
              rw [← hlT3] at HC3
              have HT3 : Hid (S ++ ⟨#[88]⟩ ++ wb ++ ⟨#[93]⟩ = T3) := hT3.symm
              obtain ⟨T4, hT4⟩ : ∃ T : ByteArray, T = S ++ wb := ⟨_, rfl⟩
              have hlT4 : T4.data.toList = 91 :: (flatT l ++ (Wd ++ Wn)) := by rw [hT4]; simp [ByteArray.data_append, hSl, hWl]
              have hzT4 : T4.size ≤ 1000 := by rw [← len_toList, hlT4]; simp; omega
              rw [← hlT4] at HC4
              have HT4 : Hid (S ++ wb = T4) := hT4.symm
              obtain ⟨T5, hT5⟩ : ∃ T : ByteArray, T = S ++ wb ++ ⟨#[93, 120]⟩ := ⟨_, rfl⟩
              have hlT5 : T5.data.toList = 91 :: (flatT l ++ (Wd ++ (Wn ++ [93, 120]))) := by rw [hT5]; simp [ByteArray.data_append, hSl, hWl]
              have hzT5 : T5.size ≤ 1000 := by rw [← len_toList, hlT5]; simp; omega
              rw [← hlT5] at HC5
              have HT5 : Hid (S ++ wb ++ ⟨#[93, 120]⟩ = T5) := hT5.symm
              clear hfb hw' hcur hfw hwlen hSl hWl hfl hT1 hT2 hT3 hT4 hT5 hlT1 hlT2 hlT3 hlT4 hlT5 hcl
              have HP := Lib.hid (fun (T : ByteArray) W (h : T.size ≤ 1000) hw => parse_any T W (by omega) hw)
              unfold ParseIs at HP
              have HEn : Hid (∀ W, Below w.heap.size w W → wrds W) := fun W hb => (HE.out.below hb).2
              obtain ⟨sp, hsp⟩ : ∃ sp, sp = caseS l (csK kk) (csM kk) := ⟨_, rfl⟩
              rw [← hsp] at HC1 HC2 hckk
              have hpl : sp.path.length = l.length := by rw [hsp]; simp [caseS]
              have HPl := Lib.hid hpl
              obtain ⟨_, hpl64, _, _, hnl100, _⟩ := checkS_parts hckk
              have HLs : Hid (sp.path.length ≤ 1000000000 ∧ sp.names.length ≤ 1000000000) := ⟨by omega, by omega⟩
              have bpl : ((sp.path.length : Int) == (l.length : Int)) = true := beq_yes (by omega)
              clear hsp hpl hckk hpl64 hnl100
              have hP1 := HP.out T1 wr hzT1 (HEn.out _ HB.out)
              rw [HC1.out] at hP1
              simp only at hP1
              have HP1 := Lib.hid hP1
              clear hP1
              have hst := HStr.out
              go_wp2_with fail
              rw [HT1.out]
              with_reducible refine HP1.out.mono ?_
              rintro e w2 ⟨v1, rfl, hv1, hn1, hb2⟩
              obtain ⟨a1, c1, a2, c2, rfl, hs1⟩ := hv1.parts hn1
              obtain ⟨W2, hW2⟩ : ∃ W2, W2 = w2.alloc (.cells #[.slice a1 sp.path.length c1, .int .i64 sp.what, .slice a2 sp.names.length c2, .bool sp.cut, .int .i64 sp.frm, .int .i64 sp.many] 26) := ⟨_, rfl⟩
              have hb22 : Below w2.heap.size w2 W2 := by rw [hW2]; exact (Below.refl _ _).alloc (Nat.le_refl _) _
              have HX2 : Hid (Box W2 w2.heap.size (.slice a1 sp.path.length c1) sp.what (.slice a2 sp.names.length c2) sp.cut sp.frm sp.many) := by rw [hW2]; exact heap_alloc_new w2 _
              have HB2 := Lib.hid (HB.out.trans ((hb2.trans (hb22.mono hb2.size)).mono HB.out.size))
              have HS1 := Lib.hid (hs1.below hb22)
              have HW2 := Lib.hid hW2.symm
              obtain ⟨X, hX⟩ : ∃ X, X = w2.heap.size := ⟨_, rfl⟩
              rw [← hX] at HX2
              have HXe := Lib.hid hX
              have hP2 := HP.out T2 W2 hzT2 (HEn.out _ HB2.out)
              rw [HC2.out] at hP2
              simp only at hP2
              have HP2 := Lib.hid hP2
              clear hb2 hb22 hs1 hv1 hn1 hW2 hX hP2 HP1 hst
              go_wp2_with fail
              rw [HT2.out, HW2.out, ← HXe.out]
              with_reducible refine HP2.out.mono ?_
              rintro e w3 ⟨v1, rfl, hv1, hn1, hb3⟩
              obtain ⟨b1, d1, b2, d2, rfl, hs2⟩ := hv1.parts hn1
              obtain ⟨W3, hW3⟩ : ∃ W3, W3 = w3.alloc (.cells #[.slice b1 sp.path.length d1, .int .i64 sp.what, .slice b2 sp.names.length d2, .bool sp.cut, .int .i64 sp.frm, .int .i64 sp.many] 26) := ⟨_, rfl⟩
              have hb33 : Below w3.heap.size w3 W3 := by rw [hW3]; exact (Below.refl _ _).alloc (Nat.le_refl _) _
              have HY3 : Hid (Box W3 w3.heap.size (.slice b1 sp.path.length d1) sp.what (.slice b2 sp.names.length d2) sp.cut sp.frm sp.many) := by rw [hW3]; exact heap_alloc_new w3 _
              have hb23 : Below W2.heap.size W2 W3 := hb3.trans (hb33.mono hb3.size)
              have HB3 := Lib.hid (HB2.out.trans (hb23.mono HB2.out.size))
              have HS2 := Lib.hid (hs2.below hb33)
              have HS13 := Lib.hid (HS1.out.below hb23)
              have HX3 := Lib.hid (HX2.out.below hb23)
              have HW3 := Lib.hid hW3.symm
              obtain ⟨Y, hY⟩ : ∃ Y, Y = w3.heap.size := ⟨_, rfl⟩
              rw [← hY] at HY3
              have HYe := Lib.hid hY
              clear hb3 hb33 hb23 hs2 hv1 hn1 hW3 hY HP2 HB2 HS1 HX2
              have hPn := HP.out T3 W3 hzT3 (HEn.out _ HB3.out)
              rw [HC3.out] at hPn
              unfold zeroSp at hPn
              simp only at hPn
              have HPn := Lib.hid hPn
              clear hPn
              go_wp2_with fail
              rw [HT3.out, HW3.out, ← HYe.out]
              with_reducible refine HPn.out.mono ?_
              rintro e w4 ⟨rfl, hbn⟩
              obtain ⟨W4, hWn⟩ : ∃ W4, W4 = w4.alloc (.cells #[.slice none 0 0, .int .i64 0, .slice none 0 0, .bool false, .int .i64 0, .int .i64 0] 26) := ⟨_, rfl⟩
              have hbb : Below W3.heap.size W3 W4 := by rw [hWn]; exact hbn.alloc hbn.size _
              have HB4 := Lib.hid (HB3.out.trans (hbb.mono HB3.out.size))
              have HX4 := Lib.hid (HX3.out.below hbb)
              have HY4 := Lib.hid (HY3.out.below hbb)
              have HSa4 := Lib.hid (HS13.out.below hbb)
              have HSb4 := Lib.hid (HS2.out.below hbb)
              have HW4 := Lib.hid hWn.symm
              clear hbn hbb hWn HPn
              have hPn := HP.out T4 W4 hzT4 (HEn.out _ HB4.out)
              rw [HC4.out] at hPn
              unfold zeroSp at hPn
              simp only at hPn
              have HPn := Lib.hid hPn
              clear hPn
              go_wp2_with fail
              rw [HT4.out, HW4.out]
              with_reducible refine HPn.out.mono ?_
              rintro e w5 ⟨rfl, hbn⟩
              obtain ⟨W5, hWn⟩ : ∃ W5, W5 = w5.alloc (.cells #[.slice none 0 0, .int .i64 0, .slice none 0 0, .bool false, .int .i64 0, .int .i64 0] 26) := ⟨_, rfl⟩
              have hbb : Below W4.heap.size W4 W5 := by rw [hWn]; exact hbn.alloc hbn.size _
              have HB5 := Lib.hid (HB4.out.trans (hbb.mono HB4.out.size))
              have HX5 := Lib.hid (HX4.out.below hbb)
              have HY5 := Lib.hid (HY4.out.below hbb)
              have HSa5 := Lib.hid (HSa4.out.below hbb)
              have HSb5 := Lib.hid (HSb4.out.below hbb)
              have HW5 := Lib.hid hWn.symm
              clear hbn hbb hWn HPn
              have hPn := HP.out T5 W5 hzT5 (HEn.out _ HB5.out)
              rw [HC5.out] at hPn
              unfold zeroSp at hPn
              simp only at hPn
              have HPn := Lib.hid hPn
              clear hPn
              go_wp2_with fail
              rw [HT5.out, HW5.out]
              with_reducible refine HPn.out.mono ?_
              rintro e w6 ⟨rfl, hbn⟩
              obtain ⟨W6, hWn⟩ : ∃ W6, W6 = w6.alloc (.cells #[.slice none 0 0, .int .i64 0, .slice none 0 0, .bool false, .int .i64 0, .int .i64 0] 26) := ⟨_, rfl⟩
              have hbb : Below W5.heap.size W5 W6 := by rw [hWn]; exact hbn.alloc hbn.size _
              have HB6 := Lib.hid (HB5.out.trans (hbb.mono HB5.out.size))
              have HX6 := Lib.hid (HX5.out.below hbb)
              have HY6 := Lib.hid (HY5.out.below hbb)
              have HSa6 := Lib.hid (HSa5.out.below hbb)
              have HSb6 := Lib.hid (HSb5.out.below hbb)
              have HW6 := Lib.hid hWn.symm
              clear hbn hbb hWn HPn
              obtain ⟨x0, x1, x2, x3, x4, x5⟩ := HX6.out.c
              obtain ⟨y0, y1, y2, y3, y4, y5⟩ := HY6.out.c
              have X0 := BW.cell x0
              have Y0 := BW.cell y0
              have X1 := BW.cell x1
              have Y1 := BW.cell y1
              have X2 := BW.cell x2
              have Y2 := BW.cell y2
              have X3 := BW.cell x3
              have Y3 := BW.cell y3
              have X4 := BW.cell x4
              have Y4 := BW.cell y4
              have X5 := BW.cell x5
              have Y5 := BW.cell y5
              have HF1 : Hid (∀ z : BW W6, _) := fun z => specOf_any sp a1 a2 c1 c2 z.v
              have HF2 : Hid (∀ z : BW W6, _) := fun z => specOf_any sp b1 b2 d1 d2 z.v
              have HF3 : Hid (∀ z : BW W6, _) := fun z => same_spec sp a1 a2 c1 c2 b1 b2 d1 d2 z.v (HSa6.out.below z.h) (HSb6.out.below z.h) HLs.out.1 HLs.out.2
              unfold spV at HF1 HF2 HF3
              go_upto_region 26 with fail
              rw [HW6.out]
              clear x0 x1 x2 x3 x4 x5 y0 y1 y2 y3 y4 y5
              refine wp_region_below (by kernel_rfl) (by kernel_rfl) ?_
              repeat (go_big_quiet_step (first | (go_at_call 11; first | (with_reducible exact BW.calls (HF1.out _)) | (with_reducible exact BW.calls (HF2.out _))) | (go_at_call 10; with_reducible exact BW.calls (HF3.out _))))
              refine wpQuiet_nil ?_
              rintro W7 ⟨⟨_, hb7⟩, rfl⟩
              have HB7 := Lib.hid (HB6.out.trans (hb7.mono HB6.out.size))
              go_wp2_with fail
              go_ret
              exact ⟨rfl, HB7.out⟩
end Go.Proofs.YthcleaflhljdlaaGreatDoor
