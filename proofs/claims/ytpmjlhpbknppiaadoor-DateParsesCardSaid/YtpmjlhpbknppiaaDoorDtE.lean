/- Contracts of package date: zones' names. -/
import Derived.Test.YtpmjlhpbknppiaaDoorDtD
namespace Go.Proofs.YtpmjlhpbknppiaaDoor
open Go Go.RowKit

theorem letter_any (c : UInt8) (w : World) :
    Calls Tryd.prog 53 #[.int .u8 (c.toNat : Int)] w fun e w' => e = .returned (.bool (letB' c)) ∧ w = w' := by
  have HL := Lib.hid (fun w => lowerB_any c w)
  obtain ⟨d, hd⟩ : ∃ d, d = (lowB c).toNat := ⟨_, rfl⟩
  have HR : Hid (letB' c = decide (97 ≤ d ∧ d ≤ 122)) := by rw [hd]; rfl
  rw [← hd] at HL
  clear hd
  by_cases h1 : 97 ≤ d
  · by_cases h2 : d ≤ 122
    · have e1 : decide ((97 : Int) ≤ (d : Int)) = true := decide_eq_true (by omega)
      have e2 : decide ((d : Int) ≤ 122) = true := decide_eq_true (by omega)
      go_enter Tryd.func53, Tryd.ntmps53
      go_wp2_with fail
      with_reducible refine (HL.out _).mono ?_
      rintro e w1 ⟨rfl, rfl⟩
      go_wp2_with fail
      go_ret
      exact ⟨ret_bool (by rw [HR.out]; symm; exact decide_eq_true ⟨h1, h2⟩), rfl⟩
    · have e1 : decide ((97 : Int) ≤ (d : Int)) = true := decide_eq_true (by omega)
      have e2 : decide ((d : Int) ≤ 122) = false := decide_eq_false (by omega)
      go_enter Tryd.func53, Tryd.ntmps53
      go_wp2_with fail
      with_reducible refine (HL.out _).mono ?_
      rintro e w1 ⟨rfl, rfl⟩
      go_wp2_with fail
      go_ret
      exact ⟨ret_bool (by rw [HR.out]; symm; exact decide_eq_false (fun h => h2 h.2)), rfl⟩
  · have e1 : decide ((97 : Int) ≤ (d : Int)) = false := decide_eq_false (by omega)
    go_enter Tryd.func53, Tryd.ntmps53
    go_wp2_with fail
    with_reducible refine (HL.out _).mono ?_
    rintro e w1 ⟨rfl, rfl⟩
    go_wp2_with fail
    go_ret
    exact ⟨ret_bool (by rw [HR.out]; symm; exact decide_eq_false (fun h => h1 h.1)), rfl⟩

def zonA : Array Value := (zonesL.flatMap fun m => [.string ⟨m.1.toArray⟩, .int .i64 m.2]).toArray
def zonNm (i : Nat) : ByteArray := ⟨((zonesL.getD i ([], 0)).1).toArray⟩
def zonH (i : Nat) : Int := (zonesL.getD i ([], 0)).2
/-- The zones' variable. -/
def zons (w : World) : Prop := ∃ t fr, w.heap[1]? = some (.cells zonA t fr)
theorem zons.lt {w : World} (h : zons w) : 1 < w.heap.size := by
  obtain ⟨t, fr, h⟩ := h
  exact (Array.getElem?_eq_some_iff.1 h).1
theorem zons.lat {τ : Tg} {w w' : World} (h : zons w) (hl : Lt τ w w') (ho : Off τ 1) : zons w' := by
  have hlt := h.lt
  obtain ⟨t, fr, h⟩ := h
  exact ⟨t, fr, (hl.kept _ hlt ho).trans h⟩
theorem zons.below {w w' : World} (h : zons w) (hb : Below w.heap.size w w') : zons w' := by
  have hlt := h.lt
  obtain ⟨t, fr, h⟩ := h
  exact ⟨t, fr, (hb.block _ hlt).trans h⟩
set_option maxRecDepth 100000 in
theorem index_zones (i : Nat) (h : i < 8) (W : World) : (Instr.index 75 (.agg zonA) (.int .i64 (i : Int))).run Tryd.prog W = .ok (.agg #[.string (zonNm i), .int .i64 (zonH i)]) W := by
  rcases (by omega : i = 0 ∨ i = 1 ∨ i = 2 ∨ i = 3 ∨ i = 4 ∨ i = 5 ∨ i = 6 ∨ i = 7) with rfl | rfl | rfl | rfl | rfl | rfl | rfl | rfl <;> clear h <;> kernel_rfl
theorem zonH_le (i : Nat) (h : i < 8) : -8 ≤ zonH i ∧ zonH i ≤ 0 := by
  rcases (by omega : i = 0 ∨ i = 1 ∨ i = 2 ∨ i = 3 ∨ i = 4 ∨ i = 5 ∨ i = 6 ∨ i = 7) with rfl | rfl | rfl | rfl | rfl | rfl | rfl | rfl <;> decide
theorem zonN_at (i : Nat) (h : i < zonesL.length) : (zonNm i).data.toList = zonesL[i].1 := by
  unfold zonNm
  rw [List.getD_eq_getElem?_getD, List.getElem?_eq_getElem h]
  rfl
theorem zonH_at (i : Nat) (h : i < zonesL.length) : zonH i = zonesL[i].2 := by
  unfold zonH
  rw [List.getD_eq_getElem?_getD, List.getElem?_eq_getElem h]
  rfl
def zoneS (a : Nat × Nat) (σ : Sg) (nm : List UInt8) (n : Nat) : Sg := match zonN nm n with
  | some h => upd σ a (h * 60)
  | none => σ
def zoneF (a : Nat × Nat) : Pf := fun σ l => (if 0 < (l.takeWhile letB').length then some (l.drop (l.takeWhile letB').length) else none, zoneS a σ (l.takeWhile letB') 8)
theorem upd_upd (σ : Sg) (a : Nat × Nat) (x y : Int) : upd (upd σ a x) a y = upd σ a y := by
  funext b
  unfold upd
  split <;> rfl
theorem zoneS_hit (a : Nat × Nat) (σ : Sg) (nm : List UInt8) (i : Nat) (h : i < zonesL.length) (he : foldS nm = foldS zonesL[i].1) : zoneS a σ nm (i + 1) = upd (zoneS a σ nm i) a (zonH i * 60) := by
  have h1 : zonN nm (i + 1) = some (zonH i) := by
    rw [zonN, List.getElem?_eq_getElem h]
    simp only [if_pos he, zonH_at i h]
  unfold zoneS
  rw [h1]
  cases zonN nm i with
  | none => rfl
  | some y => exact (upd_upd _ _ _ _).symm
theorem zoneS_not (a : Nat × Nat) (σ : Sg) (nm : List UInt8) (i : Nat) (h : i < zonesL.length) (he : ¬ foldS nm = foldS zonesL[i].1) : zoneS a σ nm (i + 1) = zoneS a σ nm i := by
  have h1 : zonN nm (i + 1) = zonN nm i := by
    rw [zonN, List.getElem?_eq_getElem h]
    simp only [if_neg he]
  unfold zoneS
  rw [h1]
theorem takeWhile_of {p : UInt8 → Bool} : ∀ (l : List UInt8) (k : Nat), (l.take k).all p = true → (∀ c, l[k]? = some c → p c = false) → k ≤ l.length → l.takeWhile p = l.take k
  | [], k, _, _, _ => by simp
  | c :: l, 0, _, h2, _ => by simp [h2 c (by simp)]
  | c :: l, k + 1, h1, h2, h3 => by
    simp only [List.take_succ_cons, List.all_cons, Bool.and_eq_true] at h1
    rw [List.takeWhile_cons, if_pos h1.1, List.take_succ_cons, takeWhile_of l k h1.2 (by simpa using h2) (by simpa using h3)]

set_option maxRecDepth 100000 in
set_option maxHeartbeats 2000000 in
theorem zoneName1_any (τ : Tg) (a : Nat × Nat) (ha : a ∈ τ) (B : Nat) (w : World) (hO : Off τ B) (h1 : w.cell? ⟨B, 0, none⟩ = some (.pointer (some ⟨a.1, a.2, none⟩))) (hm : zons w) (σ : Sg) (s : ByteArray) (hh : Holds τ w σ) (hs : s.size ≤ 9223372036854775807) :
    Calls Tryd.prog 52 #[.string s, .pointer (some ⟨B, 0, none⟩)] w fun e w' => Told (zoneF a σ s.data.toList).1 s.size e ∧ Lt τ w w' ∧ Holds τ w' (zoneF a σ s.data.toList).2 := by
  have hB : B < w.heap.size := World.block_lt_of_cell? _ _ h1
  have hal := hh.lt ha
  have HH := Lib.hid hh
  have HA := Lib.hid ha
  have HP := Lib.hid h1
  have HO := Lib.hid hO
  have Hlen := Lib.hid (len_toList s)
  have HI := Lib.hid index_zones
  have HLt := Lib.hid letter_any
  have hgl := hm.lt
  obtain ⟨t, fr, hg⟩ := hm
  have HG := Lib.hid hg
  obtain ⟨ab, ao⟩ := a
  simp only at hal
  clear hh ha h1 hg hO
  go_enter Tryd.func52, Tryd.ntmps52
  go_wp2_with fail
  go_loopg [5] s.size (fun q xi wr => ∃ k : Nat, k ≤ s.size ∧ q = s.size - k ∧ xi = .int .i64 (k : Int) ∧ w = wr ∧ Hid ((s.data.toList.take k).all letB' = true))
  case atStart => exact ⟨0, by omega, by omega, rfl, rfl, rfl⟩
  case round =>
    obtain ⟨k, hk, rfl, rfl, rfl, HE⟩ := hrel
    by_cases hgo : ∃ h : k < s.size, letB' s[k] = true
    · obtain ⟨hlt, hle⟩ := hgo
      have HLk := Lib.hid (fun w => HLt.out s[k] w)
      rw [hle] at HLk
      have HE2 : Hid ((s.data.toList.take (k + 1)).all letB' = true) := by
        unfold Hid
        rw [take_snoc s k hlt, List.all_append, HE.out]
        simp [hle]
      clear hle
      go_wp2_with fail
      with_reducible refine (HLk.out _).mono ?_
      rintro e w1 ⟨rfl, rfl⟩
      go_wp2_with fail
      go_roundg (s.size - (k + 1))
      case measure => omega
      case rel => exact ⟨k + 1, by omega, rfl, by first | rfl | (congr 1), rfl, HE2.out⟩
    · have HN : Hid (s.data.toList.takeWhile letB' = s.data.toList.take k) := takeWhile_of _ _ HE.out (fun c hc => by
        have hlt : k < s.size := by
          have := (List.getElem?_eq_some_iff.1 hc).1
          rw [Hlen.out] at this
          exact this
        rw [bytes_get s k hlt] at hc
        cases hc
        cases hb : letB' s[k] with
        | false => rfl
        | true => exact absurd ⟨hlt, hb⟩ hgo) (by rw [Hlen.out]; exact hk)
      by_cases hlt : k < s.size
      case' pos =>
        have hb : letB' s[k] = false := by
          cases hb : letB' s[k] with
          | false => rfl
          | true => exact absurd ⟨hlt, hb⟩ hgo
        have HLk := Lib.hid (fun w => HLt.out s[k] w)
        rw [hb] at HLk
        clear hb
      case' neg =>
        have HLk := Lib.hid (fun w => HLt.out 0 w)
      all_goals
        have hT : (s.extract 0 k).data.toList = s.data.toList.take k := by rw [extract_toList]; simp
        have hTs : (s.extract 0 k).size = k := extract_size' s 0 k hk
        have HT := Lib.hid hT
        have HR : Hid (zoneF (ab, ao) σ s.data.toList = (if 0 < k then some (s.data.toList.drop k) else none, zoneS (ab, ao) σ (s.data.toList.take k) 8)) := by
          unfold Hid zoneF
          rw [HN.out, show (s.data.toList.take k).length = k by rw [List.length_take, Hlen.out]; omega]
        clear hgo hT hTs
        go_wp2_with (first | (with_reducible refine (HLk.out _).mono ?_; rintro e w1 ⟨rfl, rfl⟩) | (refine wpList_load_row rfl 75 (.global 1) rfl 1 rfl t zonA fr (.array 8 74) HG.out Tryd.underlying75 rfl (by kernel_rfl) ?_))
        go_loopg [21] 8 (fun q xi wr => ∃ i : Nat, i ≤ 8 ∧ q = 8 - i ∧ xi = .int .i64 (i : Int) ∧ Hid (Holds τ wr (zoneS (ab, ao) σ (s.data.toList.take k) i)) ∧ Hid (Lt τ w wr))
        case atStart => exact ⟨0, by omega, by omega, rfl, HH.out, Lt.refl _ _⟩
        case round =>
          obtain ⟨i, hi, rfl, rfl, HHr, HB⟩ := hrel
          by_cases hli : i < 8
          · have hix := HI.out i hli
            have hat := zonN_at i hli
            obtain ⟨nm, hnm⟩ : ∃ nm, nm = zonNm i := ⟨_, rfl⟩
            have hzl := zonH_le i hli
            obtain ⟨d, hd⟩ : ∃ d : Int, d = zonH i := ⟨_, rfl⟩
            rw [← hnm] at hix hat
            rw [← hd] at hix hzl
            have HD := Lib.hid hd
            obtain ⟨W2, hW2⟩ : ∃ W2, W2 = wr.alloc (.cells #[.string nm, .int .i64 d] 74) := ⟨_, rfl⟩
            have HB2 : Hid (Below wr.heap.size wr W2) := by rw [hW2]; exact (Below.refl _ _).alloc (Nat.le_refl _) _
            have hcn : ∀ n, (W2.drewN n).cell? ⟨wr.heap.size, 0, none⟩ = some (.string nm) := fun n => by rw [hW2]; exact (cells_two_new wr 74 (.string nm) (.int .i64 d) 0 _ rfl)
            have hcn0 : W2.cell? ⟨wr.heap.size, 0, none⟩ = some (.string nm) := hcn 0
            have hcd : ∀ n, (W2.drewN n).cell? ⟨wr.heap.size, 1, none⟩ = some (.int .i64 d) := fun n => by rw [hW2]; exact (cells_two_new wr 74 (.string nm) (.int .i64 d) 1 _ rfl)
            have hwl : wr.heap.size < W2.heap.size := by rw [hW2]; simp
            have hwm : w.heap.size ≤ wr.heap.size := HB.out.size
            have HS := Lib.hid (fun W => same_any (s.extract 0 k) nm W (by rw [extract_len]; omega))
            rw [HT.out, hat] at HS
            by_cases he : foldS (s.data.toList.take k) = foldS (zonesL[i]'hli).1
            · have HHit := Lib.hid (zoneS_hit (ab, ao) σ _ i hli he)
              rw [decide_eq_true he] at HS
              clear he hnm hd hat
              go_wp2_with fail
              rw [← hW2]
              clear hW2
              go_quiet ((go_at_call 46; exact Calls.quiet_of (HS.out _)))
              obtain ⟨W3, hW3⟩ : ∃ W3, W3 = W2.drewN nq := ⟨_, rfl⟩
              have hcd3 : W3.cell? ⟨wr.heap.size, 1, none⟩ = some (.int .i64 d) := by rw [hW3]; exact hcd nq
              have HB3 : Hid (Below wr.heap.size wr W3) := by rw [hW3]; exact HB2.out.trans ((below_drewN' nq).mono HB2.out.size)
              rw [← hW3]
              have hwl3 : wr.heap.size < W3.heap.size := by rw [hW3]; exact hwl
              clear hcn hcn0 hW3 hcd hwl
              have HH3 := Lib.hid (HHr.out.below HB3.out)
              have ha3 := (HH3.out (ab, ao) HA.out).1
              have hf3 := (HH3.out (ab, ao) HA.out).2
              simp only at ha3 hf3
              have hp3 : W3.cell? ⟨B, 0, none⟩ = some (.pointer (some ⟨ab, ao, none⟩)) := (HB3.out.cell (p := ⟨B, 0, none⟩) (Nat.lt_of_lt_of_le hB hwm)).trans ((HB.out.cell hB HO.out).trans HP.out)
              go_wp2_with fail
              go_roundg (8 - (i + 1))
              case measure => omega
              case rel =>
                refine ⟨i + 1, by omega, rfl, by first | rfl | (congr 1), ?_, (HB.out.trans (Lt.of_below HB3.out)).trans (Lt.set (a := (ab, ao)) HA.out _)⟩
                unfold Hid
                rw [HHit.out, ← HD.out]
                exact HH3.out.set HA.out _
            · have HStep := Lib.hid (zoneS_not (ab, ao) σ _ i hli he)
              rw [decide_eq_false he] at HS
              clear he hnm hd hat
              go_wp2_with fail
              rw [← hW2]
              clear hW2
              go_quiet ((go_at_call 46; exact Calls.quiet_of (HS.out _)))
              obtain ⟨W3, hW3⟩ : ∃ W3, W3 = W2.drewN nq := ⟨_, rfl⟩
              have HB3 : Hid (Below wr.heap.size wr W3) := by rw [hW3]; exact HB2.out.trans ((below_drewN' nq).mono HB2.out.size)
              rw [← hW3]
              clear hcn hcn0 hW3 hcd
              go_wp2_with fail
              go_roundg (8 - (i + 1))
              case measure => omega
              case rel =>
                refine ⟨i + 1, by omega, rfl, by first | rfl | (congr 1), ?_, HB.out.trans (Lt.of_below HB3.out)⟩
                unfold Hid
                rw [HStep.out]
                exact HHr.out.below HB3.out
          · obtain rfl : i = 8 := by omega
            have hkd : decide ((0 : Int) < (k : Int)) = decide (0 < k) := by simp
            go_wp2_with fail
            go_ret2
            rw [HR.out]
            refine ⟨⟨s.extract k s.size, ?_, ?_, ?_⟩, HB.out, HHr.out⟩
            · by_cases h0 : 0 < k
              · simp [h0]
              · simp [h0]
            · intro l hl
              split at hl
              · cases hl
                rw [extract_toList, List.take_of_length_le (by rw [List.length_drop, Hlen.out]; omega)]
              · cases hl
            · rw [extract_len]
              omega
set_option maxRecDepth 100000 in
theorem zoneName_mk (τ : Tg) (b i : Nat) (ha : (b, i) ∈ τ) (w : World) (hl : Low τ w.heap.size) (hg : Off τ 1) (hm : zons w) :
    Calls Tryd.prog 24 #[.pointer (some ⟨b, i, none⟩)] w (MakesP τ w (zoneF (b, i))) := by
  unfold MakesP
  have HM := Lib.hid hm
  clear hm
  go_enter Tryd.func24, Tryd.ntmps24
  go_wp2
  go_ret
  refine ⟨_, _, rfl, ⟨52, #[.pointer (some ⟨w.heap.size, 0, none⟩)], rfl, enters_of Tryd.func52 (by kernel_rfl) rfl, ?_⟩, (Below.refl _ _).alloc (Nat.le_refl _) _⟩
  intro W σ s hL hH hs
  have ho : Off τ w.heap.size := hl.off (Nat.le_refl _)
  exact zoneName1_any τ (b, i) ha _ W ho ((hL.cell (by simp) ho).trans (cell_new1 w _ _)) (HM.out.lat ((Lt.alloc w _).trans hL) hg) σ s hH hs
end Go.Proofs.YtpmjlhpbknppiaaDoor
