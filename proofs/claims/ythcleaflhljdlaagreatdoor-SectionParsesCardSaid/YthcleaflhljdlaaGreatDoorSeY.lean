/- Contracts of the document's layer 15: Check. -/
import Derived.Test.YthcleaflhljdlaaGreatDoorSeV
import Derived.Deep.DeepCutAuto
import Derived.Deep.CutBlock
namespace Go.Proofs.YthcleaflhljdlaaGreatDoor
open Go Go.RowKit

/-- The document's first test. -/
def listedS (s : Spc) : Bool := decide (s.what = 2) || decide (s.what = 3)
def formOk (s : Spc) : Bool :=
  decide (0 ≤ s.what) && (decide (s.what ≤ 5) && (decide (s.path.length ≤ 64) && (!(decide (s.what = 5) && s.path.isEmpty) &&
    (if listedS s = true then decide (1 ≤ s.names.length) && decide (s.names.length ≤ 100) else s.names.isEmpty))))
theorem check_split (s : Spc) : checkS s = (formOk s && (s.path.all (numOk 1) && (s.names.all nameOk && cutOk s))) := by
  obtain ⟨p, q, ns, c, x, y⟩ := s
  unfold checkS pathOk formOk listedS
  simp only
  by_cases h0 : q = 0 ∨ q = 1 ∨ q = 4
  · rw [whatOk_024 _ h0]
    simp only
    have e1 : decide (q = 2) = false := decide_eq_false (by omega)
    have e2 : decide (q = 3) = false := decide_eq_false (by omega)
    have e3 : decide (q = 5) = false := decide_eq_false (by omega)
    have e4 : decide (0 ≤ q) = true := decide_eq_true (by omega)
    have e5 : decide (q ≤ 5) = true := decide_eq_true (by omega)
    rw [e1, e2, e3, e4, e5]
    cases ns with
    | nil => cases decide (p.length ≤ 64) <;> simp
    | cons a b => simp
  · by_cases h1 : q = 2 ∨ q = 3
    · rw [whatOk_23 _ h1]
      have e1 : (decide (q = 2) || decide (q = 3)) = true := by simpa using h1
      have e3 : decide (q = 5) = false := decide_eq_false (by omega)
      have e4 : decide (0 ≤ q) = true := decide_eq_true (by omega)
      have e5 : decide (q ≤ 5) = true := decide_eq_true (by omega)
      rw [e1, e3, e4, e5]
      unfold namesOk
      simp only [if_true]
      cases decide (p.length ≤ 64) <;> cases p.all (numOk 1) <;> cases decide (1 ≤ ns.length) <;> cases decide (ns.length ≤ 100) <;> cases ns.all nameOk <;> simp
    · by_cases h2 : q = 5
      · rw [whatOk_5 _ h2]
        subst h2
        cases ns with
        | nil => cases decide (p.length ≤ 64) <;> cases p.isEmpty <;> simp
        | cons a b => simp
      · rw [whatOk_no _ (by simp only; omega)]
        have e : (decide (0 ≤ q) && decide (q ≤ 5)) = false := by
          by_cases h : 0 ≤ q
          · rw [decide_eq_false (p := q ≤ 5) (by omega)]
            simp
          · rw [decide_eq_false h]
            rfl
        rw [← Bool.and_assoc (decide (0 ≤ q)), e]
        simp
theorem numOk_iff' (l n : Int) : numOk l n = true ↔ l ≤ n ∧ n ≤ 4294967295 := by simp [numOk]
def boxR (p : List Int) (q : Int) (ns : List (List UInt8)) (c : Bool) (x y : Int) (a1 a2 : Option Addr) (c1 c2 : Nat) : Obj :=
  .cells #[.slice a1 p.length c1, .int .i64 q, .slice a2 ns.length c2, .bool c, .int .i64 x, .int .i64 y] 30
set_option maxRecDepth 100000 in
set_option maxHeartbeats 8000000 in
theorem refCheck_any (s : Spc) (a1 a2 : Option Addr) (c1 c2 : Nat) (w : World) (h : SpA w s a1 a2 c1 c2) (hpl : s.path.length ≤ 1000000000) (hnl : s.names.length ≤ 1000000000) :
    Calls Tryz.prog 13 #[spV s a1 a2 c1 c2] w fun e w' => e = .returned (errS (checkS s)) ∧ Below w.heap.size w w' := by
  have HCk := Lib.hid (check_split s)
  obtain ⟨ck, hck⟩ : ∃ ck, ck = checkS s := ⟨_, rfl⟩
  rw [← hck] at HCk ⊢
  clear hck
  obtain ⟨fk, hfk⟩ : ∃ fk, fk = formOk s := ⟨_, rfl⟩
  obtain ⟨ek, hek⟩ : ∃ ek, ek = cutOk s := ⟨_, rfl⟩
  rw [← hfk, ← hek] at HCk
  have HF := Lib.hid hfk
  have HK := Lib.hid hek
  clear hfk hek
  obtain ⟨p, q, ns, c, x, y⟩ := s
  unfold spV
  unfold formOk listedS at HF
  unfold cutOk at HK
  simp only at hpl hnl HCk HF HK ⊢
  have HB0 : Hid (Below w.heap.size w (w.alloc (boxR p q ns c x y a1 a2 c1 c2))) := (Below.refl _ _).alloc (Nat.le_refl _) _
  have hbx : BoxR (w.alloc (boxR p q ns c x y a1 a2 c1 c2)) w.heap.size (.slice a1 p.length c1) q (.slice a2 ns.length c2) c x y := heap_alloc_new w _
  have HP := Lib.hid (h.below HB0.out).rp
  have HN := Lib.hid (h.below HB0.out).rn
  have HL := Lib.hid h.hn
  unfold boxR at HB0 hbx HP HN
  simp only at HP HN HL
  obtain ⟨W1, hW1⟩ : ∃ W1, W1 = w.alloc (.cells #[.slice a1 p.length c1, .int .i64 q, .slice a2 ns.length c2, .bool c, .int .i64 x, .int .i64 y] 30) := ⟨_, rfl⟩
  rw [← hW1] at HB0 hbx HP HN
  have HW1 := Lib.hid hW1.symm
  obtain ⟨R, hR⟩ : ∃ R, R = w.heap.size := ⟨_, rfl⟩
  rw [← hR] at hbx
  have HR := Lib.hid hR
  obtain ⟨k0, k1, k2, k3, k4, k5⟩ := hbx.c
  clear h hbx hW1 hR
  go_enter Tryz.func13, Tryz.ntmps13
  go_upto_region 1 with fail
  rw [HW1.out, ← HR.out]
  go_cut [3] (fun v3 wx => v3 = .bool (decide (q = 2) || decide (q = 3)) ∧ W1 = wx)
  case first =>
    by_cases h2 : q = 2
    · subst h2
      go_wp2_with fail
      go_meet
      exact ⟨rfl, rfl⟩
    · by_cases h3 : q = 3
      · subst h3
        go_wp2_with fail
        go_meet
        exact ⟨rfl, rfl⟩
      · have b2 := beq_no h2
        have b3 := beq_no h3
        have HE : Hid ((decide (q = 2) || decide (q = 3)) = false) := by unfold Hid; rw [decide_eq_false h2, decide_eq_false h3]; rfl
        clear h2 h3
        go_wp2_with fail
        go_meet
        exact ⟨by rw [HE.out], rfl⟩
  case rest =>
    obtain ⟨rfl, rfl⟩ := hcut
    obtain ⟨ls, hls⟩ : ∃ ls, ls = (decide (q = 2) || decide (q = 3)) := ⟨_, rfl⟩
    rw [← hls] at HF ⊢
    have HLs := Lib.hid hls
    clear hls
    go_upto_region 2 with fail
    go_cut [64] (fun v64 wx => v64 = .bool (!fk) ∧ W1 = wx)
    case first =>
      have HPe : Hid (((p.length : Int) == 0) = p.isEmpty) := len_zeroB p
      have HNe : Hid (decide (0 < (ns.length : Int)) = !ns.isEmpty) := by
        cases ns with
        | nil => rfl
        | cons a b => exact decide_eq_true (by simp)
      by_cases h0 : q < 0
      · have HE : Hid (fk = false) := by unfold Hid; rw [HF.out, decide_eq_false (by omega)]; rfl
        go_wp2_with fail
        go_meet
        exact ⟨by rw [HE.out]; rfl, rfl⟩
      · by_cases h5 : 5 < q
        · have HE : Hid (fk = false) := by unfold Hid; rw [HF.out, decide_eq_false (p := q ≤ 5) (by omega)]; simp
          go_wp2_with fail
          go_meet
          exact ⟨by rw [HE.out]; rfl, rfl⟩
        · by_cases h64 : 64 < (p.length : Int)
          · have HE : Hid (fk = false) := by unfold Hid; rw [HF.out, decide_eq_false (p := p.length ≤ 64) (by omega)]; simp
            go_wp2_with fail
            go_meet
            exact ⟨by rw [HE.out]; rfl, rfl⟩
          · have HF2 : Hid (fk = (!(decide (q = 5) && p.isEmpty) && (if ls = true then decide (1 ≤ ns.length) && decide (ns.length ≤ 100) else ns.isEmpty))) := by
              unfold Hid
              rw [HF.out, decide_eq_true (by omega), decide_eq_true (p := q ≤ 5) (by omega), decide_eq_true (p := p.length ≤ 64) (by omega)]
              rfl
            by_cases hq5 : q = 5
            · subst hq5
              obtain rfl : ls = false := by rw [HLs.out]; rfl
              by_cases hp0 : p.length = 0
              · have bp : ((p.length : Int) == 0) = true := beq_yes (by omega)
                have HE : Hid (fk = false) := by unfold Hid; rw [HF2.out, ← HPe.out, bp]; rfl
                clear hp0
                go_wp2_with fail
                go_meet
                exact ⟨by rw [HE.out]; rfl, rfl⟩
              · have bp : ((p.length : Int) == 0) = false := beq_no (by omega)
                have HE : Hid (fk = ns.isEmpty) := by unfold Hid; rw [HF2.out, ← HPe.out, bp]; simp
                clear hp0
                by_cases hn : 0 < ns.length
                · have hnd : decide (0 < ns.length) = true := decide_eq_true hn
                  have HE2 : Hid (fk = false) := by
                    unfold Hid; rw [HE.out]
                    have := HNe.out
                    rw [decide_eq_true (by omega)] at this
                    cases he : ns.isEmpty with
                    | false => rfl
                    | true => rw [he] at this; cases this
                  go_wp2_with fail
                  go_meet
                  exact ⟨by rw [HE2.out]; rfl, rfl⟩
                · have hnd : decide (0 < ns.length) = false := decide_eq_false hn
                  have HE2 : Hid (fk = true) := by
                    unfold Hid; rw [HE.out]
                    have := HNe.out
                    rw [decide_eq_false (by omega)] at this
                    cases he : ns.isEmpty with
                    | true => rfl
                    | false => rw [he] at this; cases this
                  go_wp2_with fail
                  go_meet
                  exact ⟨by rw [HE2.out]; rfl, rfl⟩
            · have b5 := beq_no hq5
              have HF3 : Hid (fk = (if ls = true then decide (1 ≤ ns.length) && decide (ns.length ≤ 100) else ns.isEmpty)) := by
                unfold Hid
                rw [HF2.out, decide_eq_false hq5]
                simp
              clear hq5
              cases ls with
              | true =>
                by_cases h1 : (ns.length : Int) < 1
                · have HE : Hid (fk = false) := by unfold Hid; rw [HF3.out, if_pos rfl, decide_eq_false (by omega)]; rfl
                  go_wp2_with fail
                  go_meet
                  exact ⟨by rw [HE.out]; rfl, rfl⟩
                · by_cases h100 : 100 < (ns.length : Int)
                  · have HE : Hid (fk = false) := by unfold Hid; rw [HF3.out, if_pos rfl, decide_eq_false (p := ns.length ≤ 100) (by omega)]; simp
                    go_wp2_with fail
                    go_meet
                    exact ⟨by rw [HE.out]; rfl, rfl⟩
                  · have HE : Hid (fk = true) := by unfold Hid; rw [HF3.out, if_pos rfl, decide_eq_true (by omega), decide_eq_true (by omega)]; rfl
                    go_wp2_with fail
                    go_meet
                    exact ⟨by rw [HE.out]; rfl, rfl⟩
              | false =>
                have HE : Hid (fk = ns.isEmpty) := by unfold Hid; rw [HF3.out]; rfl
                by_cases hn : 0 < ns.length
                · have hnd : decide (0 < ns.length) = true := decide_eq_true hn
                  have HE2 : Hid (fk = false) := by
                    unfold Hid; rw [HE.out]
                    have := HNe.out
                    rw [decide_eq_true (by omega)] at this
                    cases he : ns.isEmpty with
                    | false => rfl
                    | true => rw [he] at this; cases this
                  go_wp2_with fail
                  go_meet
                  exact ⟨by rw [HE2.out]; rfl, rfl⟩
                · have hnd : decide (0 < ns.length) = false := decide_eq_false hn
                  have HE2 : Hid (fk = true) := by
                    unfold Hid; rw [HE.out]
                    have := HNe.out
                    rw [decide_eq_false (by omega)] at this
                    cases he : ns.isEmpty with
                    | true => rfl
                    | false => rw [he] at this; cases this
                  go_wp2_with fail
                  go_meet
                  exact ⟨by rw [HE2.out]; rfl, rfl⟩
    case rest =>
      obtain ⟨rfl, rfl⟩ := hcut
      cases fk with
      | false =>
        go_wp2_with fail
        go_ret
        rw [HCk.out]
        exact ⟨rfl, HB0.out⟩
      | true =>
        clear HF HLs
        have HCk2 : Hid (ck = (p.all (numOk 1) && (ns.all nameOk && ek))) := HCk.out
        clear HCk
        go_wp2_with fail
        go_loopg [4] p.length (fun qq xi wr => ∃ i : Nat, i ≤ p.length ∧ qq = p.length - i ∧ xi = .int .i64 (i : Int) ∧ Hid ((p.take i).all (numOk 1) = true) ∧ W1 = wr)
        case atStart => exact ⟨0, by omega, by omega, rfl, rfl, rfl⟩
        case round =>
          obtain ⟨i, hi, rfl, rfl, HS, rfl⟩ := hrel
          by_cases hlt : i < p.length
          · obtain ⟨b, off, rfl, hb, hc⟩ := HP.out.at i (by simpa using hlt)
            obtain ⟨u, hu⟩ : ∃ u, u = p[i] := ⟨_, rfl⟩
            have hc' : W1.cell? ⟨b, off + i, none⟩ = some (.int .i64 u) := by rw [hc, hu]; simp [intV]
            have HU := Lib.hid hu
            clear hc hu
            by_cases h1 : u < 1
            · have HE : Hid (ck = false) := by
                unfold Hid
                rw [HCk2.out, all_no hlt (by rw [← HU.out]; unfold numOk; rw [decide_eq_false (by omega)]; rfl)]
                rfl
              go_wp2_with fail
              go_ret
              rw [HE.out]
              exact ⟨rfl, HB0.out⟩
            · by_cases h2 : 4294967295 < u
              · have HE : Hid (ck = false) := by
                  unfold Hid
                  rw [HCk2.out, all_no hlt (by rw [← HU.out]; unfold numOk; rw [decide_eq_false (p := u ≤ 4294967295) (by omega)]; simp)]
                  rfl
                go_wp2_with fail
                go_ret
                rw [HE.out]
                exact ⟨rfl, HB0.out⟩
              · go_wp2_with fail
                go_roundg (p.length - (i + 1))
                case measure => omega
                case rel => exact ⟨i + 1, by omega, rfl, by go_num, all_step hlt HS.out (by rw [← HU.out]; exact (numOk_iff' 1 u).2 ⟨by omega, by omega⟩), rfl⟩
          · have HCk3 : Hid (ck = (ns.all nameOk && ek)) := by
              unfold Hid
              rw [HCk2.out, all_end hlt HS.out]
              rfl
            clear HCk2
            go_wp2_with fail
            go_loopg [5, 6] ns.length (fun qq xi v6 wr => ∃ i : Nat, i ≤ ns.length ∧ qq = ns.length - i ∧ xi = .int .i64 (i : Int) ∧ Hid ((ns.take i).all nameOk = true) ∧ W1 = wr)
            case atStart => exact ⟨0, by omega, by omega, rfl, rfl, rfl⟩
            case round =>
              obtain ⟨i, hi, rfl, rfl, HS, rfl⟩ := hrel
              by_cases hlt : i < ns.length
              · obtain ⟨b, off, rfl, hb, hc⟩ := HN.out.at i (by simpa using hlt)
                obtain ⟨T, hT⟩ : ∃ T : ByteArray, T = ⟨ns[i].toArray⟩ := ⟨_, rfl⟩
                have hc' : W1.cell? ⟨b, off + i, none⟩ = some (.string T) := by rw [hc, hT]; simp [strV]
                have hTl : T.data.toList = ns[i] := by rw [hT]
                have hTs : T.size ≤ 1000000000 := by
                  have := HL.out _ (List.getElem_mem hlt)
                  rw [← len_toList, hTl]
                  exact this
                have HTl := Lib.hid hTl
                have hd : (i : Int) < (ns.length : Int) := by omega
                clear hc hT hTl
                go_wp2_with fail
                go_loopg [6] T.size (fun qq xk wr => ∃ k : Nat, k ≤ T.size ∧ qq = T.size - k ∧ xk = .int .i64 (k : Int) ∧ Hid ((T.data.toList.take k).all byteOk = true) ∧ W1 = wr)
                case atStart => exact ⟨0, by omega, by omega, rfl, rfl, rfl⟩
                case round =>
                  obtain ⟨k, hk, rfl, rfl, HSk, rfl⟩ := hrel
                  by_cases hlk : k < T.size
                  · have HTk : Hid ((T.data.toList.take (k + 1)).all byteOk = byteOk T[k]) := by
                      unfold Hid
                      rw [take_snoc T k hlk, List.all_append, HSk.out]
                      simp
                    have HFk : Hid (byteOk T[k] = false → ck = false) := fun hh => by
                      have h3 : T.data.toList.all byteOk = false := all_no (l := T.data.toList) (i := k) (by simpa using hlk) hh
                      rw [HTl.out] at h3
                      rw [HCk3.out, all_no hlt h3]
                      rfl
                    have HBk : Hid (byteOk T[k] = (decide (32 ≤ (T[k].toNat : Int)) && decide ((T[k].toNat : Int) ≤ 126))) := rfl
                    by_cases h1 : (T[k].toNat : Int) < 32
                    · have HE := Lib.hid (HFk.out (by rw [HBk.out, decide_eq_false (by omega)]; rfl))
                      go_wp2_with fail
                      go_ret
                      rw [HE.out]
                      exact ⟨rfl, HB0.out⟩
                    · by_cases h2 : 126 < (T[k].toNat : Int)
                      · have HE := Lib.hid (HFk.out (by rw [HBk.out, decide_eq_false (p := (T[k].toNat : Int) ≤ 126) (by omega)]; simp))
                        go_wp2_with fail
                        go_ret
                        rw [HE.out]
                        exact ⟨rfl, HB0.out⟩
                      · have HX : Hid (byteOk T[k] = true) := by unfold Hid; rw [HBk.out, decide_eq_true (by omega), decide_eq_true (by omega)]; rfl
                        go_wp2_with fail
                        go_roundg (T.size - (k + 1))
                        case measure => omega
                        case rel => exact ⟨k + 1, by omega, rfl, by go_num, by unfold Hid; rw [HTk.out, HX.out], rfl⟩
                  · have HNx : Hid (nameOk ns[i] = true) := by
                      have h3 : T.data.toList.all byteOk = true := all_end (i := k) (by simpa using hlk) HSk.out
                      rw [HTl.out] at h3
                      exact h3
                    go_wp2_with fail
                    go_roundg (ns.length - (i + 1))
                    case measure => omega
                    case rel => exact ⟨i + 1, by omega, rfl, by go_num, all_step hlt HS.out HNx.out, rfl⟩
              · have HCk4 : Hid (ck = ek) := by
                  unfold Hid
                  rw [HCk3.out, all_end hlt HS.out]
                  rfl
                clear HCk3 HS
                cases c with
                | false =>
                  have HK2 : Hid (ck = (decide (x = 0) && decide (y = 0))) := by unfold Hid; rw [HCk4.out, HK.out]; rfl
                  by_cases hx : x = 0
                  · subst hx
                    by_cases hy : y = 0
                    · subst hy
                      have HE : Hid (ck = true) := by unfold Hid; rw [HK2.out]; rfl
                      go_wp2_with fail
                      go_ret
                      rw [HE.out]
                      exact ⟨rfl, HB0.out⟩
                    · have by1 := bne_yes hy
                      have HE : Hid (ck = false) := by unfold Hid; rw [HK2.out, decide_eq_false hy]; rfl
                      go_wp2_with fail
                      go_ret
                      rw [HE.out]
                      exact ⟨rfl, HB0.out⟩
                  · have bx1 := bne_yes hx
                    have HE : Hid (ck = false) := by unfold Hid; rw [HK2.out, decide_eq_false hx]; rfl
                    go_wp2_with fail
                    go_ret
                    rw [HE.out]
                    exact ⟨rfl, HB0.out⟩
                | true =>
                  have HK2 : Hid (ck = (numOk 0 x && numOk 1 y)) := by unfold Hid; rw [HCk4.out, HK.out]; rfl
                  have HKt : Hid ((0 ≤ x ∧ x ≤ 4294967295) ∧ 1 ≤ y ∧ y ≤ 4294967295 → ck = true) := fun hh => by
                    rw [HK2.out, (numOk_iff' 0 x).2 hh.1, (numOk_iff' 1 y).2 hh.2]
                    rfl
                  have HKf : Hid (¬ ((0 ≤ x ∧ x ≤ 4294967295) ∧ 1 ≤ y ∧ y ≤ 4294967295) → ck = false) := fun hh => by
                    rw [HK2.out]
                    cases h1 : numOk 0 x with
                    | false => rfl
                    | true =>
                      cases h2 : numOk 1 y with
                      | false => rfl
                      | true => exact (hh ⟨(numOk_iff' 0 x).1 h1, (numOk_iff' 1 y).1 h2⟩).elim
                  by_cases g1 : x < 0
                  · have HE := Lib.hid (HKf.out (by omega))
                    go_wp2_with fail
                    go_ret
                    rw [HE.out]
                    exact ⟨rfl, HB0.out⟩
                  · by_cases g2 : 4294967295 < x
                    · have HE := Lib.hid (HKf.out (by omega))
                      go_wp2_with fail
                      go_ret
                      rw [HE.out]
                      exact ⟨rfl, HB0.out⟩
                    · by_cases g3 : y < 1
                      · have HE := Lib.hid (HKf.out (by omega))
                        go_wp2_with fail
                        go_ret
                        rw [HE.out]
                        exact ⟨rfl, HB0.out⟩
                      · by_cases g4 : 4294967295 < y
                        · have HE := Lib.hid (HKf.out (by omega))
                          go_wp2_with fail
                          go_ret
                          rw [HE.out]
                          exact ⟨rfl, HB0.out⟩
                        · have HE := Lib.hid (HKt.out (by omega))
                          go_wp2_with fail
                          go_ret
                          rw [HE.out]
                          exact ⟨rfl, HB0.out⟩
end Go.Proofs.YthcleaflhljdlaaGreatDoor
